/-
  Layer 7 (target): the walk of TargetHosts: it returns true, and writes nothing that was there.
-/
import Derived.Test.YtnlphcchohbhgaaDoorTargetHostWords
import Derived.Test.YtnlphcchohbhgaaDoorTargetKnown
import Derived.Test.YtnlphcchohbhgaaDoorNumReads
namespace Go.Proofs.YtnlphcchohbhgaaDoor.Tgt
open Go.RowKit Base Oct Num Txt

theorem rem_of (a m : Int) (hm : 0 < m) (h : 0 ≤ a) : ∃ r : Nat, (r : Int) < m ∧ a.tmod m = (r : Int) := by
  have h1 := Int.emod_nonneg a (show m ≠ 0 by omega)
  have h2 := Int.emod_lt_of_pos a hm
  exact ⟨(a % m).toNat, by omega, by rw [Int.tmod_eq_emod_of_nonneg h]; omega⟩
theorem small_wrap (N : Nat) (h : (N : Int) < 100000) : wrap64 (N : Int) = (N : Int) := by unfold wrap64; omega
theorem small_add (E : Nat) (h : (E : Int) < 10) : IntKind.i64.wrap (250 + (E : Int)) = ((250 + E : Nat) : Int) := by rw [wrap_in _ (by omega) (by omega)]; omega
theorem small_add2 (E : Nat) (h : (E : Int) < 10) : wrap64 (250 + (E : Int)) = ((250 + E : Nat) : Int) := by unfold wrap64; omega
theorem step_wrap (q : Nat) (h : q < 1000) : wrap64 ((q : Int) + 1) = ((q + 1 : Nat) : Int) := by unfold wrap64; omega
theorem put_small (N : Nat) (h : (N : Int) < 100000) (w : World) : Calls Tryd.prog 19 #[.int .i64 (N : Int)] w fun e w' => e = .returned (.string (str (spell 10 N))) ∧ ∃ m, w' = w.drewN m := by
  have h1 := Num.rput_any (N : Int) w (by omega) (by omega)
  rwa [Int.toNat_natCast] at h1
theorem spell_short (N : Nat) (h : (N : Int) < 100000) : (spell 10 N).length ≤ 17 := spell_len (by decide) 17 N (by omega) (by decide)
theorem app_list (a b : ByteArray) : (a ++ b).data.toList = a.data.toList ++ b.data.toList := by simp

section code
set_option maxHeartbeats 2000000
attribute [local go_sem] Base.some_undef
set_option maxRecDepth 10000 in
theorem targetHosts_any (a : Option Addr) (n cap : Nat) (bs : List UInt8) (port digits k : Int) (w : World) (hv : Nums .u8 w a n (nums bs)) (hn : n ≤ maxLen) (hport : 0 ≤ port) (hdig : 0 ≤ digits) (hk : 0 ≤ k) :
    Calls Tryd.prog 5 #[.slice a n cap, .int .u32 port, .int .u8 digits, .int .u16 k] w fun e w' => e = .returned (.bool true) ∧ Below w.heap.size w w' := by
  unfold maxLen at hn
  have HV := Lib.hid hv
  have hl : bs.length = n := by have := hv.1; rwa [nums, List.length_map] at this
  have HL := Lib.hid hl
  clear hv hl
  rcases Nat.lt_or_ge 30 n with c1 | c1
  · go_enter Tryd.func5, Tryd.ntmps5
    go_wp2_with (go_at_call 7; with_reducible refine (known_any _).mono ?_; rintro e w1 ⟨rfl, hb⟩)
    go_ret
    exact ⟨rfl, hb⟩
  obtain ⟨N, hN, hNm⟩ := rem_of port 100000 (by decide) hport
  have RN := Lib.hid hNm
  clear hNm
  obtain ⟨D, hD, hDm⟩ := rem_of digits 7 (by decide) hdig
  have RD := Lib.hid hDm
  clear hDm
  obtain ⟨E, hE, hEm⟩ := rem_of k 10 (by decide) hk
  have RE := Lib.hid hEm
  clear hEm
  have hE10 : E < 10 := by omega
  have hD7 : D < 7 := by omega
  have hD5 : (D : Int) < 100000 := by omega
  have hE5 : (E : Int) < 100000 := by omega
  have WN := Lib.hid (small_wrap N hN)
  have WD := Lib.hid (small_wrap D hD5)
  have WE := Lib.hid (small_wrap E hE5)
  obtain ⟨L, hL, hLa⟩ : ∃ L : Nat, (250 ≤ L ∧ L < 260) ∧ IntKind.i64.wrap (250 + (E : Int)) = (L : Int) ∧ wrap64 (250 + (E : Int)) = (L : Int) := ⟨250 + E, by omega, small_add E hE, small_add2 E hE⟩
  have WA := Lib.hid hLa
  clear hLa
  obtain ⟨hL1, hL2⟩ := hL
  have HP := Lib.hid (fun w => put_small N hN w)
  have hsp := spell_short N hN
  clear hD5 hE5 hN hD hE hport hdig hk
  go_enter Tryd.func5, Tryd.ntmps5
  go_wp2_with (go_at_call 7; with_reducible refine (known_any _).mono ?_; rintro e w1 ⟨rfl, hb⟩)
  have HB1 := Lib.hid hb
  clear hb
  go_loopw [9, 10, 11] (fun p gd i wr => ∃ (j : Nat) (P : ByteArray), j ≤ n ∧ i = .int .i64 j ∧ p = .string P ∧ gd = .bool (decide (0 < n) && goodOf (bs.take j)) ∧ P.size ≤ j ∧ Hid (P.data.toList = nameOf (bs.take j)) ∧ Hid (Below w1.heap.size w1 wr)) (fun _ _ i _ => n - (intOf i).toNat)
  case atStart => exact ⟨0, ⟨#[]⟩, Nat.zero_le _, rfl, rfl, by simp [goodOf], Nat.le_refl _, Lib.hid rfl, Lib.hid (Below.refl _ _)⟩
  case round =>
    obtain ⟨j, P, hj, rfl, rfl, rfl, hP, hPP, hbr⟩ := hrel
    rcases Nat.lt_or_ge j n with hlt | hge
    · have hjl : j < bs.length := by rw [HL.out]; exact hlt
      obtain ⟨bl, off, rfl, _, hcs⟩ := (HV.out.below (Base.below_step HB1.out hbr.out)).2 (by omega)
      have hck := hcs j hlt
      rw [nums_at bs j hjl] at hck
      have hsn := nameOf_snoc bs j hjl
      have hgn := goodOf_snoc bs j hjl
      obtain ⟨x, hx⟩ : ∃ x, bs[j] = x := ⟨_, rfl⟩
      rw [hx] at hck hsn hgn
      clear hx hcs hjl
      have t1 : (j : Int) < (n : Int) := by omega
      have hn0 : decide (0 < n) = true := decide_eq_true (by omega)
      rw [hn0, Bool.true_and]
      obtain ⟨r, hr13, hxm⟩ := rem_of (x.toNat : Int) 13 (by decide) (by have := x.toNat_lt; exact Int.natCast_nonneg _)
      have hxr : x.toNat % 13 = r := by
        rw [Int.tmod_eq_emod_of_nonneg (Int.natCast_nonneg _)] at hxm
        exact_mod_cast hxm
      rw [hxr] at hsn hgn
      clear hxr
      have hix : ∀ h, (ByteArray.mk #[97, 122, 45, 46, 95, 126, 48, 57, 65, 90, 47, 64, 33])[r]'h = signAt r := by
        intro h
        have h1 := Lib.data_getElem? (ByteArray.mk #[97, 122, 45, 46, 95, 126, 48, 57, 65, 90, 47, 64, 33]) r h
        have h2 : signs13[r]? = some ((ByteArray.mk #[97, 122, 45, 46, 95, 126, 48, 57, 65, 90, 47, 64, 33])[r]'h) := h1
        unfold signAt
        rw [h2]; rfl
      obtain ⟨c, hc⟩ : ∃ c, signAt r = c := ⟨_, rfl⟩
      rw [hc] at hsn
      simp only [hc] at hix
      clear hc
      have hcv := one_conv wr c
      have hv1 : ¬ 9223372036854775807 < P.size + 1 := by omega
      have HSN : Hid ((P ++ ⟨#[c]⟩).data.toList = nameOf (bs.take (j + 1))) := Lib.hid (by rw [hsn, app_list, hPP.out])
      clear hsn
      generalize goodOf (bs.take j) = G at *
      have hgn' : goodOf (bs.take (j + 1)) = (G && decide (r < 10)) := hgn
      have HN0 := Lib.hid hn0
      clear hgn hn0 hPP
      cases G with
      | false =>
        have HGN := Lib.hid (show goodOf (bs.take (j + 1)) = false by rw [hgn', Bool.false_and])
        clear hgn'
        go_wp2
        go_roundw
        case rel => exact ⟨j + 1, P ++ ⟨#[c]⟩, by omega, by go_num, rfl, by first | (rw [HGN.out]; done) | (rw [HGN.out]; rfl) | (rw [HGN.out, HN0.out]; rfl), by rw [ByteArray.size_append, show (ByteArray.mk #[c]).size = 1 from rfl]; omega, HSN, Lib.hid (hbr.out.alloc hbr.out.size (.cells #[.int .u8 c.toNat] 5))⟩
        case measure => simp [intOf]; omega
      | true =>
        rcases Nat.lt_or_ge r 10 with h10 | h10
        · have HGN := Lib.hid (show goodOf (bs.take (j + 1)) = true by rw [hgn', decide_eq_true h10]; rfl)
          have q10 : (r : Int) < 10 := by omega
          clear hgn' h10
          go_wp2
          go_roundw
          case rel => exact ⟨j + 1, P ++ ⟨#[c]⟩, by omega, by go_num, rfl, by first | (rw [HGN.out]; done) | (rw [HGN.out]; rfl) | (rw [HGN.out, HN0.out]; rfl), by rw [ByteArray.size_append, show (ByteArray.mk #[c]).size = 1 from rfl]; omega, HSN, Lib.hid (hbr.out.alloc hbr.out.size (.cells #[.int .u8 c.toNat] 5))⟩
          case measure => simp [intOf]; omega
        · have HGN := Lib.hid (show goodOf (bs.take (j + 1)) = false by rw [hgn', decide_eq_false (by omega)]; rfl)
          have q10 : ¬ (r : Int) < 10 := by omega
          clear hgn' h10
          go_wp2
          go_roundw
          case rel => exact ⟨j + 1, P ++ ⟨#[c]⟩, by omega, by go_num, rfl, by first | (rw [HGN.out]; done) | (rw [HGN.out]; rfl) | (rw [HGN.out, HN0.out]; rfl), by rw [ByteArray.size_append, show (ByteArray.mk #[c]).size = 1 from rfl]; omega, HSN, Lib.hid (hbr.out.alloc hbr.out.size (.cells #[.int .u8 c.toNat] 5))⟩
          case measure => simp [intOf]; omega
    · obtain rfl : j = n := by omega
      have t1 : ¬ (j : Int) < (j : Int) := by omega
      rw [List.take_of_length_le (by rw [HL.out]; exact Nat.le_refl _)]
      have hPf := hPP.out
      rw [List.take_of_length_le (by rw [HL.out]; exact Nat.le_refl _)] at hPf
      have hG : (decide (0 < j) && goodOf bs) = (decide (0 < bs.length) && goodOf bs) := by rw [HL.out]
      rw [hG]
      clear hG hPP
      have hb30 : bs.length ≤ 30 := by rw [HL.out]; exact c1
      have hX1 := host_name bs hb30
      have hX2 := fun p => host_port bs p hb30
      have hX3 := host_no_port bs hb30
      rw [← hPf] at hX1 hX3
      simp only [← hPf] at hX2
      generalize (decide (0 < bs.length) && goodOf bs) = G at *
      have HX1 := Lib.hid hX1; have HX2 := Lib.hid hX2; have HX3 := Lib.hid hX3
      clear hX1 hX2 hX3 hPf hb30
      have hc := Base.below_step HB1.out hbr.out
      have hNm := RN.out; have hNw := WN.out
      go_wp2_with (go_at_call 19; with_reducible refine (HP.out _).mono ?_; rintro e w2 ⟨rfl, nd, hw⟩; rw [hw]; clear hw; replace hc := Base.below_drewN hc nd)
      generalize World.drewN wr nd = w3 at *
      clear hbr HB1 hNm hNw
      go_loop [13] (fun p => ∃ (V : ByteArray) (z : Nat), p = .string V ∧ V.size ≤ 24 ∧ Hid (V.data.toList = List.replicate z 48 ++ spell 10 N)) (fun p => match p with | .string V => 24 - V.size | _ => 0)
      case atStart => exact ⟨_, 0, rfl, by rw [str_size]; omega, Lib.hid rfl⟩
      case round =>
        obtain ⟨V, z, rfl, hVz, hVV⟩ := hrel
        rcases Nat.lt_or_ge V.size D with hd | hd
        · have d1 : (V.size : Int) < (D : Int) := by omega
          have hv1 : ¬ 9223372036854775807 < 1 + V.size := by omega
          have HVN : Hid (((⟨#[48]⟩ : ByteArray) ++ V).data.toList = List.replicate (z + 1) 48 ++ spell 10 N) := Lib.hid (by rw [app_list, hVV.out, List.replicate_succ]; rfl)
          have hvs : ((⟨#[48]⟩ : ByteArray) ++ V).size = 1 + V.size := by rw [ByteArray.size_append]; rfl
          have HVS := Lib.hid hvs
          have hVSZ : ((⟨#[48]⟩ : ByteArray) ++ V).size ≤ 24 := by omega
          have hVS2 : 24 - ((⟨#[48]⟩ : ByteArray) ++ V).size < 24 - V.size := by omega
          have HV1 := Lib.hid hVSZ; have HV2 := Lib.hid hVS2
          clear hvs hVSZ hVS2
          have hDm := RD.out; have hDw := WD.out
          go_wp2
          go_round
          case rel => exact ⟨_, z + 1, rfl, HV1.out, HVN⟩
          case measure => exact HV2.out
        · have d1 : ¬ (V.size : Int) < (D : Int) := by omega
          have hDm := RD.out; have hDw := WD.out
          go_wp2_with fail
          clear hDm hDw d1
          go_loop [14, 15] (fun s i => ∃ (q : Nat) (S : ByteArray), q ≤ L ∧ i = .int .i64 q ∧ s = .string S ∧ S.size ≤ q ∧ Hid (S.data.toList = List.replicate q 97)) (fun _ i => L - (intOf i).toNat)
          case atStart => exact ⟨0, ⟨#[]⟩, Nat.zero_le _, rfl, rfl, Nat.le_refl _, Lib.hid rfl⟩
          case round =>
            obtain ⟨q, S, hq, rfl, rfl, hS, hSS⟩ := hrel
            rcases Nat.lt_or_ge q (L) with hlq | hgq
            · have j1 : (q : Int) < (L : Int) := by omega
              have hv1 : ¬ 9223372036854775807 < S.size + 1 := by omega
              have HSN : Hid ((S ++ (⟨#[97]⟩ : ByteArray)).data.toList = List.replicate (q + 1) 97) := Lib.hid (by rw [app_list, hSS.out, List.replicate_succ'])
              have hSz : (S ++ (⟨#[97]⟩ : ByteArray)).size ≤ q + 1 := by rw [ByteArray.size_append, show (ByteArray.mk #[97]).size = 1 from rfl]; omega
              have HQW := Lib.hid (step_wrap q (by omega))
              clear hL1 hL2 hE10 hD7 hsp
              have hEm := RE.out; have hEw := WE.out; obtain ⟨hEa, hEa2⟩ := WA.out
              go_wp2
              rw [HQW.out]
              clear hEm hEw hEa hEa2
              go_round
              case rel => exact ⟨q + 1, _, by omega, rfl, rfl, hSz, HSN⟩
              case measure => simp [intOf]; omega
            · obtain rfl : q = L := by omega
              have j1 : ¬ (q : Int) < (q : Int) := by omega
              have hSz : S.size = q := by rw [← len, hSS.out, List.length_replicate]
              have u1 : ¬ 9223372036854775807 < P.size + 1 := by omega
              have u2 : ¬ 9223372036854775807 < P.size + 1 + V.size := by omega
              have u3 : ¬ 9223372036854775807 < 1 + V.size := by omega
              have hVs : V.size = (List.replicate z 48 ++ spell 10 N).length := by rw [← hVV.out, len]
              have hpo : portOk V.data.toList = (decide (V.size ≤ 5) && decide (N ≤ 65535)) := by rw [hVV.out, port_ok, hVs]
              have X1 := Lib.hid (fun w => host_known P w (by omega) G HX1.out)
              have X2 := Lib.hid (fun w => host_known (P ++ ⟨#[58]⟩ ++ V) w (by rw [ByteArray.size_append, ByteArray.size_append, show (ByteArray.mk #[58]).size = 1 from rfl]; omega) (G && (decide (V.size ≤ 5) && decide (N ≤ 65535))) (by rw [app_list, app_list, ← hpo, ← HX2.out, List.append_assoc]; rfl))
              have X3 := Lib.hid (fun w => host_known (P ++ ⟨#[58]⟩) w (by rw [ByteArray.size_append, show (ByteArray.mk #[58]).size = 1 from rfl]; omega) false (by rw [app_list]; exact HX3.out))
              have X4 := Lib.hid (fun w => host_known ((⟨#[58]⟩ : ByteArray) ++ V) w (by rw [ByteArray.size_append, show (ByteArray.mk #[58]).size = 1 from rfl]; omega) false (by rw [app_list]; exact host_no_name _))
              have X5 := Lib.hid (fun w => host_known S w (by omega) (decide (S.size ≤ 255)) (by rw [hSS.out, host_long _ (by omega), hSz]))
              clear hSz hVs hpo hSS hVV HX1 HX2 HX3 HP hL1 hL2 hE10 hD7 hsp hVz hP hS hd
              rcases Nat.lt_or_ge 255 S.size with hs5 | hs5
              · have s5 : ¬ (S.size : Int) ≤ 255 := by omega
                rw [decide_eq_false (by omega)] at X5
                have S5 := Lib.hid (show ¬ S.size ≤ 255 by omega)
                clear hs5
                cases G with
                | false =>
                  rw [Bool.false_and] at X2
                  have hEm := RE.out; have hEw := WE.out; obtain ⟨hEa, hEa2⟩ := WA.out; have hNm := RN.out
                  go_wp2_with (first
                    | (go_at_call 13; with_reducible refine (X1.out _).mono ?_; rintro e x1 ⟨rfl, hb⟩; replace hc := Base.below_step hc hb; clear hb)
                    | (go_at_call 13; with_reducible refine (X2.out _).mono ?_; rintro e x2 ⟨rfl, hb⟩; replace hc := Base.below_step hc hb; clear hb)
                    | (go_at_call 13; with_reducible refine (X3.out _).mono ?_; rintro e x3 ⟨rfl, hb⟩; replace hc := Base.below_step hc hb; clear hb)
                    | (go_at_call 13; with_reducible refine (X4.out _).mono ?_; rintro e x4 ⟨rfl, hb⟩; replace hc := Base.below_step hc hb; clear hb)
                    | (go_at_call 13; with_reducible refine (X5.out _).mono ?_; rintro e x5 ⟨rfl, hb⟩; replace hc := Base.below_step hc hb; clear hb))
                  go_ret
                  exact ⟨by first | rfl | (simp; done) | (have h5 := S5.out; simp; omega), hc⟩

                | true =>
                  rw [Bool.true_and] at X2
                  rcases Nat.lt_or_ge 5 V.size with hv5 | hv5
                  · have q5 : ¬ (V.size : Int) ≤ 5 := by omega
                    rw [decide_eq_false (by omega), Bool.false_and] at X2
                    rcases Nat.lt_or_ge 65535 N with hn5 | hn5
                    · have q6 : ¬ (N : Int) ≤ 65535 := by omega
                      have hEm := RE.out; have hEw := WE.out; obtain ⟨hEa, hEa2⟩ := WA.out; have hNm := RN.out
                      go_wp2_with (first
                        | (go_at_call 13; with_reducible refine (X1.out _).mono ?_; rintro e x1 ⟨rfl, hb⟩; replace hc := Base.below_step hc hb; clear hb)
                        | (go_at_call 13; with_reducible refine (X2.out _).mono ?_; rintro e x2 ⟨rfl, hb⟩; replace hc := Base.below_step hc hb; clear hb)
                        | (go_at_call 13; with_reducible refine (X3.out _).mono ?_; rintro e x3 ⟨rfl, hb⟩; replace hc := Base.below_step hc hb; clear hb)
                        | (go_at_call 13; with_reducible refine (X4.out _).mono ?_; rintro e x4 ⟨rfl, hb⟩; replace hc := Base.below_step hc hb; clear hb)
                        | (go_at_call 13; with_reducible refine (X5.out _).mono ?_; rintro e x5 ⟨rfl, hb⟩; replace hc := Base.below_step hc hb; clear hb))
                      go_ret
                      exact ⟨by first | rfl | (simp; done) | (have h5 := S5.out; simp; omega), hc⟩

                    · have q6 : (N : Int) ≤ 65535 := by omega
                      have hEm := RE.out; have hEw := WE.out; obtain ⟨hEa, hEa2⟩ := WA.out; have hNm := RN.out
                      go_wp2_with (first
                        | (go_at_call 13; with_reducible refine (X1.out _).mono ?_; rintro e x1 ⟨rfl, hb⟩; replace hc := Base.below_step hc hb; clear hb)
                        | (go_at_call 13; with_reducible refine (X2.out _).mono ?_; rintro e x2 ⟨rfl, hb⟩; replace hc := Base.below_step hc hb; clear hb)
                        | (go_at_call 13; with_reducible refine (X3.out _).mono ?_; rintro e x3 ⟨rfl, hb⟩; replace hc := Base.below_step hc hb; clear hb)
                        | (go_at_call 13; with_reducible refine (X4.out _).mono ?_; rintro e x4 ⟨rfl, hb⟩; replace hc := Base.below_step hc hb; clear hb)
                        | (go_at_call 13; with_reducible refine (X5.out _).mono ?_; rintro e x5 ⟨rfl, hb⟩; replace hc := Base.below_step hc hb; clear hb))
                      go_ret
                      exact ⟨by first | rfl | (simp; done) | (have h5 := S5.out; simp; omega), hc⟩

                  · have q5 : (V.size : Int) ≤ 5 := by omega
                    rw [decide_eq_true hv5, Bool.true_and] at X2
                    rcases Nat.lt_or_ge 65535 N with hn5 | hn5
                    · have q6 : ¬ (N : Int) ≤ 65535 := by omega
                      rw [decide_eq_false (by omega)] at X2
                      have hEm := RE.out; have hEw := WE.out; obtain ⟨hEa, hEa2⟩ := WA.out; have hNm := RN.out
                      go_wp2_with (first
                        | (go_at_call 13; with_reducible refine (X1.out _).mono ?_; rintro e x1 ⟨rfl, hb⟩; replace hc := Base.below_step hc hb; clear hb)
                        | (go_at_call 13; with_reducible refine (X2.out _).mono ?_; rintro e x2 ⟨rfl, hb⟩; replace hc := Base.below_step hc hb; clear hb)
                        | (go_at_call 13; with_reducible refine (X3.out _).mono ?_; rintro e x3 ⟨rfl, hb⟩; replace hc := Base.below_step hc hb; clear hb)
                        | (go_at_call 13; with_reducible refine (X4.out _).mono ?_; rintro e x4 ⟨rfl, hb⟩; replace hc := Base.below_step hc hb; clear hb)
                        | (go_at_call 13; with_reducible refine (X5.out _).mono ?_; rintro e x5 ⟨rfl, hb⟩; replace hc := Base.below_step hc hb; clear hb))
                      go_ret
                      exact ⟨by first | rfl | (simp; done) | (have h5 := S5.out; simp; omega), hc⟩

                    · have q6 : (N : Int) ≤ 65535 := by omega
                      rw [decide_eq_true hn5] at X2
                      have hEm := RE.out; have hEw := WE.out; obtain ⟨hEa, hEa2⟩ := WA.out; have hNm := RN.out
                      go_wp2_with (first
                        | (go_at_call 13; with_reducible refine (X1.out _).mono ?_; rintro e x1 ⟨rfl, hb⟩; replace hc := Base.below_step hc hb; clear hb)
                        | (go_at_call 13; with_reducible refine (X2.out _).mono ?_; rintro e x2 ⟨rfl, hb⟩; replace hc := Base.below_step hc hb; clear hb)
                        | (go_at_call 13; with_reducible refine (X3.out _).mono ?_; rintro e x3 ⟨rfl, hb⟩; replace hc := Base.below_step hc hb; clear hb)
                        | (go_at_call 13; with_reducible refine (X4.out _).mono ?_; rintro e x4 ⟨rfl, hb⟩; replace hc := Base.below_step hc hb; clear hb)
                        | (go_at_call 13; with_reducible refine (X5.out _).mono ?_; rintro e x5 ⟨rfl, hb⟩; replace hc := Base.below_step hc hb; clear hb))
                      go_ret
                      exact ⟨by first | rfl | (simp; done) | (have h5 := S5.out; simp; omega), hc⟩

              · have s5 : (S.size : Int) ≤ 255 := by omega
                rw [decide_eq_true (by omega)] at X5
                have S5 := Lib.hid (show S.size ≤ 255 by omega)
                clear hs5
                cases G with
                | false =>
                  rw [Bool.false_and] at X2
                  have hEm := RE.out; have hEw := WE.out; obtain ⟨hEa, hEa2⟩ := WA.out; have hNm := RN.out
                  go_wp2_with (first
                    | (go_at_call 13; with_reducible refine (X1.out _).mono ?_; rintro e x1 ⟨rfl, hb⟩; replace hc := Base.below_step hc hb; clear hb)
                    | (go_at_call 13; with_reducible refine (X2.out _).mono ?_; rintro e x2 ⟨rfl, hb⟩; replace hc := Base.below_step hc hb; clear hb)
                    | (go_at_call 13; with_reducible refine (X3.out _).mono ?_; rintro e x3 ⟨rfl, hb⟩; replace hc := Base.below_step hc hb; clear hb)
                    | (go_at_call 13; with_reducible refine (X4.out _).mono ?_; rintro e x4 ⟨rfl, hb⟩; replace hc := Base.below_step hc hb; clear hb)
                    | (go_at_call 13; with_reducible refine (X5.out _).mono ?_; rintro e x5 ⟨rfl, hb⟩; replace hc := Base.below_step hc hb; clear hb))
                  go_ret
                  exact ⟨by first | rfl | (simp; done) | (have h5 := S5.out; simp; omega), hc⟩

                | true =>
                  rw [Bool.true_and] at X2
                  rcases Nat.lt_or_ge 5 V.size with hv5 | hv5
                  · have q5 : ¬ (V.size : Int) ≤ 5 := by omega
                    rw [decide_eq_false (by omega), Bool.false_and] at X2
                    rcases Nat.lt_or_ge 65535 N with hn5 | hn5
                    · have q6 : ¬ (N : Int) ≤ 65535 := by omega
                      have hEm := RE.out; have hEw := WE.out; obtain ⟨hEa, hEa2⟩ := WA.out; have hNm := RN.out
                      go_wp2_with (first
                        | (go_at_call 13; with_reducible refine (X1.out _).mono ?_; rintro e x1 ⟨rfl, hb⟩; replace hc := Base.below_step hc hb; clear hb)
                        | (go_at_call 13; with_reducible refine (X2.out _).mono ?_; rintro e x2 ⟨rfl, hb⟩; replace hc := Base.below_step hc hb; clear hb)
                        | (go_at_call 13; with_reducible refine (X3.out _).mono ?_; rintro e x3 ⟨rfl, hb⟩; replace hc := Base.below_step hc hb; clear hb)
                        | (go_at_call 13; with_reducible refine (X4.out _).mono ?_; rintro e x4 ⟨rfl, hb⟩; replace hc := Base.below_step hc hb; clear hb)
                        | (go_at_call 13; with_reducible refine (X5.out _).mono ?_; rintro e x5 ⟨rfl, hb⟩; replace hc := Base.below_step hc hb; clear hb))
                      go_ret
                      exact ⟨by first | rfl | (simp; done) | (have h5 := S5.out; simp; omega), hc⟩

                    · have q6 : (N : Int) ≤ 65535 := by omega
                      have hEm := RE.out; have hEw := WE.out; obtain ⟨hEa, hEa2⟩ := WA.out; have hNm := RN.out
                      go_wp2_with (first
                        | (go_at_call 13; with_reducible refine (X1.out _).mono ?_; rintro e x1 ⟨rfl, hb⟩; replace hc := Base.below_step hc hb; clear hb)
                        | (go_at_call 13; with_reducible refine (X2.out _).mono ?_; rintro e x2 ⟨rfl, hb⟩; replace hc := Base.below_step hc hb; clear hb)
                        | (go_at_call 13; with_reducible refine (X3.out _).mono ?_; rintro e x3 ⟨rfl, hb⟩; replace hc := Base.below_step hc hb; clear hb)
                        | (go_at_call 13; with_reducible refine (X4.out _).mono ?_; rintro e x4 ⟨rfl, hb⟩; replace hc := Base.below_step hc hb; clear hb)
                        | (go_at_call 13; with_reducible refine (X5.out _).mono ?_; rintro e x5 ⟨rfl, hb⟩; replace hc := Base.below_step hc hb; clear hb))
                      go_ret
                      exact ⟨by first | rfl | (simp; done) | (have h5 := S5.out; simp; omega), hc⟩

                  · have q5 : (V.size : Int) ≤ 5 := by omega
                    rw [decide_eq_true hv5, Bool.true_and] at X2
                    rcases Nat.lt_or_ge 65535 N with hn5 | hn5
                    · have q6 : ¬ (N : Int) ≤ 65535 := by omega
                      rw [decide_eq_false (by omega)] at X2
                      have hEm := RE.out; have hEw := WE.out; obtain ⟨hEa, hEa2⟩ := WA.out; have hNm := RN.out
                      go_wp2_with (first
                        | (go_at_call 13; with_reducible refine (X1.out _).mono ?_; rintro e x1 ⟨rfl, hb⟩; replace hc := Base.below_step hc hb; clear hb)
                        | (go_at_call 13; with_reducible refine (X2.out _).mono ?_; rintro e x2 ⟨rfl, hb⟩; replace hc := Base.below_step hc hb; clear hb)
                        | (go_at_call 13; with_reducible refine (X3.out _).mono ?_; rintro e x3 ⟨rfl, hb⟩; replace hc := Base.below_step hc hb; clear hb)
                        | (go_at_call 13; with_reducible refine (X4.out _).mono ?_; rintro e x4 ⟨rfl, hb⟩; replace hc := Base.below_step hc hb; clear hb)
                        | (go_at_call 13; with_reducible refine (X5.out _).mono ?_; rintro e x5 ⟨rfl, hb⟩; replace hc := Base.below_step hc hb; clear hb))
                      go_ret
                      exact ⟨by first | rfl | (simp; done) | (have h5 := S5.out; simp; omega), hc⟩

                    · have q6 : (N : Int) ≤ 65535 := by omega
                      rw [decide_eq_true hn5] at X2
                      have hEm := RE.out; have hEw := WE.out; obtain ⟨hEa, hEa2⟩ := WA.out; have hNm := RN.out
                      go_wp2_with (first
                        | (go_at_call 13; with_reducible refine (X1.out _).mono ?_; rintro e x1 ⟨rfl, hb⟩; replace hc := Base.below_step hc hb; clear hb)
                        | (go_at_call 13; with_reducible refine (X2.out _).mono ?_; rintro e x2 ⟨rfl, hb⟩; replace hc := Base.below_step hc hb; clear hb)
                        | (go_at_call 13; with_reducible refine (X3.out _).mono ?_; rintro e x3 ⟨rfl, hb⟩; replace hc := Base.below_step hc hb; clear hb)
                        | (go_at_call 13; with_reducible refine (X4.out _).mono ?_; rintro e x4 ⟨rfl, hb⟩; replace hc := Base.below_step hc hb; clear hb)
                        | (go_at_call 13; with_reducible refine (X5.out _).mono ?_; rintro e x5 ⟨rfl, hb⟩; replace hc := Base.below_step hc hb; clear hb))
                      go_ret
                      exact ⟨by first | rfl | (simp; done) | (have h5 := S5.out; simp; omega), hc⟩

end code
end Go.Proofs.YtnlphcchohbhgaaDoor.Tgt
