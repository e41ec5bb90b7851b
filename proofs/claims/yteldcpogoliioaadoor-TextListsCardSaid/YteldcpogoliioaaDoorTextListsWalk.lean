/-
  Layer 3 (text): the walk of TextLists: it returns true, and writes nothing that was there.
-/
import Derived.Test.YteldcpogoliioaaDoorTextLists
import Derived.Test.YteldcpogoliioaaDoorTextFields
namespace Go.Proofs.YteldcpogoliioaaDoor.Txt
open Go.RowKit Base Oct

theorem conv_one (w : World) (x : UInt8) : (convert 32 9 (.slice (some ⟨w.heap.size, 0, none⟩) 1 1)).run Tryd.prog (w.alloc (.cells #[.int .u8 x.toNat] 5)) = .ok (.string ⟨#[x]⟩) (w.alloc (.cells #[.int .u8 x.toNat] 5)) := by
  refine conv_str (w.alloc _) (some ⟨w.heap.size, 0, none⟩) 1 1 [x] ⟨rfl, fun _ => ⟨w.heap.size, 0, rfl, by simp, fun k hk => ?_⟩⟩
  obtain rfl : k = 0 := by omega
  exact cell_of_row (w.alloc (.cells #[.int .u8 x.toNat] 5)) w.heap.size 0 #[.int .u8 x.toNat] 5 (0, 0) (heap_alloc_new w _)
theorem ba_app (a b : ByteArray) : (a ++ b).data.toList = a.data.toList ++ b.data.toList := by simp
theorem lines_snoc (ls : List (List UInt8)) (k : Nat) (h : k < ls.length) : ls.take (k + 1) = ls.take k ++ [ls[k]?.getD []] := by
  rw [List.take_succ_eq_append_getElem h, List.getElem?_eq_getElem h]; rfl

theorem not_plain (x : UInt8) (h : plain x = false) : (x.toNat : Int) = 44 ∨ (x.toNat : Int) = 32 ∨ (x.toNat : Int) = 9 := by
  simp only [plain, Bool.and_eq_false_iff, Bool.not_eq_false', beq_iff_eq] at h
  rcases h with (rfl | rfl) | rfl
  · exact .inl rfl
  · exact .inr (.inl rfl)
  · exact .inr (.inr rfl)
theorem is_plain (x : UInt8) (h : plain x = true) : ¬ (x.toNat : Int) = 44 ∧ ¬ (x.toNat : Int) = 32 ∧ ¬ (x.toNat : Int) = 9 := by
  simp only [plain, Bool.and_eq_true, Bool.not_eq_true', beq_eq_false_iff_ne] at h
  obtain ⟨⟨h1, h2⟩, h3⟩ := h
  exact ⟨fun e => h1 (UInt8.toNat_inj.1 (by show x.toNat = 44; omega)), fun e => h2 (UInt8.toNat_inj.1 (by show x.toNat = 32; omega)), fun e => h3 (UInt8.toNat_inj.1 (by show x.toNat = 9; omega))⟩
theorem third_sep (k : Nat) (h : 0 < k) : (third ⟨#[44]⟩ ⟨#[32, 44]⟩ ⟨#[44, 32, 9]⟩ (k % 3)).data.toList = sepAt k := by
  unfold sepAt
  rw [if_neg (by omega)]
  rcases (by omega : k % 3 = 0 ∨ k % 3 = 1 ∨ k % 3 = 2) with e | e | e <;> rw [e] <;> rfl

section code
set_option maxHeartbeats 3000000
attribute [local go_sem] Base.some_undef
set_option maxRecDepth 10000 in
theorem textLists_law (a : Option Addr) (n cap : Nat) (ls : List (List UInt8)) (w : World) (hv : Lines w a n ls) (hn : n ≤ maxLen) (hlen : ∀ l ∈ ls, l.length ≤ maxLen) :
    Calls Tryd.prog 6 #[.slice a n cap] w fun e w' => e = .returned (.bool true) ∧ Below w.heap.size w w' := by
  unfold maxLen at hn hlen
  have HV := Lib.hid hv
  have HL := Lib.hid hv.1
  have HLE := Lib.hid hlen
  clear hv hlen
  rcases Nat.lt_or_ge 8 n with hbig | hsm
  · go_enter Tryd.func6, Tryd.ntmps6
    go_wp2_with (go_at_call 7; with_reducible refine (known_any _).mono ?_; rintro e w1 ⟨rfl, hb⟩)
    go_ret
    exact ⟨rfl, hb⟩
  rcases Nat.eq_zero_or_pos n with hz | hp
  · subst hz
    go_enter Tryd.func6, Tryd.ntmps6
    go_wp2_with (go_at_call 7; with_reducible refine (known_any _).mono ?_; rintro e w1 ⟨rfl, hb⟩)
    go_ret
    exact ⟨rfl, hb⟩
  have hn8 : (n : Int) ≤ 8 := by omega
  have hn0 : ((n : Int) == 0) = false := beq_eq_false_iff_ne.2 (by omega)
  obtain ⟨i0, hi, hz0, hz1, hz2⟩ := info_parts text_info
  have G1 := Lib.hid hi; have G2 := Lib.hid hz0; have G3 := Lib.hid hz1; have G4 := Lib.hid hz2
  clear hi hz0 hz1 hz2
  go_enter Tryd.func6, Tryd.ntmps6
  go_wp2_with (go_at_call 7; with_reducible refine (known_any _).mono ?_; rintro e w1 ⟨rfl, hb⟩)
  have HB1 := Lib.hid hb
  clear hb
  go_loopw [3, 4, 5] (fun s v i wr => ∃ (k : Nat) (S : ByteArray), k ≤ n ∧ i = .int .i64 k ∧ s = .string S ∧ S.size ≤ 33 * k ∧ Hid (S.data.toList = joined ls k) ∧ Hid (∀ l ∈ ls.take k, l.length ≤ 30) ∧ Hid (wr.ownsRow w1.heap.size 9 1 v k (((words ls k).map ba).map Value.string)) ∧ Hid (Below w1.heap.size w1 wr)) (fun _ _ i _ => n - (intOf i).toNat)
  case atStart => exact ⟨0, ⟨#[]⟩, Nat.zero_le _, rfl, rfl, Nat.le_refl _, Lib.hid rfl, Lib.hid (by simp), Lib.hid ⟨rfl, .inl ⟨rfl, rfl⟩⟩, Lib.hid (Below.refl _ _)⟩
  case round =>
    obtain ⟨k, S, hk, rfl, rfl, hS, hSj, hL30, hown, hbr⟩ := hrel
    rcases Nat.lt_or_ge k n with hlt | hge
    · have hVr := Lib.hid (HV.out.below (Base.below_step HB1.out hbr.out))
      obtain ⟨bl, off, rfl, hbl, hc⟩ := hVr.out.2 (by omega)
      obtain ⟨ak, ck, hck, hnk⟩ := hc k hlt
      have hkl : k < ls.length := by rw [HL.out]; exact hlt
      have hsl := Lib.hid (lines_snoc ls k hkl)
      have hjs := Lib.hid (joined_snoc ls k)
      have hws := Lib.hid (words_snoc ls k)
      have hll : (ls[k]?.getD []).length ≤ 9223372036854775807 := by
        rw [List.getElem?_eq_getElem hkl]; exact HLE.out _ (List.getElem_mem _)
      clear hc hkl hVr
      generalize ls[k]?.getD [] = l at *
      rcases Nat.lt_or_ge 30 l.length with hx | hx
      · go_wp2
        go_ret
        exact ⟨rfl, Base.below_step HB1.out hbr.out⟩
      · have HN := Lib.hid hnk
        clear hnk
        go_wp2
        go_loopw [6, 7] (fun u j wq => ∃ (q : Nat) (D : ByteArray), q ≤ l.length ∧ j = .int .i64 q ∧ u = .string D ∧ D.size ≤ q ∧ Hid (D.data.toList = word (l.take q)) ∧ Hid (Below wr.heap.size wr wq)) (fun _ j _ => l.length - (intOf j).toNat)
        case atStart => exact ⟨0, ⟨#[]⟩, Nat.zero_le _, rfl, rfl, Nat.le_refl _, Lib.hid rfl, Lib.hid (Below.refl _ _)⟩
        case round =>
          obtain ⟨q, D, hq, rfl, rfl, hD, hDw, hbq⟩ := hrel
          rcases Nat.lt_or_ge q l.length with hlq | hgq
          · have hck' := (hbq.out.cell (p := ⟨bl, off + k, none⟩) hbl).trans hck
            obtain ⟨b3, o3, rfl, hb3, hcc⟩ := (HN.out.below hbq.out).2 (by omega)
            have hcx := hcc q hlq
            rw [nums_at l q hlq] at hcx
            have hwq := Lib.hid (word_snoc l q hlq)
            have t1 : (q : Int) < (l.length : Int) := by omega
            have t2 : (k : Int) < (n : Int) := by omega
            clear hcc
            generalize l[q] = x at *
            cases hp : plain x with
            | true =>
              obtain ⟨n1, n2, n3⟩ := is_plain x hp
              have m1 : ((x.toNat : Int) != 44) = true := bne_iff_ne.2 n1
              have m2 : ((x.toNat : Int) != 32) = true := bne_iff_ne.2 n2
              have m3 : ((x.toNat : Int) != 9) = true := bne_iff_ne.2 n3
              have hcv := conv_one wr x
              have hv1 : ¬ 9223372036854775807 < D.size + 1 := by omega
              rw [hp, if_pos rfl] at hwq
              go_wp2
              go_roundw
              case rel => exact ⟨q + 1, D ++ ⟨#[x]⟩, by omega, by go_num, rfl, by rw [ByteArray.size_append, show (ByteArray.mk #[x]).size = 1 from rfl]; omega, Lib.hid (by rw [hwq.out, ba_app, hDw.out]), Lib.hid (hbq.out.alloc hbq.out.size _)⟩
              case measure => simp [intOf]; omega
            | false =>
              rw [hp, if_neg (by decide), List.append_nil] at hwq
              rcases not_plain x hp with e | e | e
              all_goals
                rw [e] at hcx
                go_wp2
                go_roundw
                case rel => exact ⟨q + 1, D, by omega, by go_num, rfl, by omega, Lib.hid (by rw [hwq.out]; exact hDw.out), hbq⟩
                case measure => simp [intOf]; omega
          · obtain rfl : q = l.length := by omega
            have hck' := (hbq.out.cell (p := ⟨bl, off + k, none⟩) hbl).trans hck
            have hDl := Lib.hid (show D.data.toList = word l by rw [hDw.out, List.take_of_length_le (Nat.le_refl _)])
            have hDba := Lib.hid (show D = ba (word l) from ba_ext hDl.out)
            have hownq := Lib.hid (own_below hown.out hbq.out)
            have hb1q := Base.below_step hbr.out hbq.out
            have t2 : (k : Int) < (n : Int) := by omega
            have t1 : ¬ (l.length : Int) < (l.length : Int) := by omega
            rcases Nat.eq_zero_or_pos k with h0 | hk0
            · subst h0
              rw [Nat.add_zero] at hck'
              have hv1 : ¬ 9223372036854775807 < S.size + D.size := by omega
              go_wp2_with (at_builtin; (refine wpList_append_own _ rfl _ _ 22 rfl w1.heap.size 9 i0 (.string ByteArray.empty) 1 16 Tryd.underlying22 G1.out G2.out G3.out G4.out rfl (by decide) _ _ _ rfl (hownq.out.alloc _) ⟨wr.heap.size, 0, none⟩ 1 1 [.string D] rfl rfl ?c1 ?c2 ?c3 ?c4 ?c5 ?_))
              first | (case c1 => exact news_one wr _ _) | skip
              case c2 => first | rfl | (intro u hu; obtain rfl : u = .string D := by simpa using hu
                                        rfl)
              first | (case c3 => unfold maxLen; omega) | skip
              first | (case c4 => omega) | skip
              case c5 => first | (have := hb1q.size; simp; omega) | (have := hb1q.size; omega)
              intro v' w' hown' hgr _
              have H2 : Hid (w'.ownsRow w1.heap.size 9 1 v' (0 + 1) (((words ls (0 + 1)).map ba).map Value.string)) := Lib.hid (by
                rw [hws.out]
                rw [hDba.out] at hown'
                simpa using hown')
              have H3 := Lib.hid ((hb1q.alloc hb1q.size _).grown hgr (by have := hb1q.size; simp; omega) (own_base hown.out))
              clear hown' hgr
              go_wp2
              go_roundw
              case rel =>
                refine ⟨0 + 1, S ++ D, by omega, by go_num, rfl, by simp only [ByteArray.size_append]; omega, Lib.hid ?_, Lib.hid ?_, H2, H3⟩
                · rw [hjs.out, ba_app, hSj.out, hDl.out]; rfl
                · rw [hsl.out]
                  intro x hx2
                  rcases List.mem_append.1 hx2 with h | h
                  · exact hL30.out x h
                  · rw [List.mem_singleton.1 h]; exact hx
              case measure => simp [intOf]; omega
            · have t3 : 0 < (k : Int) := by omega
              have hP : (third ⟨#[44]⟩ ⟨#[32, 44]⟩ ⟨#[44, 32, 9]⟩ (k % 3)).size ≤ 3 := third_of (fun x : ByteArray => x.size ≤ 3) _ _ _ (by decide) (by decide) (by decide) _
              have hPs := Lib.hid (third_sep k hk0)
              have hPc := third_cell wr 9 ⟨#[44]⟩ ⟨#[32, 44]⟩ ⟨#[44, 32, 9]⟩ (k % 3) (by omega)
              have hck2 := Lib.cell?_alloc_some (.cells #[.string ⟨#[44]⟩, .string ⟨#[32, 44]⟩, .string ⟨#[44, 32, 9]⟩] 9) hck'
              have e1 : (k : Int).tmod 3 = ((k % 3 : Nat) : Int) := by rw [Int.tmod_eq_emod_of_nonneg (by omega)]; omega
              have q1 : k % 3 < 3 := by omega
              have q2 : ((k % 3 : Nat) : Int) < 3 := by omega
              generalize third ⟨#[44]⟩ ⟨#[32, 44]⟩ ⟨#[44, 32, 9]⟩ (k % 3) = P at *
              generalize k % 3 = r at *
              have hv1 : ¬ 9223372036854775807 < S.size + P.size := by omega
              have hv2 : ¬ 9223372036854775807 < S.size + P.size + D.size := by omega
              go_wp2_with (at_builtin; (refine wpList_append_own _ rfl _ _ 22 rfl w1.heap.size 9 i0 (.string ByteArray.empty) 1 16 Tryd.underlying22 G1.out G2.out G3.out G4.out rfl (by decide) _ _ _ rfl ((hownq.out.alloc _).alloc _) ⟨wr.heap.size + 1, 0, none⟩ 1 1 [.string D] rfl rfl ?d1 ?d2 ?d3 ?d4 ?d5 ?_))
              first | (case d1 => exact fun j u hu => by have := news_one (wr.alloc (.cells #[.string ⟨#[44]⟩, .string ⟨#[32, 44]⟩, .string ⟨#[44, 32, 9]⟩] 9)) (.string D) 9 j u hu; simpa using this) | skip
              case d2 => first | rfl | (intro u hu; obtain rfl : u = .string D := by simpa using hu
                                        rfl)
              first | (case d3 => unfold maxLen; omega) | skip
              first | (case d4 => omega) | skip
              case d5 => first | (have := hb1q.size; simp; omega) | (have := hb1q.size; omega)
              intro v' w' hown' hgr _
              have H2 : Hid (w'.ownsRow w1.heap.size 9 1 v' (k + 1) (((words ls (k + 1)).map ba).map Value.string)) := Lib.hid (by
                rw [hws.out]
                rw [hDba.out] at hown'
                simpa using hown')
              have H3 := Lib.hid (((hb1q.alloc hb1q.size _).alloc (by have := hb1q.size; simp; omega) _).grown hgr (by have := hb1q.size; simp; omega) (own_base hown.out))
              clear hown' hgr
              go_wp2
              go_roundw
              case rel =>
                refine ⟨k + 1, S ++ P ++ D, by omega, by go_num, rfl, by simp only [ByteArray.size_append]; omega, Lib.hid ?_, Lib.hid ?_, H2, H3⟩
                · rw [hjs.out, ba_app, ba_app, hSj.out, hDl.out, hPs.out, List.append_assoc]
                · rw [hsl.out]
                  intro x hx2
                  rcases List.mem_append.1 hx2 with h | h
                  · exact hL30.out x h
                  · rw [List.mem_singleton.1 h]; exact hx
              case measure => simp [intOf]; omega
    · obtain rfl : k = n := by omega
      have hbr2 := Base.below_step HB1.out hbr.out
      have hwl : ((words ls k).map ba).length = k := by rw [List.length_map, words_length]
      have k1 := list_joined ls S k hp [] [] (by simp) (by simp) (by rw [List.nil_append, List.append_nil]; exact hSj.out)
      have k2 := list_joined ls (({ data := #[32] } : ByteArray) ++ S ++ { data := #[32] }) k hp [32] [32] (by decide) (by decide) (by rw [ba_app, ba_app, hSj.out, List.append_assoc])
      have hs2 : (({ data := #[32] } : ByteArray) ++ S ++ { data := #[32] }).size ≤ 1000 := by
        rw [ByteArray.size_append, ByteArray.size_append, show (ByteArray.mk #[32]).size = 1 from rfl]; omega
      obtain ⟨Aw, cw, rfl, hWt⟩ := Strs.of_own (ss := (words ls k).map ba) hown.out
      have HWt := Lib.hid hWt
      clear hown hWt
      generalize hWW : (words ls k).map ba = WW at *
      clear hWW
      obtain ⟨N2, hN2⟩ : ∃ N2, N2 = k + k := ⟨_, rfl⟩
      have kl1 : list [S] = WW := by rw [list, List.flatMap_singleton, k1]
      have kl2 : list [({ data := #[32] } : ByteArray) ++ S ++ { data := #[32] }, S] = WW ++ WW := by
        rw [list, List.flatMap_cons, List.flatMap_singleton, k1, k2]
      have hsS : S.size ≤ 1000 := by omega
      have h1 := Lib.hid ((list_any (some ⟨wr.heap.size, 0, none⟩) 1 1 [S] (wr.alloc (.cells #[.string S] 9)) (Strs.one wr _ rfl _ S) (by simp [room]; omega)).mono
        (R' := fun e w' => ∃ b c, e = .returned (.slice b k c) ∧ Strs w' b k WW ∧ Below (wr.alloc (.cells #[.string S] 9)).heap.size (wr.alloc (.cells #[.string S] 9)) w') (by
          rintro e w' ⟨b, m, c, rfl, hm, hSt, hb⟩
          rw [kl1] at hm hSt
          rw [hwl] at hm
          rw [hm] at hSt ⊢
          exact ⟨b, c, rfl, hSt, hb⟩))
      have hv1 : ¬ 9223372036854775807 < 1 + S.size := by omega
      have hv2 : ¬ 9223372036854775807 < 1 + S.size + 1 := by omega
      have h2 := Lib.hid (fun w : World => (list_any (some ⟨w.heap.size, 0, none⟩) 2 2 [({ data := #[32] } : ByteArray) ++ S ++ { data := #[32] }, S] (w.alloc (.cells #[.string (({ data := #[32] } : ByteArray) ++ S ++ { data := #[32] }), .string S] 9)) (Strs.two w _ rfl _ _ S) (by rw [room]; simp only [List.map_cons, List.map_nil, List.sum_cons, List.sum_nil]; omega)).mono
        (R' := fun e w' => ∃ b c, e = .returned (.slice b N2 c) ∧ Strs w' b N2 (WW ++ WW) ∧ Below (w.alloc (.cells #[.string (({ data := #[32] } : ByteArray) ++ S ++ { data := #[32] }), .string S] 9)).heap.size (w.alloc (.cells #[.string (({ data := #[32] } : ByteArray) ++ S ++ { data := #[32] }), .string S] 9)) w') (by
          rintro e w' ⟨b, m, c, rfl, hm, hSt, hb⟩
          rw [kl2] at hm hSt
          rw [List.length_append, hwl, ← hN2] at hm
          rw [hm] at hSt ⊢
          exact ⟨b, c, rfl, hSt, hb⟩))
      have HN2 := Lib.hid hN2
      have e1 : 2 * (k : Int) = (N2 : Int) := by omega
      have e0 : wrap64 (N2 : Int) = (N2 : Int) := by unfold wrap64; omega
      clear kl1 kl2 k1 k2 hN2 hSj hL30
      go_wp2_with (first
        | (go_at_call 18; with_reducible refine h1.out.mono ?_; rintro e w2 ⟨b2, c2, rfl, hS2, hb2⟩)
        | (go_at_call 18; with_reducible refine (h2.out _).mono ?_; rintro e w3 ⟨b3, c3, rfl, hS3, hb3⟩))
      have hb12 : Below wr.heap.size wr w2 := Base.below_step ((Below.refl _ _).alloc (Nat.le_refl _) _) hb2
      have hb23 : Below w2.heap.size w2 w3 := Base.below_step ((Below.refl _ _).alloc (Nat.le_refl _) _) hb3
      obtain ⟨bx, ox, rfl, _, hcx⟩ := (hS2.below hb23).2 hp
      obtain ⟨bw, ow, rfl, _, hcw⟩ := (HWt.out.below (Base.below_step hb12 hb23)).2 hp
      obtain ⟨by', oy, rfl, _, hcy⟩ := hS3.2 (by have := HN2.out; omega)
      have HX := Lib.hid hcx; have HW := Lib.hid hcw; have HY := Lib.hid hcy
      have hfin := Lib.hid (Base.below_step hbr2 (Base.below_step hb12 hb23))
      have HWL := Lib.hid hwl
      clear hcx hcw hcy hb12 hb23 hb2 hb3 hS2 hS3 HWt h1 h2 hwl hbr hbr2 e1 e0
      go_loopw [11] (fun i wq => ∃ j q : Nat, j ≤ k ∧ i = .int .i64 j ∧ wq = w3.drewN q) (fun i _ => k - (intOf i).toNat)
      case atStart => exact ⟨0, 0, Nat.zero_le _, rfl, rfl⟩
      case round =>
        obtain ⟨j, q, hj, rfl, rfl⟩ := hrel
        rcases Nat.lt_or_ge j k with hlt | hge
        · have c1 := HX.out j hlt
          have c2 := HW.out j hlt
          have c3 := HY.out j (by have := HN2.out; omega)
          have c4 := HY.out (j + k) (by have := HN2.out; omega)
          rw [List.getElem?_append_left (by rw [HWL.out]; exact hlt)] at c3
          rw [List.getElem?_append_right (by rw [HWL.out]; omega), HWL.out, Nat.add_sub_cancel] at c4
          generalize WW[j]?.getD ByteArray.empty = v at *
          have i1 : (j : Int) < (k : Int) := by omega
          have i2 : (j : Int) < (N2 : Int) := by have := HN2.out; omega
          have i3 : (j : Int) + (k : Int) < (N2 : Int) := by have := HN2.out; omega
          have i6 : 0 ≤ (j : Int) + (k : Int) := by omega
          have i4 : ((j : Int) + (k : Int)).toNat = j + k := by omega
          have i5 : wrap64 ((j : Int) + (k : Int)) = (j : Int) + (k : Int) := by clear i4; unfold wrap64; omega
          go_wp2_with fail
          go_quiet (fail)
          rename_i nq
          clear i4 i5 i6 i3 i2 c1 c2 c3 c4
          go_wp2
          go_roundw
          case rel =>
            refine ⟨j + 1, q + nq, by omega, by go_num, ?_⟩
            first | rfl | rw [World.drewN_drewN]
          case measure => simp [intOf]; omega
        · obtain rfl : j = k := by omega
          have i1 : ¬ (j : Int) < (j : Int) := by omega
          go_wp2
          go_ret
          exact ⟨rfl, Base.below_drewN hfin.out _⟩
end code
end Go.Proofs.YteldcpogoliioaaDoor.Txt
