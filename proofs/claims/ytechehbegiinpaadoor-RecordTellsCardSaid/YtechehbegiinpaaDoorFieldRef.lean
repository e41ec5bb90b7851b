/-
  Layer 9 (field): the document's Goes, Join, Put: they answer the same as package field's.
-/
import Derived.Test.YtechehbegiinpaaDoorField
import Derived.Test.YtechehbegiinpaaDoorFieldPut
import Derived.Test.YtechehbegiinpaaDoorTextRef
import Derived.Deep.CutBlock
import Derived.Deep.CutRange
import Derived.Deep.DeepCutAuto
namespace Go.Proofs.YtechehbegiinpaaDoor.Fd
open Go.RowKit Base Txt Tgt

theorem rjoined_eq (v s : ByteArray) : (v ++ ⟨#[32]⟩) ++ trim s = ba (joined v.data.toList s.data.toList) := ba_ext (by
  simp only [joined, ByteArray.data_append, Array.toList_append, List.append_assoc]; rfl)
theorem ba_put_snoc (fs : List Fld) (k : Nat) (h : k < fs.length) : ((((ba (put (fs.take k)) ++ (fs[k]?.getD dflt).1) ++ ⟨#[58, 32]⟩) ++ (fs[k]?.getD dflt).2) ++ ⟨#[13, 10]⟩) = ba (put (fs.take (k + 1))) := ba_ext (by
  rw [show (ba (put (fs.take (k + 1)))).data.toList = put (fs.take (k + 1)) from rfl, put_snoc fs k h]
  generalize fs[k]?.getD dflt = f
  simp [line, ba, ByteArray.data_append])

section code
set_option maxHeartbeats 4000000
set_option maxRecDepth 100000
attribute [local go_sem] Base.some_undef
end code
end Go.Proofs.YtechehbegiinpaaDoor.Fd

/-
  Layer 9 (field): the document's Right: it answers the same as package field's. (Its walks are printed by tools/gen_rright.py.)
-/
namespace Go.Proofs.YtechehbegiinpaaDoor.Fd
open Go.RowKit Base Txt Tgt

section code
set_option maxHeartbeats 4000000
set_option maxRecDepth 100000
attribute [local go_sem] Base.some_undef
end code
end Go.Proofs.YtechehbegiinpaaDoor.Fd

/-
  Layer 9 (field): the document's Parse: it answers the same as package field's.
-/
namespace Go.Proofs.YtechehbegiinpaaDoor.Fd
open Go.RowKit Base Txt Tgt

theorem colon_cases (l : List UInt8) : ((58 : UInt8) ∉ l ∧ (cutAt 58 l).2.2 = false) ∨ ∃ j, ∃ h : j < l.length, l[j] = 58 ∧ (58 : UInt8) ∉ l.take j ∧ (cutAt 58 l).1 = l.take j ∧ (cutAt 58 l).2.1 = l.drop (j + 1) ∧ (cutAt 58 l).2.2 = true := by
  rcases cut_cases 58 l with h | ⟨a, r, rfl, h⟩
  · exact .inl ⟨h, by rw [cutAt_none 58 l h]⟩
  · refine .inr ⟨a.length, by simp, by simp, by simpa using h, ?_, ?_, ?_⟩
    · rw [cutAt_app 58 a r h]; simp
    · rw [cutAt_app 58 a r h]; simp
    · rw [cutAt_app 58 a r h]
/-- How long a text in a block is. -/
def nameAt (t : Nat) (w : World) : Nat := match w.cell? ⟨t, 0, none⟩ with
  | some (.string b) => b.size
  | _ => 0
theorem nameAt_of {t : Nat} {w : World} {b : ByteArray} (h : w.cell? ⟨t, 0, none⟩ = some (.string b)) : nameAt t w = b.size := by
  unfold nameAt; rw [h]
theorem Two.set0 {w0 w : World} {n v N V : ByteArray} {t : Nat} (h : Two w0 n v t N V w) (N' : ByteArray) : Two w0 n v t N' V (w.setCell ⟨t, 0, none⟩ (.string N')) := by
  have h1 := h.k.f.other t 0 (.string N') h.ne
  have hb := h.k.b.setCell (p := ⟨t, 0, none⟩) h.ge (.string N')
  obtain ⟨c0, c1, z0, z1⟩ := h.f
  exact ⟨⟨h1, by simpa using h.k.g, hb⟩, ⟨by go_simp, by go_simp, by go_simp, by go_simp⟩, h.ne, by simpa using h.lt, h.ge⟩
theorem not_colon (s : ByteArray) (k : Nat) (h : k < s.size) (j : Nat) (hj : k < j) (hn : (58 : UInt8) ∉ s.data.toList.take j) : ((s[k].toNat : Int) == 58) = false := by
  refine beq_eq_false_iff_ne.2 fun e => hn ?_
  have hl : k < s.data.toList.length := by rw [len]; exact h
  have e1 : s.data.toList[k] = 58 := UInt8.toNat_inj.1 (by show s[k].toNat = 58; omega)
  rw [← e1]
  rw [List.mem_take_iff_getElem]
  exact ⟨k, by omega, rfl⟩

theorem last_of (n0 : List UInt8) (m : Nat) (h : m < n0.length) : ∃ Nn : ByteArray, ba (n0.take (m + 1)) = Nn ∧ Nn.size = m + 1 ∧ (∃ h2 : m < Nn.size, Nn[m] = n0[m]) ∧ Nn.extract 0 m = ba (n0.take m) := by
  have hl : (n0.take (m + 1)).length = m + 1 := by rw [List.length_take]; omega
  refine ⟨_, rfl, by rw [ba_size]; exact hl, ⟨by rw [ba_size]; omega, ?_⟩, ?_⟩
  · show (n0.take (m + 1))[m]'(by omega) = n0[m]
    rw [List.getElem_take]
  · exact ba_ext (by
      rw [Lib.extract_data]
      show ((n0.take (m + 1)).drop 0).take (m - 0) = n0.take m
      rw [List.drop_zero, List.take_take]
      congr 1; omega)
section code
set_option maxHeartbeats 4000000
set_option maxRecDepth 100000
attribute [local go_sem] Base.some_undef
theorem rparse_none (s : ByteArray) (p : Nat) (hp : p < 4294967296) (w : World) (hs : s.size ≤ 1000000000) (hno : (58 : UInt8) ∉ s.data.toList) :
    Calls Tryd.prog 23 #[.string s, .int .u32 (p : Nat)] w fun e w' => e = .returned (rv (out (Qk.has p 11))) ∧ Below w.heap.size w w' := by
  have HH := Lib.hid (fun w => Qk.rhas_any p hp 11 w)
  have HNO := Lib.hid hno
  clear hno
  obtain ⟨b, hb⟩ : ∃ b, Qk.has p 11 = b := ⟨_, rfl⟩
  rw [hb] at HH ⊢
  clear hb
  have hW := Lib.hid (show Below w.heap.size w (w.alloc (.cells #[.string E0, .string E0] 31)) from (Below.refl _ _).alloc (Nat.le_refl _) _)
  go_enter Tryd.func23, Tryd.ntmps23
  go_wp2
  go_loop [7, 8] (fun c i => ∃ k : Nat, k ≤ s.size ∧ c = .int .i64 (-1) ∧ i = .int .i64 k) (fun _ i => s.size - (intOf i).toNat)
  case atStart => exact ⟨0, Nat.zero_le _, rfl, rfl⟩
  case round =>
    obtain ⟨k, hk, rfl, rfl⟩ := hrel
    rcases Nat.lt_or_ge k s.size with hlt | hge
    · have t1 := not_colon s k hlt (k + 1) (by omega) (fun h => HNO.out (List.mem_of_mem_take h))
      go_wp2
      go_round
      case rel => exact ⟨k + 1, by omega, rfl, by go_num⟩
      case measure => simp [intOf]; omega
    · cases b
      · go_wp2_with (go_at_call 35; with_reducible refine (HH.out _).mono ?_; rintro e w1 ⟨rfl, hw⟩; rw [hw]; clear hw)
        exact bodyPost_ret (v := .tuple #[fv E0 E0, .bool false, .int .i64 400]) (by simp [results, Tryd.results23, go_sem]) rfl ⟨rfl, hW.out⟩
      · go_wp2_with (go_at_call 35; with_reducible refine (HH.out _).mono ?_; rintro e w1 ⟨rfl, hw⟩; rw [hw]; clear hw)
        exact bodyPost_ret (v := .tuple #[fv E0 E0, .bool false, .int .i64 0]) (by simp [results, Tryd.results23, go_sem]) rfl ⟨rfl, hW.out⟩
theorem rparse_some (s : ByteArray) (p : Nat) (hp : p < 4294967296) (w : World) (hs : s.size ≤ 1000000000) (j : Nat) (hj : j < s.size) (hc : s[j] = 58) (hno : (58 : UInt8) ∉ s.data.toList.take j) :
    Calls Tryd.prog 23 #[.string s, .int .u32 (p : Nat)] w fun e w' => e = .returned (rv (read (clOf p) (nameL (clOf p) (s.data.toList.take j)) (trimL Txt.blank (s.data.toList.drop (j + 1))))) ∧ Below w.heap.size w w' := by
  have H9 := Lib.hid (fun w => Qk.rhas_any p hp 9 w)
  have H10 := Lib.hid (fun w => Qk.rhas_any p hp 10 w)
  have H12 := Lib.hid (fun w => Qk.rhas_any p hp 12 w)
  have H14 := Lib.hid (fun w => Qk.rhas_any p hp 14 w)
  have e1 : s.extract 0 j = ba (s.data.toList.take j) := ba_ext (by rw [Lib.extract_data]; simp [ba])
  have e2 : s.extract (j + 1) s.size = ba (s.data.toList.drop (j + 1)) := ba_ext (by rw [Lib.extract_data, List.take_of_length_le (by rw [List.length_drop, len]; omega)]; rfl)
  have HT := Lib.hid (fun w => rtrim_any (s.extract (j + 1) s.size) w (by unfold maxLen; rw [ByteArray.size_extract]; omega))
  have hT : trim (s.extract (j + 1) s.size) = ba (trimL Txt.blank (s.data.toList.drop (j + 1))) := by rw [e2]; rfl
  rw [hT] at HT
  have hvl : (trimL Txt.blank (s.data.toList.drop (j + 1))).length ≤ s.size := Nat.le_trans (trimL_length _ _) (by rw [List.length_drop, len]; omega)
  have hnl : (s.data.toList.take j).length = j := by rw [List.length_take, len]; omega
  have E1 := Lib.hid e1
  have t0 : ((s[j].toNat : Int) == 58) = true := by rw [hc]; rfl
  have HNC := Lib.hid (fun k (h : k < s.size) (hk : k < j) => not_colon s k h j hk hno)
  clear e1 e2 hT hno hc
  generalize s.data.toList.take j = n0 at *
  generalize trimL Txt.blank (s.data.toList.drop (j + 1)) = v1 at *
  have hW := Lib.hid (show Below w.heap.size w (w.alloc (.cells #[.string E0, .string E0] 31)) from (Below.refl _ _).alloc (Nat.le_refl _) _)
  obtain ⟨R, hR⟩ : ∃ R, rv (read (clOf p) (nameL (clOf p) n0) v1) = R := ⟨_, rfl⟩
  rw [hR]
  have HR0 := Lib.hid hR
  clear hR
  go_enter Tryd.func23, Tryd.ntmps23
  go_upto_block 0 with fail
  go_cut [7, 8] from 10 (fun c i wx => c = .int .i64 (j : Nat) ∧ wx = w.alloc (.cells #[.string E0, .string E0] 31))
  case first =>
    go_wp2_with fail
    go_loop [7, 8] (fun c i => (∃ k : Nat, k ≤ j ∧ c = .int .i64 (-1) ∧ i = .int .i64 k) ∨ (c = .int .i64 (j : Nat) ∧ i = .int .i64 ((j + 1 : Nat) : Int))) (fun _ i => s.size - (intOf i).toNat)
    case atStart => exact .inl ⟨0, Nat.zero_le _, rfl, rfl⟩
    case round =>
      rcases hrel with ⟨k, hk, rfl, rfl⟩ | ⟨rfl, rfl⟩
      · have hlt : k < s.size := by omega
        rcases Nat.lt_or_ge k j with hkj | hkj
        · have t1 := HNC.out k hlt hkj
          clear t0
          go_wp2
          go_round
          case rel => exact .inl ⟨k + 1, by omega, rfl, by go_num⟩
          case measure => simp [intOf]; omega
        · obtain rfl : k = j := by omega
          go_wp2
          go_round
          case rel => exact .inr ⟨rfl, by go_num⟩
          case measure => simp [intOf]; omega
      · have q0 : ¬ (j : Int) < 0 := by omega
        go_wp2
        all_goals
          go_meet
          case rel => exact ⟨rfl, rfl⟩
  case rest =>
    obtain ⟨rfl, hw0⟩ := hcut
    rw [hw0]
    clear hw0
    have q0 : ¬ (j : Int) < 0 := by omega
    have q1 : (0 : Int) ≤ (j : Int) := by omega
    have q2 : (j : Int) ≤ (s.size : Int) := by omega
    have q3 : IntKind.i64.wrap ((j : Int) + 1) = ((j + 1 : Nat) : Int) := by rw [wrap_in _ (by omega) (by omega)]; omega
    have q4 : ((j + 1 : Nat) : Int) ≤ (s.size : Int) := by omega
    have q5 : (0 : Int) ≤ ((j + 1 : Nat) : Int) := by omega
    go_upto_region 11 with fail
    go_cut [9] from 31 (fun f wx => f = .pointer (some ⟨w.heap.size + 1, 0, none⟩) ∧ wx = ((w.alloc (.cells #[.string E0, .string E0] 31)).alloc (.cells #[.string (s.extract 0 j), .string (ba v1)] 31)).drew)
    case first =>
      go_region_with (go_at_call 36; with_reducible refine (HT.out _).mono ?_; rintro e w1 ⟨rfl, hw⟩; rw [hw]; clear hw)
      all_goals
        go_wp2_with fail
        go_meet
        case rel => exact ⟨rfl, rfl⟩
    case rest =>
      obtain ⟨rfl, hw0⟩ := hcut
      have hts : (w.alloc (.cells #[.string E0, .string E0] 31)).heap.size = w.heap.size + 1 := by simp
      have HX := (Two.new (Keep.new w 31 E0 E0) 31 (s.extract 0 j) (ba v1)).drew 1
      rw [hts, E1.out] at HX
      rw [E1.out] at hw0
      replace HX := Lib.hid (show Two w E0 E0 (w.heap.size + 1) (ba n0) (ba v1) wc by rw [hw0]; exact HX)
      clear hw0 hts hW HT E1 HNC t0 q0 q1 q2 q3 q4 q5
      have htz : w.heap.size + 1 = w.heap.size + 1 := rfl
      generalize w.heap.size + 1 = t at *
      clear htz
      have hnf : ∀ x, nameL (clOf p) x = if Qk.has p 9 = true then trimEnd x else x := fun _ => rfl
      obtain ⟨sp, hsp⟩ : ∃ sp, Qk.has p 9 = sp := ⟨_, rfl⟩
      rw [hsp] at H9 hnf
      clear hsp
      have HNF := Lib.hid hnf
      clear hnf
      have hn1l := nameL_le (clOf p) n0
      rw [hnl] at hn1l
      go_upto_block 2 with fail
      go_cut [] from 40 (fun wx => Hid (Two w E0 E0 t (ba (nameL (clOf p) n0)) (ba v1) wx))
      case first =>
        go_wp2_with fail
        go_loopw [] (fun wr => ∃ m : Nat, m ≤ j ∧ Hid (Two w E0 E0 t (ba (n0.take m)) (ba v1) wr) ∧ Hid (nameL (clOf p) (n0.take m) = nameL (clOf p) n0)) (fun wr => nameAt t wr)
        case atStart => exact ⟨j, Nat.le_refl _, Lib.hid (by rw [List.take_of_length_le (by omega)]; exact HX.out), Lib.hid (by rw [List.take_of_length_le (by omega)])⟩
        case round =>
          obtain ⟨m, hm, HY, HR⟩ := hrel
          obtain ⟨⟨⟨c0, c1, z0, z1⟩, hg, hbk⟩, ⟨d0, d1, y0, y1⟩, hne, hlt, hge⟩ := HY.out
          have hna := nameAt_of d0
          clear c0 c1 z0 z1 hg hbk hlt hge
          cases sp with
          | false =>
            have HZ := Lib.hid (show Two w E0 E0 t (ba (nameL (clOf p) n0)) (ba v1) wr by
              rw [← HR.out, HNF.out, if_neg (by decide)]; exact HY.out)
            go_wp2_with (go_at_call 35; with_reducible refine (H9.out _).mono ?_; rintro e w1 ⟨rfl, hw⟩; rw [hw]; clear hw)
            go_meet
            case rel => exact HZ
          | true =>
            rcases m with _ | m
            · have HZ := Lib.hid (show Two w E0 E0 t (ba (nameL (clOf p) n0)) (ba v1) wr by
                rw [← HR.out, HNF.out, if_pos rfl]; exact HY.out)
              rw [show ba (n0.take 0) = E0 from rfl] at d0
              go_wp2_with (go_at_call 35; with_reducible refine (H9.out _).mono ?_; rintro e w1 ⟨rfl, hw⟩; rw [hw]; clear hw)
              go_meet
              case rel => exact HZ
            · have hml : m < n0.length := by omega
              have htk := List.take_succ_eq_append_getElem hml
              obtain ⟨Nn, hNn, hsz, ⟨z2, hat⟩, hex⟩ := last_of n0 m hml
              rw [hNn] at d0 hna
              have hno := first_no Nn (by omega)
              have HB : Hid (∀ w, Calls Tryd.prog 37 #[.int .u8 (Nn[m].toNat : Int)] w fun e w' => e = .returned (.bool (Txt.blank n0[m])) ∧ w' = w) := Lib.hid fun w => by
                have := Oct.rblank_any (Nn[m].toNat : Int) w
                rw [blank_is] at this
                rwa [show Txt.blank Nn[m] = Txt.blank n0[m] from congrArg _ hat] at this
              have z1 : IntKind.i64.wrap ((Nn.size : Int) - 1) = (m : Int) := by rw [wrap_in _ (by omega) (by omega)]; omega
              have z3 : (m : Int) < (Nn.size : Int) := by omega
              have z4 : (m : Int) ≤ (Nn.size : Int) := by omega
              have z5 : (0 : Int) ≤ (m : Int) := by omega
              cases hb : Txt.blank n0[m] with
              | false =>
                rw [hb] at HB
                have HZ := Lib.hid (show Two w E0 E0 t (ba (nameL (clOf p) n0)) (ba v1) wr by
                  rw [← HR.out, HNF.out, if_pos rfl, htk, trimEnd_stop _ _ hb, ← htk]; exact HY.out)
                clear hb htk HY HR hex hat hNn
                go_wp2_with (first
                  | (go_at_call 35; with_reducible refine (H9.out _).mono ?_; rintro e w1 ⟨rfl, hw⟩; rw [hw]; clear hw)
                  | (go_at_call 37; with_reducible refine (HB.out _).mono ?_; rintro e w1 ⟨rfl, hw⟩; rw [hw]; clear hw))
                go_meet
                case rel => exact HZ
              | true =>
                rw [hb] at HB
                have HY2 := Lib.hid (HY.out.set0 (Nn.extract 0 m))
                have HR2 := Lib.hid (show nameL (clOf p) (n0.take m) = nameL (clOf p) n0 by
                  rw [← HR.out, HNF.out, HNF.out, if_pos rfl, if_pos rfl, htk, trimEnd_snoc _ _ hb])
                have HE := Lib.hid hex
                clear hb htk HY HR hex hat hNn
                go_wp2_with (first
                  | (go_at_call 35; with_reducible refine (H9.out _).mono ?_; rintro e w1 ⟨rfl, hw⟩; rw [hw]; clear hw)
                  | (go_at_call 37; with_reducible refine (HB.out _).mono ?_; rintro e w1 ⟨rfl, hw⟩; rw [hw]; clear hw))
                have hd := HY2.out.f.c0
                have hs2 : (Nn.extract 0 m).size = m := by rw [ByteArray.size_extract]; omega
                rw [HE.out] at HY2
                go_roundw
                case rel => exact ⟨m, by omega, by first | exact HY2 | (rw [HE.out]; exact HY2), HR2⟩
                case measure => rw [nameAt_of hd, hna]; omega
      case rest =>
        clear HX
        have HX := hcut
        clear hcut H9 HNF
        generalize nameL (clOf p) n0 = n1 at *
        by_cases hn : n1 = []
        · subst hn
          have hRv : R = rv (out (Qk.has p 12)) := by rw [← HR0.out]; rfl
          clear HR0
          generalize Qk.has p 12 = nn at *
          obtain ⟨⟨⟨c0, c1, z0, z1⟩, hg, hbk⟩, ⟨d0, d1, y0, y1⟩, hne, hlt, hge⟩ := HX.out
          obtain ⟨W9, hW9, ⟨r0, r1, _, _⟩, hbW⟩ := Fb.put HX.out.k.f HX.out.k.b (Nat.le_refl _) E0 E0
          rw [show ba [] = E0 from rfl] at d0
          clear hg hbk hlt hge
          cases nn
          · go_wp2_with (go_at_call 35; with_reducible refine (H12.out _).mono ?_; rintro e w1 ⟨rfl, hw⟩; rw [hw]; clear hw)
            try rw [hW9]
            exact bodyPost_ret (v := .tuple #[fv E0 E0, .bool false, .int .i64 400]) (by simp [results, Tryd.results23, go_sem, r0, r1]) rfl ⟨by first | rfl | (rw [hRv]; rfl), hbW⟩
          · go_wp2_with (go_at_call 35; with_reducible refine (H12.out _).mono ?_; rintro e w1 ⟨rfl, hw⟩; rw [hw]; clear hw)
            try rw [hW9]
            exact bodyPost_ret (v := .tuple #[fv E0 E0, .bool false, .int .i64 0]) (by simp [results, Tryd.results23, go_sem, r0, r1]) rfl ⟨by first | rfl | (rw [hRv]; rfl), hbW⟩
        · have t0 := first_no (ba n1) (ba_pos hn)
          have HN := Lib.hid (fun w a (hk : Ints w a 1 [1]) => Oct.rall_any (ba n1) a 1 1 [1] w (by rw [ba_size]; unfold maxLen; omega) hk (by decide))
          have HV := Lib.hid (fun w a (hk : Ints w a 1 [6]) => Oct.rall_any (ba v1) a 1 1 [6] w (by rw [ba_size]; unfold maxLen; omega) hk (by decide))
          rw [show (ba n1).data.toList = n1 from rfl] at HN
          rw [show (ba v1).data.toList = v1 from rfl] at HV
          obtain ⟨G, hG⟩ : ∃ G, (!(goodN (clOf p) n1 && goodV (clOf p) v1)) = G := ⟨_, rfl⟩
          have HG := Lib.hid (show G = !((Qk.has p 10 || Oct.allOf [1] n1) && (Qk.has p 14 || Oct.allOf [6] v1)) from hG.symm)
          have HRv := Lib.hid (show R = if G = true then rv none else rv (some (some (n1, v1))) by
            rw [← HR0.out, ← hG]
            unfold read
            rw [if_neg hn]
            cases (goodN (clOf p) n1 && goodV (clOf p) v1) <;> rfl)
          have HF : Hid (rv (some (some (n1, v1))) = .tuple #[fv (ba n1) (ba v1), .bool true, .int .i64 0]) := Lib.hid rfl
          clear hG HR0 hn hnl hvl hn1l H12
          generalize ba n1 = N1 at *
          generalize ba v1 = V1 at *
          obtain ⟨⟨⟨c0, c1, z0, z1⟩, hg, hbk⟩, ⟨d0, d1, y0, y1⟩, hne, hlt, hge⟩ := HX.out
          clear hg hbk hlt hge c0 c1 z0 z1
          go_upto_region 18 with fail
          go_cut [93] from 72 (fun v wx => v = .bool G ∧ Hid (Two w E0 E0 t N1 V1 wx))
          case first =>
            clear HRv HF t0
            generalize Qk.has p 10 = nb at *
            generalize Qk.has p 14 = vb at *
            generalize Oct.allOf [1] n1 = tn at *
            generalize Oct.allOf [6] v1 = tv at *
            have hGG := HG.out
            clear HG
            cases nb <;> cases tn <;> cases vb <;> cases tv
            all_goals
              obtain rfl := hGG
              go_wp2_with (first
                | (go_at_call 35; with_reducible refine (H10.out _).mono ?_; rintro e w1 ⟨rfl, hw⟩; rw [hw]; clear hw)
                | (go_at_call 35; with_reducible refine (H14.out _).mono ?_; rintro e w1 ⟨rfl, hw⟩; rw [hw]; clear hw)
                | (go_at_call 38; (with_reducible refine (HV.out _ _ (Ints.one _ _ rfl _ _)).mono ?_); rintro e w1 ⟨rfl, m, hw⟩
                   replace HX := Lib.hid ((HX.out.step ((Below.refl _ _).alloc (Nat.le_refl _) (.cells #[.int .i64 6] 3))).drew m)
                   rw [← hw] at HX
                   clear hw)
                | (go_at_call 38; (with_reducible refine (HN.out _ _ (Ints.one _ _ rfl _ _)).mono ?_); rintro e w1 ⟨rfl, m, hw⟩
                   replace HX := Lib.hid ((HX.out.step ((Below.refl _ _).alloc (Nat.le_refl _) (.cells #[.int .i64 1] 3))).drew m)
                   rw [← hw] at HX
                   clear hw d0 d1 y0 y1
                   obtain ⟨d0, d1, y0, y1⟩ := HX.out.f))
              go_meet
              case rel => exact ⟨by rfl, HX⟩
          case rest =>
            obtain ⟨rfl, HY⟩ := hcut
            clear HX HG d0 d1 y0 y1 t0 HN HV H10 H14
            obtain ⟨⟨⟨c0, c1, z0, z1⟩, hg, hbk⟩, ⟨d0, d1, y0, y1⟩, hne, hlt, hge⟩ := HY.out
            clear hg hbk hlt hge
            cases G with
            | true =>
              have hRv := HRv.out
              rw [if_pos rfl] at hRv
              obtain ⟨W9, hW9, ⟨r0, r1, _, _⟩, hbW⟩ := Fb.put HY.out.k.f HY.out.k.b (Nat.le_refl _) E0 E0
              go_wp2_with fail
              try rw [hW9]
              exact bodyPost_ret (v := .tuple #[fv E0 E0, .bool false, .int .i64 400]) (by simp [results, Tryd.results23, go_sem, r0, r1]) rfl ⟨by first | rfl | (rw [hRv]; rfl), hbW⟩
            | false =>
              have hRv := HRv.out
              rw [if_neg (by decide), HF.out] at hRv
              obtain ⟨W9, hW9, ⟨r0, r1, _, _⟩, hbW⟩ := Fb.put HY.out.k.f HY.out.k.b (Nat.le_refl _) N1 V1
              go_wp2_with fail
              try rw [hW9]
              exact bodyPost_ret (v := .tuple #[fv N1 V1, .bool true, .int .i64 0]) (by simp [results, Tryd.results23, go_sem, r0, r1]) rfl ⟨by first | rfl | rw [hRv], hbW⟩
theorem rparse_any (s : ByteArray) (p : Nat) (hp : p < 4294967296) (w : World) (hs : s.size ≤ 1000000000) : Calls Tryd.prog 23 #[.string s, .int .u32 (p : Nat)] w fun e w' => e = .returned (rv (parse (clOf p) s.data.toList)) ∧ Below w.heap.size w w' := by
  rcases colon_cases s.data.toList with ⟨h1, h2⟩ | ⟨j, hj, h1, h2, h3, h4, h5⟩
  · have := rparse_none s p hp w hs h1
    unfold parse
    rw [if_neg (by rw [h2]; decide)]
    exact this
  · have := rparse_some s p hp w hs j (by rw [← len]; exact hj) h1 h2
    unfold parse
    rw [if_pos h5, h3, h4]
    exact this
end code
end Go.Proofs.YtechehbegiinpaaDoor.Fd
