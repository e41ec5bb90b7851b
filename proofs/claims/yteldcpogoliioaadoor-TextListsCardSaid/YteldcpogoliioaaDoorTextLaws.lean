/-
  Layer 3 (text): the laws' helpers: which texts and fields may be asked; that a list is known.
-/
import Derived.Test.YteldcpogoliioaaDoorTextRef2
import Derived.Test.YteldcpogoliioaaDoorTextWithout
namespace Go.Proofs.YteldcpogoliioaaDoor.Txt
open Go.RowKit Base Oct

def smallOf (ss : List ByteArray) : Bool := decide (ss.length ≤ 12) && ss.all fun s => decide (s.size ≤ 60)
def fieldsOk (fs : List Fld) : Bool := decide (fs.length ≤ 20) && fs.all fun f => decide (f.1.size + f.2.size ≤ 120)
theorem small_spec {ss : List ByteArray} (h : smallOf ss = true) : ss.length ≤ 12 ∧ ∀ s ∈ ss, s.size ≤ 60 := by
  simpa [smallOf] using h
theorem fields_spec {fs : List Fld} (h : fieldsOk fs = true) : fs.length ≤ 20 ∧ ∀ f ∈ fs, f.1.size + f.2.size ≤ 120 := by
  simp only [fieldsOk, Bool.and_eq_true, decide_eq_true_eq, List.all_eq_true] at h
  exact h

section code
set_option maxHeartbeats 1000000
theorem small_any (a : Option Addr) (n cap : Nat) (ss : List ByteArray) (w : World) (hv : Strs w a n ss) : Calls Tryd.prog 8 #[.slice a n cap] w fun e w' => e = .returned (.bool (smallOf ss)) ∧ w' = w := by
  have HV := Lib.hid hv
  have HL := Lib.hid hv.1
  clear hv
  rcases Nat.lt_or_ge 12 n with hbig | hsm
  · have hf := Lib.hid (show smallOf ss = false by unfold smallOf; rw [decide_eq_false (by rw [HL.out]; omega)]; rfl)
    go_enter Tryd.func8, Tryd.ntmps8
    go_wp2
    go_ret
    exact ⟨by rw [hf.out]; rfl, rfl⟩
  · go_enter Tryd.func8, Tryd.ntmps8
    go_wp2
    go_loop [3] (fun i => ∃ k : Nat, k ≤ n ∧ i = .int .i64 k ∧ Hid (∀ s ∈ ss.take k, s.size ≤ 60)) (fun i => n - (intOf i).toNat)
    case atStart => exact ⟨0, Nat.zero_le _, rfl, Lib.hid (by simp)⟩
    case round =>
      obtain ⟨k, hk, rfl, hno⟩ := hrel
      rcases Nat.lt_or_ge k n with hlt | hge
      · obtain ⟨bl, off, rfl, hbl, hc⟩ := HV.out.2 (by omega)
        have hck := hc k hlt
        have hkl : k < ss.length := by rw [HL.out]; exact hlt
        have hsn := Lib.hid (strs_snoc ss k hkl)
        have hmem := Lib.hid (show ss[k]?.getD ByteArray.empty ∈ ss by rw [List.getElem?_eq_getElem hkl]; exact List.getElem_mem _)
        clear hc hkl
        generalize ss[k]?.getD ByteArray.empty = x at *
        rcases Nat.lt_or_ge 60 x.size with hx | hx
        · have hf := Lib.hid (show smallOf ss = false from Bool.eq_false_iff.2 fun h => by have := (small_spec h).2 x hmem.out; omega)
          go_wp2
          go_ret
          exact ⟨by rw [hf.out]; rfl, rfl⟩
        · go_wp2
          go_round
          case rel =>
            refine ⟨k + 1, by omega, by go_num, Lib.hid ?_⟩
            rw [hsn.out]
            intro s hs
            rcases List.mem_append.1 hs with h | h
            · exact hno.out s h
            · obtain rfl : s = x := by simpa using h
              exact hx
          case measure => simp [intOf]; omega
      · obtain rfl : k = n := by omega
        have hall := hno.out
        rw [List.take_of_length_le (by rw [HL.out]; omega)] at hall
        have hf := Lib.hid (show smallOf ss = true by simp only [smallOf, Bool.and_eq_true, decide_eq_true_eq, List.all_eq_true]; exact ⟨by rw [HL.out]; exact hsm, hall⟩)
        go_wp2
        go_ret
        exact ⟨by rw [hf.out]; rfl, rfl⟩

theorem fieldsOk_any (a : Option Addr) (n cap : Nat) (fs : List Fld) (w : World) (hv : Flds w a n fs) (hn : n ≤ maxLen) (hs : ∀ f ∈ fs, f.1.size ≤ 140737488351232 ∧ f.2.size ≤ 140737488351232) : Calls Tryd.prog 20 #[.slice a n cap] w fun e w' => e = .returned (.bool (fieldsOk fs)) ∧ Below w.heap.size w w' := by
  unfold maxLen at hn
  have HV := Lib.hid hv
  have HL := Lib.hid hv.1
  have HS := Lib.hid hs
  clear hv hs
  rcases Nat.lt_or_ge 20 n with hbig | hsm
  · have hf := Lib.hid (show fieldsOk fs = false by unfold fieldsOk; rw [decide_eq_false (by rw [HL.out]; omega)]; rfl)
    go_enter Tryd.func20, Tryd.ntmps20
    go_wp2
    go_ret
    exact ⟨by rw [hf.out]; rfl, Below.refl _ _⟩
  · go_enter Tryd.func20, Tryd.ntmps20
    go_wp2
    go_loopw [3] (fun i wr => ∃ k q : Nat, k ≤ n ∧ i = .int .i64 k ∧ wr = w.drewN q ∧ Hid (∀ f ∈ fs.take k, f.1.size + f.2.size ≤ 120)) (fun i _ => n - (intOf i).toNat)
    case atStart => exact ⟨0, 0, Nat.zero_le _, rfl, rfl, Lib.hid (by simp)⟩
    case round =>
      obtain ⟨k, q, hk, rfl, rfl, hno⟩ := hrel
      rcases Nat.lt_or_ge k n with hlt | hge
      · obtain ⟨bl, off, rfl, hbl, hc⟩ := HV.out.2 (by omega)
        obtain ⟨hc0, hc1⟩ := hc k hlt
        have hkl : k < fs.length := by rw [HL.out]; exact hlt
        have hsn := Lib.hid (flds_snoc fs k hkl)
        have hmem := Lib.hid (show fs[k]?.getD dflt ∈ fs by rw [List.getElem?_eq_getElem hkl]; exact List.getElem_mem _)
        obtain ⟨z0, z1⟩ := HS.out _ hmem.out
        have i1 : (k : Int) < (n : Int) := by omega
        clear hc hkl
        generalize fs[k]?.getD dflt = f at *
        obtain ⟨f0, f1⟩ := f
        simp only at hc0 hc1 z0 z1
        have i2 : wrap64 ((f0.size : Int) + (f1.size : Int)) = (f0.size : Int) + (f1.size : Int) := by unfold wrap64; omega
        rcases Nat.lt_or_ge 120 (f0.size + f1.size) with hx | hx
        · have hf := Lib.hid (show fieldsOk fs = false from Bool.eq_false_iff.2 fun h => by have := (fields_spec h).2 _ hmem.out; simp only at this; omega)
          have i3 : (120 : Int) < (f0.size : Int) + (f1.size : Int) := by omega
          go_wp2_with fail
          go_quiet (fail)
          go_wp2
          go_ret
          exact ⟨by rw [hf.out]; rfl, Base.below_drewN (Base.below_drewN (Below.refl _ _) _) _⟩
        · have i3 : ¬ (120 : Int) < (f0.size : Int) + (f1.size : Int) := by omega
          go_wp2_with fail
          go_quiet (fail)
          rename_i nq
          go_wp2
          go_roundw
          case rel =>
            refine ⟨k + 1, q + nq, by omega, by go_num, ?_, Lib.hid ?_⟩
            · first | rfl | rw [World.drewN_drewN] | exact (World.drewN_drewN _ _ _).symm
            rw [hsn.out]
            intro s hs
            rcases List.mem_append.1 hs with h | h
            · exact hno.out s h
            · obtain rfl : s = (f0, f1) := by simpa using h
              exact hx
          case measure => simp [intOf]; omega
      · obtain rfl : k = n := by omega
        have hall := hno.out
        rw [List.take_of_length_le (by rw [HL.out]; omega)] at hall
        have hf := Lib.hid (show fieldsOk fs = true by simp only [fieldsOk, Bool.and_eq_true, decide_eq_true_eq, List.all_eq_true]; exact ⟨by rw [HL.out]; exact hsm, hall⟩)
        go_wp2
        go_ret
        exact ⟨by rw [hf.out]; rfl, Base.below_drewN (Below.refl _ _) _⟩
end code
end Go.Proofs.YteldcpogoliioaaDoor.Txt
