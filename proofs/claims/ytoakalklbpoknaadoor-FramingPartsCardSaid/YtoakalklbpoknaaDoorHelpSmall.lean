/-
  The laws' help Small: which slices of texts may be asked.
-/
import Derived.Test.YtoakalklbpoknaaDoorTextWords
import Derived.WalkKit
namespace Go.Proofs.YtoakalklbpoknaaDoor.Txt
open Go.RowKit Base

def smallOf (ss : List ByteArray) : Bool := decide (ss.length ≤ 12) && ss.all fun s => decide (s.size ≤ 60)
theorem small_spec {ss : List ByteArray} (h : smallOf ss = true) : ss.length ≤ 12 ∧ ∀ s ∈ ss, s.size ≤ 60 := by
  simpa [smallOf] using h

section code
set_option maxHeartbeats 1000000
theorem small_any (a : Option Addr) (n cap : Nat) (ss : List ByteArray) (w : World) (hv : Strs w a n ss) : Calls Tryd.prog 18 #[.slice a n cap] w fun e w' => e = .returned (.bool (smallOf ss)) ∧ w' = w := by
  have HV := Lib.hid hv
  have HL := Lib.hid hv.1
  clear hv
  rcases Nat.lt_or_ge 12 n with hbig | hsm
  · have hf := Lib.hid (show smallOf ss = false by unfold smallOf; rw [decide_eq_false (by rw [HL.out]; omega)]; rfl)
    go_enter Tryd.func18, Tryd.ntmps18
    go_wp2
    go_ret
    exact ⟨by rw [hf.out]; rfl, rfl⟩
  · go_enter Tryd.func18, Tryd.ntmps18
    go_wp2
    go_loop [3] (fun i => ∃ k : Nat, k ≤ n ∧ i = .int .i64 k ∧ Hid (∀ s ∈ ss.take k, s.size ≤ 60)) (fun i => n - (intOf i).toNat)
    case atStart => exact ⟨0, Nat.zero_le _, rfl, Lib.hid (by simp)⟩
    case round =>
      obtain ⟨k, hk, rfl, hno⟩ := hrel
      rcases Nat.lt_or_ge k n with hlt | hge
      · obtain ⟨bl, off, rfl, hbl, hc⟩ := HV.out.2 (by omega)
        have hck := hc k hlt
        have hkl : k < ss.length := by rw [HL.out]; exact hlt
        have hsn := Lib.hid (strs_snoc ss k hkl)
        have hmem := Lib.hid (show ss[k]?.getD ByteArray.empty ∈ ss by rw [List.getElem?_eq_getElem hkl]; exact List.getElem_mem _)
        clear hc hkl
        generalize ss[k]?.getD ByteArray.empty = x at *
        rcases Nat.lt_or_ge 60 x.size with hx | hx
        · have hf := Lib.hid (show smallOf ss = false from Bool.eq_false_iff.2 fun h => by have := (small_spec h).2 x hmem.out; omega)
          go_wp2
          go_ret
          exact ⟨by rw [hf.out]; rfl, rfl⟩
        · go_wp2
          go_round
          case rel =>
            refine ⟨k + 1, by omega, by go_num, Lib.hid ?_⟩
            rw [hsn.out]
            intro s hs
            rcases List.mem_append.1 hs with h | h
            · exact hno.out s h
            · obtain rfl : s = x := by simpa using h
              exact hx
          case measure => simp [intOf]; omega
      · obtain rfl : k = n := by omega
        have hall := hno.out
        rw [List.take_of_length_le (by rw [HL.out]; omega)] at hall
        have hf := Lib.hid (show smallOf ss = true by simp only [smallOf, Bool.and_eq_true, decide_eq_true_eq, List.all_eq_true]; exact ⟨by rw [HL.out]; exact hsm, hall⟩)
        go_wp2
        go_ret
        exact ⟨by rw [hf.out]; rfl, rfl⟩

end code
end Go.Proofs.YtoakalklbpoknaaDoor.Txt
