/-
  Layer 9 (field): the contract of package field's Join.
-/
import Derived.Test.YtmbjnolikofaoaaFieldParse
namespace Go.Proofs.Ytmbjnolikofaoaa.Fd
open Go.RowKit Base Txt Tgt

/-- A value that goes on. -/
def joined (v s : List UInt8) : List UInt8 := v ++ 32 :: trimL Txt.blank s
theorem joined_eq (v s : ByteArray) : v ++ (⟨#[32]⟩ ++ trim s) = ba (joined v.data.toList s.data.toList) := ba_ext (by
  simp only [joined, ByteArray.data_append, Array.toList_append]; rfl)

section code
set_option maxHeartbeats 4000000
set_option maxRecDepth 100000
attribute [local go_sem] Base.some_undef
theorem join_any (n v s : ByteArray) (w : World) (hs : s.size ≤ 1000000000) (hv : v.size ≤ 1000000000) : Calls Try.prog 17 #[fv n v, .string s] w fun e w' => e = .returned (fv n (ba (joined v.data.toList s.data.toList))) ∧ Below w.heap.size w w' := by
  have HT := Lib.hid (fun w => trim_any s w (by unfold maxLen; omega))
  have hT : (trim s).size ≤ s.size := trim_size _ _
  rw [← joined_eq]
  generalize trim s = T at *
  have v1 : ¬ 9223372036854775807 < 1 + T.size := by omega
  have v2 : ¬ 9223372036854775807 < v.size + (1 + T.size) := by omega
  go_enter Try.func17, Try.ntmps17
  go_wp2_with fail
  go_region_with (go_at_call 28; with_reducible refine (HT.out _).mono ?_; rintro e w1 ⟨rfl, hw⟩; rw [hw]; clear hw)
  all_goals
    go_wp2
    exact bodyPost_ret (v := fv n (v ++ (⟨#[32]⟩ ++ T))) (by simp [results, Try.results17, go_sem]) rfl ⟨rfl, Base.below_drewN (((Below.refl _ _).alloc (Nat.le_refl _) _).alloc (by simp) _) 1⟩
end code
end Go.Proofs.Ytmbjnolikofaoaa.Fd
