/-
  Layer 9 (field): the walk of FieldClauses at whole numbers, as the frame asks it.
-/
import Derived.Test.YtmbjnolikofaoaaFieldClauses
import Derived.Test.YtmbjnolikofaoaaFrame
namespace Go.Proofs.Ytmbjnolikofaoaa.Fd
open Go.RowKit Base

theorem fieldClauses_law (c a : Int) (w : World) (hc : 0 ≤ c ∧ c ≤ 255) (ha : 0 ≤ a ∧ a ≤ 4294967295) :
    Calls Try.prog 5 #[.int .u8 c, .int .u32 a] w fun e w' => e = .returned (.bool true) ∧ Below w.heap.size w w' := by
  obtain ⟨a, rfl⟩ := Int.eq_ofNat_of_zero_le ha.1
  exact fieldClauses_any c a w hc (by omega)
end Go.Proofs.Ytmbjnolikofaoaa.Fd
