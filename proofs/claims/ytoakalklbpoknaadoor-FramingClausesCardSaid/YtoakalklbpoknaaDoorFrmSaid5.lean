/-
  Layer 10 (framing): the walk of FramingClauses at whole numbers, as the frame asks it.
-/
import Derived.Test.YtoakalklbpoknaaDoorFrmClauses
import Derived.Test.YtoakalklbpoknaaDoorFrame
namespace Go.Proofs.YtoakalklbpoknaaDoor.Frm
open Go.RowKit Base Txt

theorem framingClauses_law (c a : Int) (W : World) (hc : 0 ≤ c ∧ c ≤ 255) (ha : 0 ≤ a ∧ a ≤ 4294967295) :
    Calls Tryd.prog 5 #[.int .u8 c, .int .u32 a] W fun e w' => e = .returned (.bool true) ∧ Below W.heap.size W w' := by
  obtain ⟨a, rfl⟩ := Int.eq_ofNat_of_zero_le ha.1
  exact framingClauses_any c a W hc (by omega)
end Go.Proofs.YtoakalklbpoknaaDoor.Frm
