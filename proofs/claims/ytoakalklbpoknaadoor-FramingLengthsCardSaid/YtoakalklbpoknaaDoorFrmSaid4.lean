/-
  Layer 10 (framing): the walk of FramingLengths at whole numbers, as the frame asks it.
-/
import Derived.Test.YtoakalklbpoknaaDoorFrmLens
import Derived.Test.YtoakalklbpoknaaDoorFrame
namespace Go.Proofs.YtoakalklbpoknaaDoor.Frm
open Go.RowKit Base Txt

theorem framingLengths_law (a x y z : Int) (one : Bool) (W : World) (ha : 0 ≤ a ∧ a ≤ 4294967295) (hx : 0 ≤ x ∧ x ≤ 255) (hy : 0 ≤ y ∧ y ≤ 255) (hz : 0 ≤ z ∧ z ≤ 255) :
    Calls Tryd.prog 7 #[.int .u32 a, .int .u8 x, .int .u8 y, .int .u8 z, .bool one] W fun e w' => e = .returned (.bool true) ∧ Below W.heap.size W w' := by
  obtain ⟨a, rfl⟩ := Int.eq_ofNat_of_zero_le ha.1
  obtain ⟨x, rfl⟩ := Int.eq_ofNat_of_zero_le hx.1
  obtain ⟨y, rfl⟩ := Int.eq_ofNat_of_zero_le hy.1
  obtain ⟨z, rfl⟩ := Int.eq_ofNat_of_zero_le hz.1
  exact framingLengths_any a x y z one W (by omega) (by omega) (by omega) (by omega)
end Go.Proofs.YtoakalklbpoknaaDoor.Frm
