/-
  Layer 10 (framing): the walk of FramingBoth at whole numbers, as the frame asks it.
-/
import Derived.Test.YtoakalklbpoknaaDoorFrmBoth
import Derived.Test.YtoakalklbpoknaaDoorFrame
namespace Go.Proofs.YtoakalklbpoknaaDoor.Frm
open Go.RowKit Base Txt

theorem framingBoth_law (a : Int) (ck : Bool) (n : Int) (order : Bool) (W : World) (ha : 0 ≤ a ∧ a ≤ 4294967295) (hn : 0 ≤ n ∧ n ≤ 255) :
    Calls Tryd.prog 6 #[.int .u32 a, .bool ck, .int .u8 n, .bool order] W fun e w' => e = .returned (.bool true) ∧ Below W.heap.size W w' := by
  obtain ⟨a, rfl⟩ := Int.eq_ofNat_of_zero_le ha.1
  obtain ⟨n, rfl⟩ := Int.eq_ofNat_of_zero_le hn.1
  exact framingBoth_any a ck n order W (by omega) (by omega)
end Go.Proofs.YtoakalklbpoknaaDoor.Frm
