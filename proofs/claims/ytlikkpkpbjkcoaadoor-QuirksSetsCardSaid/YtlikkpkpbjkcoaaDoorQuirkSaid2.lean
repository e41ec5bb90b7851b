/-
  Layer 5 (quirks): the walks of QuirksSets at whole numbers, as the frame asks it.
-/
import Derived.Test.YtlikkpkpbjkcoaaDoorQuirkLaid
import Derived.Test.YtlikkpkpbjkcoaaDoorQuirkSets
namespace Go.Proofs.YtlikkpkpbjkcoaaDoor.Qk
open Go.RowKit Base
theorem quirksSets_law (a b k : Int) (ha : 0 ≤ a ∧ a ≤ 4294967295) (hb : 0 ≤ b ∧ b ≤ 4294967295) (hk : 0 ≤ k ∧ k ≤ 255) (w : World) (hL : laidMetH Tryd.prog [("parallax/quirks.names", Rows.laid_parallax_quirks_names)] w) :
    Calls Tryd.prog 5 #[.int .u32 a, .int .u32 b, .int .u8 k] w fun e w' => e = .returned (.bool true) ∧ Below w.heap.size w w' := by
  obtain ⟨A, rfl⟩ := Int.eq_ofNat_of_zero_le ha.1
  obtain ⟨B, rfl⟩ := Int.eq_ofNat_of_zero_le hb.1
  obtain ⟨K, rfl⟩ := Int.eq_ofNat_of_zero_le hk.1
  exact quirksSets_any A B K (by omega) (by omega) (by omega) w (tab_of_laid hL)
end Go.Proofs.YtlikkpkpbjkcoaaDoor.Qk
