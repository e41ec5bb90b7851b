/-
  Layer 5 (quirks): the walks at whole numbers, as the frames ask them.
-/
import Derived.Test.YtlikkpkpbjkcoaaDoorQuirkLaid
import Derived.Test.YtlikkpkpbjkcoaaDoorQuirkLaws
namespace Go.Proofs.YtlikkpkpbjkcoaaDoor.Qk
open Go.RowKit Base

theorem quirksNeed_law (c a : Int) (ch old : Bool) (hc : 0 ≤ c ∧ c ≤ 255) (ha : 0 ≤ a ∧ a ≤ 4294967295) (w : World) (hL : laidMetH Tryd.prog [("parallax/quirks.names", Rows.laid_parallax_quirks_names)] w) :
    Calls Tryd.prog 6 #[.int .u8 c, .int .u32 a, .bool ch, .bool old] w fun e w' => e = .returned (.bool true) ∧ Below w.heap.size w w' := by
  obtain ⟨C, rfl⟩ := Int.eq_ofNat_of_zero_le hc.1
  obtain ⟨A, rfl⟩ := Int.eq_ofNat_of_zero_le ha.1
  exact quirksNeed_any C A ch old (by omega) (by omega) w (tab_of_laid hL)
end Go.Proofs.YtlikkpkpbjkcoaaDoor.Qk
