/-
  Layer 5 (quirks): the walk of QuirksNames at whole numbers, as the frame asks it.
-/
import Derived.Test.YtlikkpkpbjkcoaaDoorQuirkLaid
import Derived.Test.YtlikkpkpbjkcoaaDoorQuirkNames
namespace Go.Proofs.YtlikkpkpbjkcoaaDoor.Qk
open Go.RowKit Base
theorem quirksNames_law (a b i c : Int) (ha : 0 ≤ a ∧ a ≤ 255) (hb : 0 ≤ b ∧ b ≤ 255) (hi : 0 ≤ i ∧ i ≤ 255) (hc : 0 ≤ c ∧ c ≤ 255) (w : World) (hL : laidMetH Tryd.prog [("parallax/quirks.names", Rows.laid_parallax_quirks_names)] w) :
    Calls Tryd.prog 4 #[.int .u8 a, .int .u8 b, .int .u8 i, .int .u8 c] w fun e w' => e = .returned (.bool true) ∧ Below w.heap.size w w' := by
  obtain ⟨A, rfl⟩ := Int.eq_ofNat_of_zero_le ha.1
  obtain ⟨B, rfl⟩ := Int.eq_ofNat_of_zero_le hb.1
  obtain ⟨I, rfl⟩ := Int.eq_ofNat_of_zero_le hi.1
  obtain ⟨C, rfl⟩ := Int.eq_ofNat_of_zero_le hc.1
  have := quirksNames_any A B I (UInt8.ofNat C) (by omega) (by omega) (by omega) w (tab_of_laid hL)
  rwa [show (UInt8.ofNat C).toNat = C from UInt8.toNat_ofNat_of_lt' (by unfold UInt8.size; omega)] at this
end Go.Proofs.YtlikkpkpbjkcoaaDoor.Qk
