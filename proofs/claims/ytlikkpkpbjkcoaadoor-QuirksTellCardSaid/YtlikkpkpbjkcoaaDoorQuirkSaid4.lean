/-
  Layer 5 (quirks): the walk of QuirksTell at whole numbers, as the frame asks it.
-/
import Derived.Test.YtlikkpkpbjkcoaaDoorQuirkLaid
import Derived.Test.YtlikkpkpbjkcoaaDoorQuirkTell
namespace Go.Proofs.YtlikkpkpbjkcoaaDoor.Qk
open Go.RowKit Base
theorem quirksTell_law (a k : Int) (c : Int) (la : Option Addr) (n cap : Nat) (zs : List Int) (s : ByteArray) (x0 x1 x2 x3 x4 x5 x6 x7 : Int) (ch old : Bool) (w : World)
    (ha : 0 ≤ a ∧ a ≤ 4294967295) (hk : 0 ≤ k ∧ k ≤ 255) (hz : Ints w la n zs) (hn : n ≤ maxLen) (hs : s.size ≤ 140737488351232) (hL : laidMetH Tryd.prog [("parallax/quirks.names", Rows.laid_parallax_quirks_names)] w) :
    Calls Tryd.prog 3 #[.int .u32 a, .int .u8 k, .int .i64 c, .slice la n cap, .string s, .agg #[.int .i64 x0, .int .i64 x1, .int .i64 x2, .int .i64 x3, .int .i64 x4, .int .i64 x5, .int .i64 x6, .int .i64 x7, .bool ch, .bool old]] w fun e w' => e = .returned (.bool true) ∧ Below w.heap.size w w' := by
  obtain ⟨A, rfl⟩ := Int.eq_ofNat_of_zero_le ha.1
  obtain ⟨K, rfl⟩ := Int.eq_ofNat_of_zero_le hk.1
  exact quirksTell_any A K c la n cap zs s x0 x1 x2 x3 x4 x5 x6 x7 ch old w (by omega) (by omega) hz hn hs (tab_of_laid hL)
end Go.Proofs.YtlikkpkpbjkcoaaDoor.Qk
