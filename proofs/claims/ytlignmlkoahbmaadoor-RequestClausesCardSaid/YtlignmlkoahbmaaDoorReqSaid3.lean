/-
  Layer 8 (request): the walk of RequestClauses at whole numbers, as the frame asks it.
-/
import Derived.Test.YtlignmlkoahbmaaDoorReqClauses
import Derived.Test.YtlignmlkoahbmaaDoorFrame
namespace Go.Proofs.YtlignmlkoahbmaaDoor.Rq
open Go.RowKit Base

theorem requestClauses_law (c a : Int) (old : Bool) (w : World) (hc : 0 ≤ c ∧ c ≤ 255) (ha : 0 ≤ a ∧ a ≤ 4294967295) :
    Calls Tryd.prog 4 #[.int .u8 c, .int .u32 a, .bool old] w fun e w' => e = .returned (.bool true) ∧ Below w.heap.size w w' := by
  obtain ⟨a, rfl⟩ := Int.eq_ofNat_of_zero_le ha.1
  exact requestClauses_any c a old w hc.1 (by omega)
end Go.Proofs.YtlignmlkoahbmaaDoor.Rq
