/-
  Layer 8 (request): the walk of RequestMethods at whole numbers, as the frame asks it.
-/
import Derived.Test.YtlignmlkoahbmaaDoorReqMethods
import Derived.Test.YtlignmlkoahbmaaDoorFrame
namespace Go.Proofs.YtlignmlkoahbmaaDoor.Rq
open Go.RowKit Base

theorem requestMethods_law (la : Option Addr) (n cap : Nat) (zs : List Int) (k : Int) (w : World) (hz : Nums .u8 w la n zs) (hn : n ≤ maxLen) (hw : ∀ x ∈ zs, (Lit.int .u8 x).wf = true) (hk : 0 ≤ k ∧ k ≤ 255) :
    Calls Tryd.prog 5 #[.slice la n cap, .int .u8 k] w fun e w' => e = .returned (.bool true) ∧ Below w.heap.size w w' := by
  obtain ⟨bs, rfl⟩ := Txt.bytes_of zs fun x hx => bounds_u8 (hw x hx)
  exact requestMethods_any la n cap bs k w hz hn hk
end Go.Proofs.YtlignmlkoahbmaaDoor.Rq
