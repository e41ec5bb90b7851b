/-
  Layer 7 (target): the walk of TargetBack at whole numbers, as the frame asks it.
-/
import Derived.Test.YtnlphcchohbhgaaDoorTargetBack
import Derived.Test.YtnlphcchohbhgaaDoorFrame
namespace Go.Proofs.YtnlphcchohbhgaaDoor.Tgt
open Go.RowKit Base

theorem targetBack_law (la : Option Addr) (n cap : Nat) (zs : List Int) (k : Int) (w : World) (hz : Nums .u8 w la n zs) (hn : n ≤ maxLen) (hw : ∀ x ∈ zs, (Lit.int .u8 x).wf = true) (hk : 0 ≤ k ∧ k ≤ 255) :
    Calls Tryd.prog 4 #[.slice la n cap, .int .u8 k] w fun e w' => e = .returned (.bool true) ∧ Below w.heap.size w w' := by
  obtain ⟨bs, rfl⟩ := Txt.bytes_of zs fun x hx => bounds_u8 (hw x hx)
  exact targetBack_any la n cap bs k w hz hn hk
end Go.Proofs.YtnlphcchohbhgaaDoor.Tgt
