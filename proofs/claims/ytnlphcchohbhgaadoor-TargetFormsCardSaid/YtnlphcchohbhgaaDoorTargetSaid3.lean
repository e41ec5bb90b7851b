/-
  Layer 7 (target): the walk of TargetForms at whole numbers, as the frame asks it.
-/
import Derived.Test.YtnlphcchohbhgaaDoorTargetForms
import Derived.Test.YtnlphcchohbhgaaDoorFrame
namespace Go.Proofs.YtnlphcchohbhgaaDoor.Tgt
open Go.RowKit Base

theorem targetForms_law (la : Option Addr) (n cap : Nat) (zs : List Int) (q : ByteArray) (asked : Bool) (k : Int) (w : World) (hz : Nums .u8 w la n zs) (hn : n ≤ maxLen) (hw : ∀ x ∈ zs, (Lit.int .u8 x).wf = true) (hs : q.size ≤ 140737488351232) (hk : 0 ≤ k ∧ k ≤ 255) :
    Calls Tryd.prog 6 #[.slice la n cap, .string q, .bool asked, .int .u8 k] w fun e w' => e = .returned (.bool true) ∧ Below w.heap.size w w' := by
  obtain ⟨bs, rfl⟩ := Txt.bytes_of zs fun x hx => bounds_u8 (hw x hx)
  exact targetForms_any la n cap bs q asked k w hz hn hs hk
end Go.Proofs.YtnlphcchohbhgaaDoor.Tgt
