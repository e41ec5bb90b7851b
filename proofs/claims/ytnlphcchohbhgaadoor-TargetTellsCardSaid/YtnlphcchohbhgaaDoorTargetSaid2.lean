/-
  Layer 7 (target): the walk of TargetTells at whole numbers, as the frame asks it.
-/
import Derived.Test.YtnlphcchohbhgaaDoorTargetTells
import Derived.Test.YtnlphcchohbhgaaDoorFrame
namespace Go.Proofs.YtnlphcchohbhgaaDoor.Tgt
open Go.RowKit Base

theorem targetTells_law (s : ByteArray) (la : Option Addr) (n cap : Nat) (zs : List Int) (m : ByteArray) (k : Int) (w : World) (hz : Nums .u8 w la n zs) (hn : n ≤ maxLen) (hw : ∀ x ∈ zs, (Lit.int .u8 x).wf = true) (hs : s.size ≤ 140737488351232) (hm : m.size ≤ 140737488351232) (hk : 0 ≤ k ∧ k ≤ 255) :
    Calls Tryd.prog 3 #[.string s, .slice la n cap, .string m, .int .u8 k] w fun e w' => e = .returned (.bool true) ∧ Below w.heap.size w w' := by
  obtain ⟨bs, rfl⟩ := Txt.bytes_of zs fun x hx => bounds_u8 (hw x hx)
  exact targetTells_any s la n cap bs m k w hz hn hs hm hk
end Go.Proofs.YtnlphcchohbhgaaDoor.Tgt
