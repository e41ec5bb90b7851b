/-
  Layer 7 (target): the walk of TargetHosts at whole numbers, as the frame asks it.
-/
import Derived.Test.YtnlphcchohbhgaaDoorTargetHosts
import Derived.Test.YtnlphcchohbhgaaDoorFrame
namespace Go.Proofs.YtnlphcchohbhgaaDoor.Tgt
open Go.RowKit Base

theorem targetHosts_law (la : Option Addr) (n cap : Nat) (zs : List Int) (p d k : Int) (w : World) (hz : Nums .u8 w la n zs) (hn : n ≤ maxLen) (hw : ∀ x ∈ zs, (Lit.int .u8 x).wf = true) (hp : 0 ≤ p) (hd : 0 ≤ d) (hk : 0 ≤ k) :
    Calls Tryd.prog 5 #[.slice la n cap, .int .u32 p, .int .u8 d, .int .u16 k] w fun e w' => e = .returned (.bool true) ∧ Below w.heap.size w w' := by
  obtain ⟨bs, rfl⟩ := Txt.bytes_of zs fun x hx => bounds_u8 (hw x hx)
  exact targetHosts_any la n cap bs p d k w hz hn hp hd hk
end Go.Proofs.YtnlphcchohbhgaaDoor.Tgt
