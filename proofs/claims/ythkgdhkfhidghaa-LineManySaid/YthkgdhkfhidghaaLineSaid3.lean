/-
  Layer 6 (line): the walk of LineMany at whole numbers, as the frame asks it.
-/
import Derived.Test.YthkgdhkfhidghaaLineManyWalk
import Derived.Test.YthkgdhkfhidghaaFrame
namespace Go.Proofs.Ythkgdhkfhidghaa.Ln
open Go.RowKit Base

theorem lineMany_law (la : Option Addr) (n cap : Nat) (ls : List (List UInt8)) (lb : Option Addr) (n2 cap2 : Nat) (zs2 : List Int) (lf cr : Bool) (w : World) (hv : Txt.Lines w la n ls) (hn : n ≤ maxLen) (hlen : ∀ l ∈ ls, l.length ≤ maxLen)
    (hz2 : Nums .u8 w lb n2 zs2) (hn2 : n2 ≤ maxLen) (hw2 : ∀ x ∈ zs2, (Lit.int .u8 x).wf = true) :
    Calls Try.prog 4 #[.slice la n cap, .slice lb n2 cap2, .bool lf, .bool cr] w fun e w' => e = .returned (.bool true) ∧ Below w.heap.size w w' := by
  obtain ⟨es, rfl⟩ := Txt.bytes_of zs2 fun x hx => bounds_u8 (hw2 x hx)
  exact lineMany_any la n cap ls lb n2 cap2 es lf cr w hv hn hlen hz2 hn2
end Go.Proofs.Ythkgdhkfhidghaa.Ln
