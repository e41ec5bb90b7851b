/-
  Layer 9 (field): the walk of FieldPuts, as the frame asks it.
-/
import Derived.Test.YtmbjnolikofaoaaFieldPuts
import Derived.Test.YtmbjnolikofaoaaFrame
namespace Go.Proofs.Ytmbjnolikofaoaa.Fd
open Go.RowKit Base

theorem fieldPuts_law (la : Option Addr) (n cap : Nat) (ps : List (Nat × Nat)) (sa : Option Addr) (m mcap : Nat) (ss : List ByteArray) (w : World) (hv : Txt.Pairs w la n ps) (hn : n ≤ maxLen) (hp : ∀ q ∈ ps, q.1 < 256 ∧ q.2 < 256) (hs : Txt.Strs w sa m ss) (hm : m ≤ maxLen) (hsz : ∀ s ∈ ss, s.size ≤ maxLen) :
    Calls Try.prog 6 #[.slice la n cap, .slice sa m mcap] w fun e w' => e = .returned (.bool true) ∧ Below w.heap.size w w' :=
  fieldPuts_any la n cap ps sa m mcap ss w hv hn hp hs hm hsz
end Go.Proofs.Ytmbjnolikofaoaa.Fd
