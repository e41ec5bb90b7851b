/-
  Layer 12 (record): the walk of RecordTells at a record that came in, as the frame asks it.
-/
import Derived.Test.YtechehbegiinpaaDoorRecTells
import Derived.Test.YtechehbegiinpaaDoorFrame
namespace Go.Proofs.YtechehbegiinpaaDoor.Rec
open Go.RowKit Base Txt

theorem recordTells_said (m x : ByteArray) (k : Int) (fa : Option Addr) (fl fc : Nat) (fs : List Fld) (ch : Bool) (ba : Option Addr) (bc : Nat) (body : List UInt8) (ta : Option Addr) (tl tc : Nat) (ts : List Fld)
    (a1 : Option Addr) (l1 c1 : Nat) (n1 : List Int) (a2 : Int) (a3 : ByteArray) (a4 : Bool) (W : World)
    (zm : m.size ≤ 140737488351232) (zx : x.size ≤ 140737488351232) (iF : Flds W fa fl fs) (mF : fl ≤ maxLen) (lF : ∀ f ∈ fs, f.1.size ≤ 140737488351232 ∧ f.2.size ≤ 140737488351232)
    (iB : Nums .u8 W ba body.length (nums body)) (mB : body.length ≤ 140737488351232) (iT : Flds W ta tl ts) (mT : tl ≤ maxLen) (lT : ∀ f ∈ ts, f.1.size ≤ 140737488351232 ∧ f.2.size ≤ 140737488351232)
    (i1 : Nums .u8 W a1 l1 n1) (b2 : 0 ≤ a2 ∧ a2 ≤ 255) :
    Calls Tryd.prog 3 #[.agg #[.string m, .string x, .int .i64 k, .slice fa fl fc, .bool ch, .slice ba body.length bc, .slice ta tl tc], .slice a1 l1 c1, .int .u8 a2, .string a3, .bool a4] W fun e w' => e = .returned (.bool true) ∧ Below W.heap.size W w' := by
  obtain rfl : fs.length = fl := iF.1
  obtain rfl : ts.length = tl := iT.1
  exact recordTells_law _ ⟨m, x, k, fs, ch, body, ts⟩ a1 l1 c1 n1 a2 a3 a4 W (Reads.of (r := ⟨m, x, k, fs, ch, body, ts⟩) iF iB iT) ⟨zm, zx, mB, mF, lF, mT, lT⟩ i1 b2
end Go.Proofs.YtechehbegiinpaaDoor.Rec
