/-
  Layer 9 (field): the contracts of package field's Put and of the document's: a line of each field, in order.
-/
import Derived.Test.YtechehbegiinpaaDoorField
import Derived.Test.YtechehbegiinpaaDoorBuild
import Derived.Lib.UnsafeStr
import Derived.Lib.AppendStr
namespace Go.Proofs.YtechehbegiinpaaDoor.Fd
open Go.RowKit Base Txt Tgt

abbrev lineB (f : Fld) : ByteArray := ((f.1 ++ ⟨#[58, 32]⟩) ++ f.2) ++ ⟨#[13, 10]⟩
theorem lineB_list (f : Fld) : (lineB f).data.toList = line f := by
  simp [lineB, line, ByteArray.data_append]
theorem lineB_size (f : Fld) : (lineB f).size = f.1.size + f.2.size + 4 := by
  rw [← len, lineB_list, line_length]
theorem put_take (fs : List Fld) (k : Nat) : (put (fs.take k)).length ≤ (put fs).length := by
  conv => rhs; rw [← List.take_append_drop k fs, put_append, List.length_append]
  omega
theorem put_take_line (fs : List Fld) (k : Nat) (h : k < fs.length) : (put (fs.take k)).length + (line (fs[k]?.getD dflt)).length ≤ (put fs).length := by
  rw [← List.length_append, ← put_snoc fs k h]
  exact put_take fs (k + 1)
theorem isB_alloc {T E : TypeId} {B b : Nat} {bs : List Value} {w : World} (h : Lib.IsBuilderF T E B b bs w) (o : Obj) : Lib.IsBuilderF T E B b bs (w.alloc o) :=
  h.elim (fun x => .inl (x.alloc o)) (fun x => .inr (x.alloc o))
section code
set_option maxHeartbeats 4000000
set_option maxRecDepth 100000
attribute [local go_sem] Base.some_undef
end code
end Go.Proofs.YtechehbegiinpaaDoor.Fd
