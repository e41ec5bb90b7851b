/-
  Layer 7 (target): one target compared with itself; a literal slice of texts, read at a place.
-/
import Derived.Test.YtnlphcchohbhgaaDoorTargetParse
import Derived.Test.YtnlphcchohbhgaaDoorTextSame
namespace Go.Proofs.YtnlphcchohbhgaaDoor.Tgt
open Go.RowKit Base Oct Num Txt

theorem neq_tgt (f : Int) (h p q : ByteArray) (a : Bool) (w : World) : (binOp .neq 27 (tv f h p q a) (tv f h p q a)).run Tryd.prog w = .ok (.bool false) w := by
  have u3 := Tryd.underlying3
  have a3 := Tryd.isAgg3
  have z3 := Tryd.sizeOf3
  have u4 := Tryd.underlying4
  have a4 := Tryd.isAgg4
  have z4 := Tryd.sizeOf4
  have u9 := Tryd.underlying9
  have a9 := Tryd.isAgg9
  have z9 := Tryd.sizeOf9
  have hS : Tryd.prog.underlying 27 = some (.struct (Tryd.prog.fieldsOf 27)) := by kernel_rfl
  have hp : Tryd.prog.stoodInHeld 27 = false := by kernel_rfl
  rw [run_neq_struct, show (10000 : Nat) = 9999 + 1 from rfl, run_equalIn_agg w 9999 27 _ _ hS hp]
  simp only [Program.fieldsOf, Tryd.underlying27]
  go_simp
theorem eql_tgt (f : Int) (h p q : ByteArray) (a : Bool) (w : World) : (binOp .eql 27 (tv f h p q a) (tv f h p q a)).run Tryd.prog w = .ok (.bool true) w := by
  have u3 := Tryd.underlying3
  have a3 := Tryd.isAgg3
  have z3 := Tryd.sizeOf3
  have u4 := Tryd.underlying4
  have a4 := Tryd.isAgg4
  have z4 := Tryd.sizeOf4
  have u9 := Tryd.underlying9
  have a9 := Tryd.isAgg9
  have z9 := Tryd.sizeOf9
  have hS : Tryd.prog.underlying 27 = some (.struct (Tryd.prog.fieldsOf 27)) := by kernel_rfl
  have hp : Tryd.prog.stoodInHeld 27 = false := by kernel_rfl
  rw [run_eql_struct, show (10000 : Nat) = 9999 + 1 from rfl, run_equalIn_agg w 9999 27 _ _ hS hp]
  simp only [Program.fieldsOf, Tryd.underlying27]
  go_simp
theorem guard_tgt (op : BinOp) (x y : Operand) (f f' : Int) (h p q h' p' q' : ByteArray) (a a' : Bool) (w : World) : (eqGuard op 27 x y (tv f h p q a) (tv f' h' p' q' a')).run Tryd.prog w = .ok () w :=
  run_eqGuard_agg w op 27 x y _ _ (by kernel_rfl)

/-- A literal slice of texts, at a place. -/
theorem strs_cell (w : World) (t : TypeId) (ss : List ByteArray) (k : Nat) (hk : k < ss.length) : (w.alloc (.cells ((ss.map Value.string).toArray) t)).cell? ⟨w.heap.size, k, none⟩ = some (.string (ss[k]?.getD ByteArray.empty)) := by
  rw [cell_of_row (w.alloc _) w.heap.size k _ t (0, 0) (heap_alloc_new w _)]
  simp [List.getElem?_map, List.getElem?_eq_getElem hk]
theorem mem_at (ss : List ByteArray) (k : Nat) (hk : k < ss.length) : ss[k]?.getD ByteArray.empty ∈ ss := by
  rw [List.getElem?_eq_getElem hk]; exact List.getElem_mem hk
end Go.Proofs.YtnlphcchohbhgaaDoor.Tgt
