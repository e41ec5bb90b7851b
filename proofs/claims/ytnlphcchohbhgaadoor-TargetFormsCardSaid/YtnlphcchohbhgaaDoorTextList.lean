/-
  Layer 3 (text): what List and Find answer, of every slice of texts and of fields up to a great size.
-/
import Derived.Test.YtnlphcchohbhgaaDoorTextTrim
import Derived.Test.YtnlphcchohbhgaaDoorShelf
import Derived.Shelf.Strings.Split
namespace Go.Proofs.YtnlphcchohbhgaaDoor.Txt
open Go.RowKit Base Oct

/-- How long a list may be, at most, by its texts. -/
def room (vs : List ByteArray) : Nat := (vs.map fun v => v.size + 1).sum
theorem partsOf_le (v : ByteArray) : (partsOf v).length ≤ v.size + 1 := by
  unfold partsOf; rw [List.length_map]; have := parts_le 44 v.data.toList; rwa [len] at this
theorem list_le : ∀ vs : List ByteArray, (list vs).length ≤ room vs
  | [] => by simp [list, room]
  | v :: vs => by
    have h1 := partsOf_le v
    have h2 := list_le vs
    simp only [list, room, List.flatMap_cons, List.length_append, List.map_cons, List.sum_cons] at *
    omega
theorem room_mem : ∀ (vs : List ByteArray) (v : ByteArray), v ∈ vs → v.size + 1 ≤ room vs
  | u :: vs, v, h => by
    rw [room, List.map_cons, List.sum_cons]
    rcases List.mem_cons.1 h with rfl | h
    · omega
    · have := room_mem vs v h; rw [room] at this; omega
theorem len_room : ∀ vs : List ByteArray, vs.length ≤ room vs
  | [] => Nat.zero_le _
  | v :: vs => by have := len_room vs; rw [room] at *; rw [List.map_cons, List.sum_cons, List.length_cons]; omega
theorem partsOf_map (x : ByteArray) : partsOf x = ((parts 44 x.data.toList).map ba).map trim := by rw [partsOf, List.map_map]; rfl
theorem list_take_le (vs : List ByteArray) (k : Nat) : (list (vs.take k)).length ≤ (list vs).length := by
  conv => rhs; rw [← List.take_append_drop k vs]
  unfold list
  rw [List.flatMap_append, List.length_append]; omega
theorem list_snoc (vs : List ByteArray) (k : Nat) (h : k < vs.length) : list (vs.take (k + 1)) = list (vs.take k) ++ partsOf (vs[k]?.getD ByteArray.empty) := by
  rw [strs_snoc vs k h]; unfold list; simp

section code
set_option maxHeartbeats 1000000
end code
end Go.Proofs.YtnlphcchohbhgaaDoor.Txt
