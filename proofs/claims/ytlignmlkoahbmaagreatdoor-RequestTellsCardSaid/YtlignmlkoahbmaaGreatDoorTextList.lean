/-
  Layer 3 (text): what List and Find answer, of every slice of texts and of fields up to a great size.
-/
import Derived.Test.YtlignmlkoahbmaaGreatDoorTextTrim
import Derived.Test.YtlignmlkoahbmaaGreatDoorShelf
import Derived.Shelf.Strings.Split
namespace Go.Proofs.YtlignmlkoahbmaaGreatDoor.Txt
open Go.RowKit Base Oct

/-- How long a list may be, at most, by its texts. -/
def room (vs : List ByteArray) : Nat := (vs.map fun v => v.size + 1).sum
theorem partsOf_le (v : ByteArray) : (partsOf v).length ≤ v.size + 1 := by
  unfold partsOf; rw [List.length_map]; have := parts_le 44 v.data.toList; rwa [len] at this
theorem list_le : ∀ vs : List ByteArray, (list vs).length ≤ room vs
  | [] => by simp [list, room]
  | v :: vs => by
    have h1 := partsOf_le v
    have h2 := list_le vs
    simp only [list, room, List.flatMap_cons, List.length_append, List.map_cons, List.sum_cons] at *
    omega
theorem room_mem : ∀ (vs : List ByteArray) (v : ByteArray), v ∈ vs → v.size + 1 ≤ room vs
  | u :: vs, v, h => by
    rw [room, List.map_cons, List.sum_cons]
    rcases List.mem_cons.1 h with rfl | h
    · omega
    · have := room_mem vs v h; rw [room] at this; omega
theorem len_room : ∀ vs : List ByteArray, vs.length ≤ room vs
  | [] => Nat.zero_le _
  | v :: vs => by have := len_room vs; rw [room] at *; rw [List.map_cons, List.sum_cons, List.length_cons]; omega
theorem partsOf_map (x : ByteArray) : partsOf x = ((parts 44 x.data.toList).map ba).map trim := by rw [partsOf, List.map_map]; rfl
theorem list_take_le (vs : List ByteArray) (k : Nat) : (list (vs.take k)).length ≤ (list vs).length := by
  conv => rhs; rw [← List.take_append_drop k vs]
  unfold list
  rw [List.flatMap_append, List.length_append]; omega
theorem list_snoc (vs : List ByteArray) (k : Nat) (h : k < vs.length) : list (vs.take (k + 1)) = list (vs.take k) ++ partsOf (vs[k]?.getD ByteArray.empty) := by
  rw [strs_snoc vs k h]; unfold list; simp

section code
set_option maxHeartbeats 1000000
theorem split_at (c : UInt8) (s : ByteArray) (w : World) (hs : s.size < 4294967281) :
    Calls Tryz.prog 45 #[.string s, .string ⟨#[c]⟩] w fun e w' => ∃ n k, e = .returned (.slice (some ⟨w.heap.size, 0, none⟩) n k) ∧ n = (parts c s.data.toList).length ∧ Strs w' (some ⟨w.heap.size, 0, none⟩) n ((parts c s.data.toList).map ba) ∧ w.heap.size < w'.heap.size ∧ Below w.heap.size w w' := by
  have hle := Lib.countB_le ⟨#[c]⟩ (Nat.le_refl 1) s.size s (Nat.le_refl _)
  have hlen := Lib.splitB_all ⟨#[c]⟩ (Nat.le_refl 1) 0 _ s rfl
  have ct := Any.strings_genSplit_core Tryz.lays221 text_info s ⟨#[c]⟩ 0 (-1) (Lib.countB s ⟨#[c]⟩ + 1) w hs (Nat.le_refl 1) (Nat.zero_le _)
    (fun x cs hx => (Tryz.strings_Index_one x c _).mono fun e w' ⟨he, hw⟩ => ⟨by rw [he]; congr 2; exact (Lib.index_one _ _).symm, hw⟩)
    ((Tryz.strings_Count_one s c w).mono fun e w' ⟨he, hw⟩ => ⟨by rw [he]; congr 3; exact (Lib.count_one _ _).symm, hw⟩)
    (by decide) (by decide) (by rw [if_pos (by decide)]; omega)
  rw [Nat.add_sub_cancel, hlen] at ct
  have e2 : Lib.cellsOf (Lib.splitB ⟨#[c]⟩ 0 (Lib.countB s ⟨#[c]⟩) s) (Lib.countB s ⟨#[c]⟩ + 1) = ((Lib.splitB ⟨#[c]⟩ 0 (Lib.countB s ⟨#[c]⟩) s).map Value.string).toArray := by rw [← hlen]; exact Lib.cellsOf_full _
  rw [e2, splitB_parts c _ s rfl, countB_parts] at ct
  have HC := Lib.hid ((show Calls Tryz.prog 67 #[.string s, .string ⟨#[c]⟩, .int .i64 0, .int .i64 (-1)] w _ from ct).mono (R' := fun e w' => ∃ n k, e = .returned (.slice (some ⟨w.heap.size, 0, none⟩) n k) ∧ n = (parts c s.data.toList).length ∧ Strs w' (some ⟨w.heap.size, 0, none⟩) n ((parts c s.data.toList).map ba) ∧ w.heap.size < w'.heap.size ∧ Below w.heap.size w w') (by
    rintro e w' ⟨rfl, rfl⟩
    exact ⟨_, _, rfl, rfl, Strs.made w _ rfl _ _ _ (by rw [List.length_map]), by simp, (Below.refl _ _).alloc (Nat.le_refl _) _⟩))
  clear ct e2 hle hlen
  go_enter Tryz.func45, Tryz.ntmps45
  go_wp2_with (go_at_call 67; with_reducible refine HC.out.mono ?_; rintro e w' ⟨n, k, rfl, rfl, hS, hg, hb⟩)
  go_ret
  exact ⟨_, _, rfl, rfl, hS, hg, hb⟩
theorem split_any (s : ByteArray) (w : World) (hs : s.size < 4294967281) :
    Calls Tryz.prog 45 #[.string s, .string ⟨#[44]⟩] w fun e w' => ∃ n c, e = .returned (.slice (some ⟨w.heap.size, 0, none⟩) n c) ∧ n = (parts 44 s.data.toList).length ∧ Strs w' (some ⟨w.heap.size, 0, none⟩) n ((parts 44 s.data.toList).map ba) ∧ w.heap.size < w'.heap.size ∧ Below w.heap.size w w' := split_at 44 s w hs

end code
end Go.Proofs.YtlignmlkoahbmaaGreatDoor.Txt
