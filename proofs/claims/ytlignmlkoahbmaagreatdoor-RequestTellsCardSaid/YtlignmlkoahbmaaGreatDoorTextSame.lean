/-
  Layer 3 (text): whether two slices of fields, two of texts, are alike: package text's Fields, and the document's Fields and Strings.
-/
import Derived.Test.YtlignmlkoahbmaaGreatDoorTextList
namespace Go.Proofs.YtlignmlkoahbmaaGreatDoor.Txt
open Go.RowKit Base Oct

theorem ba_beq (a b : ByteArray) : (a.toList == b.toList) = decide (a = b) := by
  rw [Lib.toList_data, Lib.toList_data, Bool.eq_iff_iff, beq_iff_eq, decide_eq_true_eq]
  exact ⟨ba_ext, fun h => by rw [h]⟩
theorem toList_iff (a b : ByteArray) : a.toList = b.toList ↔ a = b := by
  rw [Lib.toList_data, Lib.toList_data]
  exact ⟨ba_ext, fun h => by rw [h]⟩
theorem take_eq_snoc {α : Type} (d : α) (xs ys : List α) (k : Nat) (hx : k < xs.length) (hy : k < ys.length) (h : xs.take k = ys.take k) (e : xs[k]?.getD d = ys[k]?.getD d) : xs.take (k + 1) = ys.take (k + 1) := by
  rw [List.take_succ_eq_append_getElem hx, List.take_succ_eq_append_getElem hy, h]
  rw [List.getElem?_eq_getElem hx, List.getElem?_eq_getElem hy] at e
  congr 2
theorem ne_of_at {α : Type} (d : α) (xs ys : List α) (k : Nat) (e : ¬ xs[k]?.getD d = ys[k]?.getD d) : xs ≠ ys := fun h => e (by rw [h])

section code
set_option maxHeartbeats 1000000
end code
end Go.Proofs.YtlignmlkoahbmaaGreatDoor.Txt
