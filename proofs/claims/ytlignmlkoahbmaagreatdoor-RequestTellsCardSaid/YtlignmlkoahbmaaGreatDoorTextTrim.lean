/-
  Layer 3 (text): what TrimOf answers, of every text and set up to a great size.
-/
import Derived.Test.YtlignmlkoahbmaaGreatDoorText
namespace Go.Proofs.YtlignmlkoahbmaaGreatDoor.Txt
open Go.RowKit Base Oct

/-- Without bytes of the set at both ends. -/
def isIn (set : ByteArray) (x : UInt8) : Bool := set.data.toList.contains x
def trimOf (s set : ByteArray) : ByteArray := trimB (isIn set) s
def marks (l : List UInt8) : List Value := (List.range 256).map fun j => Value.bool (l.any fun b => b.toNat == j)
theorem marks_length (l : List UInt8) : (marks l).length = 256 := by rw [marks, List.length_map, List.length_range]
theorem marks_none (l : List UInt8) (j : Nat) (h : ¬ j < 256) : (marks l)[j]? = none := List.getElem?_eq_none (by rw [marks_length]; omega)
theorem marks_some (l : List UInt8) (j : Nat) (h : j < 256) : (marks l)[j]? = some (.bool (l.any fun b => b.toNat == j)) := by
  unfold marks; rw [List.getElem?_map, List.getElem?_range h]; rfl
theorem marks_nil (n : Nat) (hn : n = 256) : (Array.replicate n (Value.bool false)).toList = marks [] := by
  rw [Array.toList_replicate]
  apply List.ext_getElem?
  intro j
  by_cases h : j < 256
  · rw [marks_some _ _ h, List.getElem?_replicate, if_pos (by omega)]; rfl
  · rw [marks_none _ _ h, List.getElem?_replicate, if_neg (by omega)]
theorem marks_at (l : List UInt8) (x : UInt8) : (marks l)[x.toNat]? = some (.bool (l.contains x)) := by
  rw [marks_some _ _ x.toNat_lt]
  simp only [Option.some.injEq, Value.bool.injEq]
  rw [Bool.eq_iff_iff, List.any_eq_true, List.contains_iff_exists_mem_beq]
  constructor
  · rintro ⟨b, hb, e⟩; exact ⟨b, hb, by rw [beq_iff_eq] at e ⊢; exact (UInt8.toNat_inj.1 e).symm⟩
  · rintro ⟨b, hb, e⟩; rw [beq_iff_eq] at e; subst e; exact ⟨x, hb, by simp⟩
theorem marks_set (l : List UInt8) (x : UInt8) : (marks l).set x.toNat (.bool true) = marks (l ++ [x]) := by
  apply List.ext_getElem?
  intro j
  rw [List.getElem?_set]
  have hx := x.toNat_lt
  by_cases h : x.toNat = j
  · subst h
    rw [if_pos rfl, if_pos (by rw [marks_length]; exact hx), marks_some _ _ hx]
    simp
  · rw [if_neg h]
    by_cases hj : j < 256
    · rw [marks_some _ _ hj, marks_some _ _ hj]
      have : (x.toNat == j) = false := by simpa using h
      simp [this]
    · rw [marks_none _ _ hj, marks_none _ _ hj]

theorem zero_marks (w : World) : (zeroValue 102).run Tryz.prog w = .ok (.agg (Array.replicate 256 (.bool false))) w := by kernel_rfl
section code
set_option maxHeartbeats 1000000
end code
end Go.Proofs.YtlignmlkoahbmaaGreatDoor.Txt
