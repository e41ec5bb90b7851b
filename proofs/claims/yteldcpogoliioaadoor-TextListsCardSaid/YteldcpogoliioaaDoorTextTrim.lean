/-
  Layer 3 (text): what TrimOf answers, of every text and set up to a great size.
-/
import Derived.Test.YteldcpogoliioaaDoorText
namespace Go.Proofs.YteldcpogoliioaaDoor.Txt
open Go.RowKit Base Oct

/-- Without bytes of the set at both ends. -/
def isIn (set : ByteArray) (x : UInt8) : Bool := set.data.toList.contains x
def trimOf (s set : ByteArray) : ByteArray := trimB (isIn set) s
def marks (l : List UInt8) : List Value := (List.range 256).map fun j => Value.bool (l.any fun b => b.toNat == j)
theorem marks_length (l : List UInt8) : (marks l).length = 256 := by rw [marks, List.length_map, List.length_range]
theorem marks_none (l : List UInt8) (j : Nat) (h : ¬ j < 256) : (marks l)[j]? = none := List.getElem?_eq_none (by rw [marks_length]; omega)
theorem marks_some (l : List UInt8) (j : Nat) (h : j < 256) : (marks l)[j]? = some (.bool (l.any fun b => b.toNat == j)) := by
  unfold marks; rw [List.getElem?_map, List.getElem?_range h]; rfl
theorem marks_nil (n : Nat) (hn : n = 256) : (Array.replicate n (Value.bool false)).toList = marks [] := by
  rw [Array.toList_replicate]
  apply List.ext_getElem?
  intro j
  by_cases h : j < 256
  · rw [marks_some _ _ h, List.getElem?_replicate, if_pos (by omega)]; rfl
  · rw [marks_none _ _ h, List.getElem?_replicate, if_neg (by omega)]
theorem marks_at (l : List UInt8) (x : UInt8) : (marks l)[x.toNat]? = some (.bool (l.contains x)) := by
  rw [marks_some _ _ x.toNat_lt]
  simp only [Option.some.injEq, Value.bool.injEq]
  rw [Bool.eq_iff_iff, List.any_eq_true, List.contains_iff_exists_mem_beq]
  constructor
  · rintro ⟨b, hb, e⟩; exact ⟨b, hb, by rw [beq_iff_eq] at e ⊢; exact (UInt8.toNat_inj.1 e).symm⟩
  · rintro ⟨b, hb, e⟩; rw [beq_iff_eq] at e; subst e; exact ⟨x, hb, by simp⟩
theorem marks_set (l : List UInt8) (x : UInt8) : (marks l).set x.toNat (.bool true) = marks (l ++ [x]) := by
  apply List.ext_getElem?
  intro j
  rw [List.getElem?_set]
  have hx := x.toNat_lt
  by_cases h : x.toNat = j
  · subst h
    rw [if_pos rfl, if_pos (by rw [marks_length]; exact hx), marks_some _ _ hx]
    simp
  · rw [if_neg h]
    by_cases hj : j < 256
    · rw [marks_some _ _ hj, marks_some _ _ hj]
      have : (x.toNat == j) = false := by simpa using h
      simp [this]
    · rw [marks_none _ _ hj, marks_none _ _ hj]

theorem zero_marks (w : World) : (zeroValue 46).run Tryd.prog w = .ok (.agg (Array.replicate 256 (.bool false))) w := by kernel_rfl
section code
set_option maxHeartbeats 1000000
theorem marks_any (x : UInt8) (B : Nat) (set : List UInt8) (w : World) (hc : w.cell? ⟨B, x.toNat, none⟩ = some (.bool (set.contains x))) :
    Calls Tryd.prog 30 #[.int .u8 x.toNat, .pointer (some ⟨B, 0, none⟩)] w fun e w' => e = .returned (.bool (set.contains x)) ∧ w' = w := by
  have hx := x.toNat_lt
  have i1 : (x.toNat : Int) < 256 := by omega
  generalize set.contains x = r at *
  generalize x.toNat = n at *
  go_enter Tryd.func30, Tryd.ntmps30
  go_wp2
  go_ret
  exact ⟨rfl, rfl⟩

set_option maxRecDepth 10000 in
theorem trimOf_any (s set : ByteArray) (w : World) (hs : s.size ≤ maxLen) (ht : set.size ≤ maxLen) : Calls Tryd.prog 15 #[.string s, .string set] w fun e w' => e = .returned (.string (trimOf s set)) ∧ Below w.heap.size w w' := by
  have hm := hs
  have ht' := ht
  unfold maxLen at ht'
  have HM := Lib.hid hm
  clear hs hm ht
  go_enter Tryd.func15, Tryd.ntmps15
  have eg : ∀ args w, (callFunc 30 args).run Tryd.prog w = .ok (.enter 30 args) w := enters_of Tryd.func30 (by kernel_rfl) rfl
  have hz := zero_marks
  go_wp2
  have hown : (w.alloc (.cells (Array.replicate 256 (.bool false)) 46)).ownsRow w.heap.size 46 1 (.slice (some ⟨w.heap.size, 0, none⟩) 256 256) 256 (marks (set.data.toList.take 0)) := by
    have := World.ownsRow_lit (base := w.heap.size) (e := 46) (size := 1) w (Array.replicate 256 (.bool false)) 256 (Nat.le_refl _) (by decide) (by rw [Array.size_replicate])
    rwa [marks_nil 256 rfl] at this
  have HO := Lib.hid hown
  have hb := Lib.hid (show Below w.heap.size w (w.alloc (.cells (Array.replicate 256 (.bool false)) 46)) from (Below.refl _ _).alloc (Nat.le_refl _) _)
  clear hown hz
  generalize w.alloc (.cells (Array.replicate 256 (.bool false)) 46) = W at *
  generalize hg : w.heap.size = g at *
  have HG := Lib.hid hg
  clear hg
  go_loopw [9] (fun i wr => ∃ k : Nat, k ≤ set.size ∧ i = .int .i64 k ∧ Hid (wr.ownsRow g 46 1 (.slice (some ⟨g, 0, none⟩) 256 256) 256 (marks (set.data.toList.take k))) ∧ Hid (Below g w wr)) (fun i _ => set.size - (intOf i).toNat)
  case atStart => exact ⟨0, Nat.zero_le _, rfl, HO, hb⟩
  case round =>
    obtain ⟨k, hk, rfl, hown, hbr⟩ := hrel
    rcases Nat.lt_or_ge k set.size with hlt | hge
    · have hx := set[k].toNat_lt
      have i1 : (set[k].toNat : Int) < 256 := by omega
      have hcell := hown.out.cellAt set[k].toNat (by omega)
      rw [marks_at] at hcell
      have hfz := hown.out.frozenAt set[k].toNat
      have hst := hown.out.stored set[k].toNat (.bool true)
      rw [marks_set, ← take_snoc set k hlt] at hst
      have HS := Lib.hid hst
      clear hst
      go_wp2
      go_roundw
      case rel => exact ⟨k + 1, by omega, by go_num, Lib.hid HS.out.1, Lib.hid (hbr.out.setCell (Nat.le_refl _) _)⟩
      case measure => simp [intOf]; omega
    · obtain rfl : k = set.size := by omega
      have hown' := hown.out
      rw [take_all set _ (Nat.le_refl _)] at hown'
      have HC := Lib.hid (fun x : UInt8 => (hown'.cellAt x.toNat (by have := x.toNat_lt; omega)).trans (marks_at _ x))
      clear hown'
      have hs := Lib.hid (strip_any 30 #[.pointer (some ⟨g, 0, none⟩)] eg (isIn set) s wr HM.out (fun x => marks_any x g _ wr (HC.out x)))
      clear eg
      go_wp2_with (go_at_call 28; with_reducible refine hs.out.mono ?_; rintro e w' ⟨rfl, rfl⟩)
      go_ret
      exact ⟨rfl, by rw [HG.out]; exact hbr.out⟩
end code
end Go.Proofs.YteldcpogoliioaaDoor.Txt
