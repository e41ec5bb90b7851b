/-
  Layer 4 (bounds): the walk of BoundsEdges: it returns true, and writes nothing that was there.
-/
import Derived.Test.YtijeeembfjladaaBounds
import Derived.Deep.CutRange
namespace Go.Proofs.Ytijeeembfjladaa.Bnd
open Go.RowKit Base

theorem right_yes (x0 x1 x2 x3 x4 x5 x6 x7 : Int) (c d : Bool) (w : World) (h : right x0 x1 x2 x3 x4 x5 x6 x7 = true) : Calls Try.prog 8 #[bnd x0 x1 x2 x3 x4 x5 x6 x7 c d] w
    fun e w' => e = .returned (.bool true) ∧ Below w.heap.size w w' :=
  (right_any x0 x1 x2 x3 x4 x5 x6 x7 c d w).mono (by rintro e w' ⟨rfl, hb⟩; exact ⟨by rw [h], hb⟩)
theorem right_no (x0 x1 x2 x3 x4 x5 x6 x7 : Int) (c d : Bool) (w : World) (h : right x0 x1 x2 x3 x4 x5 x6 x7 = false) : Calls Try.prog 8 #[bnd x0 x1 x2 x3 x4 x5 x6 x7 c d] w
    fun e w' => e = .returned (.bool false) ∧ Below w.heap.size w w' :=
  (right_any x0 x1 x2 x3 x4 x5 x6 x7 c d w).mono (by rintro e w' ⟨rfl, hb⟩; exact ⟨by rw [h], hb⟩)
theorem tower {w2 w3 : World} {oa ob oc : Obj} {t : TypeId} {x0 x1 x2 x3 x4 x5 x6 x7 : Int} {c d : Bool}
    (h : Below ((((w2.alloc oa).alloc (.cells #[.int .i64 x0, .int .i64 x1, .int .i64 x2, .int .i64 x3, .int .i64 x4, .int .i64 x5, .int .i64 x6, .int .i64 x7, .bool c, .bool d] t)).alloc ob).alloc oc).heap.size ((((w2.alloc oa).alloc (.cells #[.int .i64 x0, .int .i64 x1, .int .i64 x2, .int .i64 x3, .int .i64 x4, .int .i64 x5, .int .i64 x6, .int .i64 x7, .bool c, .bool d] t)).alloc ob).alloc oc) w3) :
    At w3 (w2.heap.size + 1) x0 x1 x2 x3 x4 x5 x6 x7 c d ∧ Below w2.heap.size w2 w3 := by
  constructor
  · have h0 := At.new (w2.alloc oa) t x0 x1 x2 x3 x4 x5 x6 x7 c d
    rw [show (w2.alloc oa).heap.size = w2.heap.size + 1 by simp] at h0
    have h1 := h0.below (by simp) ((Below.refl _ _).alloc (Nat.le_refl _) ob)
    have h2 := h1.below (by simp <;> omega) ((Below.refl _ _).alloc (Nat.le_refl _) oc)
    exact h2.below (by simp <;> omega) h
  · exact (((((Below.refl _ _).alloc (Nat.le_refl _) oa).alloc (by simp) _).alloc (by simp <;> omega) ob).alloc (by simp <;> omega) oc).trans (h.mono (by simp <;> omega))

section code
set_option maxHeartbeats 8000000
set_option maxRecDepth 10000
attribute [local go_sem] Base.some_undef
theorem boundsEdges_any (what : Int) (high : Bool) (w : World) (hw0 : 0 ≤ what) (hw1 : what ≤ 255) :
    Calls Try.prog 4 #[.int .u8 what, .bool high] w fun e w' => e = .returned (.bool true) ∧ Below w.heap.size w w' := by
  rcases (by omega : what % 8 = 0 ∨ what % 8 = 1 ∨ what % 8 = 2 ∨ what % 8 = 3 ∨ what % 8 = 4 ∨ what % 8 = 5 ∨ what % 8 = 6 ∨ what % 8 = 7) with hr | hr | hr | hr | hr | hr | hr | hr
  all_goals
    cases high
    all_goals
      go_enter Try.func4, Try.ntmps4
      go_wp2_with (first
        | (go_at_call 5; with_reducible refine (known_any _).mono ?_; rintro e w1 ⟨rfl, hb⟩; have hc := Base.below_step (Below.refl _ _) hb; clear hb)
        | (go_at_call 6; with_reducible refine (rusual_any _).mono ?_; rintro e w2 ⟨rfl, hb⟩; replace hc := Base.below_step hc hb; clear hb)
        | (go_at_call 8; with_reducible refine (right_yes _ _ _ _ _ _ _ _ _ _ _ ?_).mono ?_; decide; rintro e w3 ⟨rfl, hb⟩; obtain ⟨⟨q0, q1, q2, q3, q4, q5, q6, q7, q8, q9⟩, hb⟩ := tower hb; replace hc := Base.below_step hc hb; clear hb)
        | (go_at_call 8; with_reducible refine (right_no _ _ _ _ _ _ _ _ _ _ _ ?_).mono ?_; decide; rintro e w4 ⟨rfl, hb⟩; replace hc := Base.below_step hc hb; clear hb))
      go_ret
      exact ⟨rfl, hc⟩
end code
end Go.Proofs.Ytijeeembfjladaa.Bnd
