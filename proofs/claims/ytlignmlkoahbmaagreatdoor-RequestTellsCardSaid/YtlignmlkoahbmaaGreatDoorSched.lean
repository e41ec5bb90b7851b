/-
  A region that draws its order, walked in ONE order that a table fixes, where the region's own edges make that enough: each quiet operation is taken while it is free to be taken; each operation that may change the world comes up alone. Stated over any program; the edges are asked by a computed test.
-/
import Derived.Test.YtlignmlkoahbmaaGreatDoorBase
import Derived.OrdersHeld
import Derived.Deep.RegionHeld
import Derived.BigRegion
namespace Go.Proofs.YtlignmlkoahbmaaGreatDoor.Sched
open Go.RowKit

/-- Does this order fit the edges? A number with 'true' is an operation that may change the world: it must be the only one that may come up. -/
def fits (ops : Array Oper) : List (Nat × Bool) → Array Bool → Bool
  | [], listed => (Region.ready .any ops listed).isEmpty
  | (k, act) :: ks, listed =>
    (if act then Region.ready .any ops listed == [k] else (Region.ready .any ops listed).contains k && Region.free .any ops listed k) && fits ops ks (listed.setIfInBounds k true)

/-- The walk of the operations in that order. -/
def walk (P : Program) (ops : Array Oper) (Q : Exit → Act → World → Prop) (S : World → Prop) : List (Bool × Oper) → Act → World → Prop
  | [], a, w => Q .normal a w
  | (act, o) :: rest, a, w =>
    if Region.wanted o (yielded ops a.tmps) = true then
      (if act = true then o.wp P a w (fun a' w' => S w' ∧ walk P ops Q S rest a' w') Q
       else ∃ v, (∀ w', S w' → (execOp a.eval o).run P w' = .ok (.value v) w') ∧ walk P ops Q S rest (a.put o.dst v) w)
    else walk P ops Q S rest (a.put o.dst undef) w

/-- The operations of a list, in that order. -/
def picked (l : List Oper) (ks : List (Nat × Bool)) : List (Bool × Oper) := ks.filterMap fun k => (l[k.1]?).map fun o => (k.2, o)

section
variable {P : Program} {l : List Oper} {Q : Exit → Act → World → Prop} {S : World → Prop}

theorem held_of_walk (hs : Region.noSelect l.toArray = true) (hQ : ∀ c a d v w, Q (.panic c) (Act.put a d v) w → Q (.panic c) a w) : ∀ (ks : List (Nat × Bool)) (listed : Array Bool) (a : Act) (w : World),
    (∀ k ∈ ks, k.1 < l.length) → fits l.toArray ks listed = true → S w → walk P l.toArray Q S (picked l ks) a w → wpAnyH P .any l.toArray Q S ks.length listed a w
  | [], listed, a, w, _, hf, _, h => wpAnyH_done (by simpa [fits] using hf) (by simpa [walk, picked] using h) _
  | (k, act) :: ks, listed, a, w, hb, hf, hS, h => by
    have hk : k < l.length := hb (k, act) (by simp)
    have hb' : ∀ x ∈ ks, x.1 < l.length := fun x hx => hb x (by simp [hx])
    have ho : l.toArray[k]? = some l[k] := by simp [hk]
    have hp : picked l ((k, act) :: ks) = (act, l[k]) :: picked l ks := by simp [picked, hk]
    rw [hp] at h
    simp only [fits, Bool.and_eq_true] at hf
    obtain ⟨h1, h2⟩ := hf
    simp only [walk] at h
    cases act with
    | true =>
      simp only [if_true] at h h1
      have hr : Region.ready .any l.toArray listed = [k] := by simpa using h1
      refine wpAnyH_all hr (by simp) ?_
      intro i hi
      obtain rfl : i = k := by simpa using hi
      unfold wpOp
      simp only [ho]
      by_cases hw : Region.wanted l[i] (yielded l.toArray a.tmps) = true
      · simp only [hw, if_true] at h ⊢
        exact .inl (Oper.wp_mono (fun a' w' h' => ⟨h'.1, held_of_walk hs hQ ks _ a' w' hb' h2 h'.1 h'.2⟩) h)
      · simp only [hw] at h ⊢
        exact ⟨hS, held_of_walk hs hQ ks _ _ _ hb' h2 hS h⟩
    | false =>
      simp only [Bool.false_eq_true, if_false, Bool.and_eq_true] at h h1
      by_cases hw : Region.wanted l[k] (yielded l.toArray a.tmps) = true
      · simp only [hw, if_true] at h
        obtain ⟨v, hv, h⟩ := h
        exact wpAnyH_take ho hs h1.2 h1.1 (fun c a w => hQ c a _ _ w) (.inl ⟨hw, hv⟩) hS (held_of_walk hs hQ ks _ _ _ hb' h2 hS h)
      · simp only [hw] at h
        exact wpAnyH_take ho hs h1.2 h1.1 (fun c a w => hQ c a _ _ w) (.inr ⟨by simpa using hw, rfl⟩) hS (held_of_walk hs hQ ks _ _ _ hb' h2 hS h)

/-- The test of a table: every number once, in the list's range, and the edges let it. -/
def good (l : List Oper) (ks : List (Nat × Bool)) : Bool := Region.noSelect l.toArray && (decide (ks.length = l.length) && (ks.all (fun k => decide (k.1 < l.length)) && fits l.toArray ks (Array.replicate l.length false)))

/-- The walk as a goal that no tactic unfolds on its own ('exact', 'refine' would: they look whether the goal is a function). -/
structure Step (P : Program) (ops : Array Oper) (Q : Exit → Act → World → Prop) (S : World → Prop) (l : List (Bool × Oper)) (a : Act) (w : World) : Prop where
  out : walk P ops Q S l a w
theorem region (ks : List (Nat × Bool)) {id : Nat} {a : Act} {w : World} (S : World → Prop) (hm : P.follows .mixedOrders = true) (hg : good l ks = true)
    (hQ : ∀ c a d v w, Q (.panic c) (Act.put a d v) w → Q (.panic c) a w) (hS : S (w.drewN 1)) (h : Step P l.toArray Q S (picked l ks) a (w.drewN 1)) : (Code.region id l.toArray true).wp P Q a w := by
  simp only [good, Bool.and_eq_true, List.all_eq_true, decide_eq_true_eq] at hg
  obtain ⟨g0, g1, g2, g3⟩ := hg
  refine wp_region_held (S := S) hm ?_
  have := held_of_walk g0 hQ ks _ a _ g2 g3 hS h.out
  rw [g1] at this
  simpa [World.drewN] using this

variable {ops : Array Oper} {o : Oper} {rest : List (Bool × Oper)} {a : Act} {w : World} {act : Bool}
theorem skip (hw : Region.wanted o (yielded ops a.tmps) = false) (h : Step P ops Q S rest (a.put o.dst undef) w) : Step P ops Q S ((act, o) :: rest) a w :=
  ⟨by simp only [walk, hw, Bool.false_eq_true, if_false]; exact h.out⟩
theorem quiet (hw : Region.wanted o (yielded ops a.tmps) = true) (v : Value) (hv : ∀ w', S w' → (execOp a.eval o).run P w' = .ok (.value v) w') (h : Step P ops Q S rest (a.put o.dst v) w) : Step P ops Q S ((false, o) :: rest) a w :=
  ⟨by simp only [walk, hw, if_true, Bool.false_eq_true, if_false]; exact ⟨v, hv, h.out⟩⟩
theorem move (x : Operand) (hop : o.op = .move x) (hw : Region.wanted o (yielded ops a.tmps) = true) (h : Step P ops Q S rest (a.put o.dst (a.eval x)) w) : Step P ops Q S ((false, o) :: rest) a w :=
  quiet hw _ (fun w' _ => BigFrame.run_move x hop w') h
theorem assign (x : Operand) (hop : o.op = .assign x) (hw : Region.wanted o (yielded ops a.tmps) = true) (h : Step P ops Q S rest (a.put o.dst (a.eval x)) w) : Step P ops Q S ((false, o) :: rest) a w :=
  quiet hw _ (fun w' _ => BigFrame.run_assign x hop w') h
theorem change (hw : Region.wanted o (yielded ops a.tmps) = true) (h : ∀ K : Act → World → Prop, (∀ a' w', S w' → Step P ops Q S rest a' w' → K a' w') → o.wp P a w K Q) : Step P ops Q S ((true, o) :: rest) a w := by
  refine ⟨?_⟩
  simp only [walk, hw, if_true]
  exact h _ fun a' w' h1 h2 => ⟨h1, h2.out⟩
theorem done (h : Q .normal a w) : Step P ops Q S [] a w := ⟨h⟩
end
end Go.Proofs.YtlignmlkoahbmaaGreatDoor.Sched
