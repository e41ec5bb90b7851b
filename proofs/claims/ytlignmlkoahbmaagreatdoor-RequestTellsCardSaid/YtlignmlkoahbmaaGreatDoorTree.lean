/-
  A region that draws its order, walked along a tree that a plan fixes: each quiet operation is taken while it is free to be taken; operations that may change the world come up alone, or two at once, and then both ways are walked. Stated over any program; the region's edges are asked by a computed test.
-/
import Derived.Test.YtlignmlkoahbmaaGreatDoorBase
import Derived.OrdersHeld
import Derived.Deep.RegionHeld
import Derived.BigRegion
namespace Go.Proofs.YtlignmlkoahbmaaGreatDoor.Tree
open Go.RowKit

inductive Plan where
  | done : Plan
  | quiet (k : Nat) (t : Plan) : Plan
  | act (k : Nat) (t : Plan) : Plan
  | two (k : Nat) (t : Plan) (j : Nat) (s : Plan) : Plan
inductive Way where
  | done : Way
  | stuck : Way
  | quiet (o : Oper) (t : Way) : Way
  | act (o : Oper) (t : Way) : Way
  | two (t : Way) (s : Way) : Way

def put1 (f : Oper → Way) : Option Oper → Way
  | some o => f o
  | none => .stuck
def grow (l : List Oper) : Plan → Way
  | .done => .done
  | .quiet k t => put1 (fun o => .quiet o (grow l t)) l[k]?
  | .act k t => put1 (fun o => .act o (grow l t)) l[k]?
  | .two k t j s => .two (put1 (fun o => .act o (grow l t)) l[k]?) (put1 (fun o => .act o (grow l s)) l[j]?)

/-- Does this plan fit the edges? -/
def fits (ops : Array Oper) : Plan → Nat → Array Bool → Bool
  | .done, _, listed => (Region.ready .any ops listed).isEmpty
  | .quiet k t, n + 1, listed => (Region.ready .any ops listed).contains k && Region.free .any ops listed k && fits ops t n (listed.setIfInBounds k true)
  | .act k t, n + 1, listed => Region.ready .any ops listed == [k] && fits ops t n (listed.setIfInBounds k true)
  | .two k t j s, n + 1, listed => Region.ready .any ops listed == [k, j] && fits ops t n (listed.setIfInBounds k true) && fits ops s n (listed.setIfInBounds j true)
  | _, 0, _ => false

def walk (P : Program) (ops : Array Oper) (Q : Exit → Act → World → Prop) (S : World → Prop) : Way → Act → World → Prop
  | .done, a, w => Q .normal a w
  | .stuck, _, _ => False
  | .quiet o t, a, w =>
    if Region.wanted o (yielded ops a.tmps) = true then ∃ v, (∀ w', S w' → (execOp a.eval o).run P w' = .ok (.value v) w') ∧ walk P ops Q S t (a.put o.dst v) w
    else walk P ops Q S t (a.put o.dst undef) w
  | .act o t, a, w => if Region.wanted o (yielded ops a.tmps) = true then o.wp P a w (fun a' w' => S w' ∧ walk P ops Q S t a' w') Q else walk P ops Q S t (a.put o.dst undef) w
  | .two t s, a, w => walk P ops Q S t a w ∧ walk P ops Q S s a w

section
variable {P : Program} {l : List Oper} {Q : Exit → Act → World → Prop} {S : World → Prop}

theorem step_act {n k : Nat} {listed : Array Bool} {a : Act} {w : World} {t : Plan} (hS : S w)
    (ih : ∀ (a : Act) (w : World), S w → walk P l.toArray Q S (grow l t) a w → wpAnyH P .any l.toArray Q S n (listed.setIfInBounds k true) a w)
    (h : walk P l.toArray Q S (put1 (fun o => .act o (grow l t)) l[k]?) a w) : wpOp P l.toArray Q k (fun a' w' => S w' ∧ wpAnyH P .any l.toArray Q S n (listed.setIfInBounds k true) a' w') a w := by
  cases hk : l[k]? with
  | none => rw [hk] at h; exact h.elim
  | some o =>
    rw [hk] at h
    have ho : l.toArray[k]? = some o := by simpa using hk
    unfold wpOp
    simp only [ho]
    simp only [put1, walk] at h
    by_cases hw : Region.wanted o (yielded l.toArray a.tmps) = true
    · simp only [hw, if_true] at h ⊢
      exact .inl (Oper.wp_mono (fun a' w' h' => ⟨h'.1, ih a' w' h'.1 h'.2⟩) h)
    · simp only [hw] at h ⊢
      exact ⟨hS, ih _ _ hS h⟩

theorem held_of_walk (hs : Region.noSelect l.toArray = true) (hQ : ∀ c a d v w, Q (.panic c) (Act.put a d v) w → Q (.panic c) a w) : ∀ (p : Plan) (n : Nat) (listed : Array Bool) (a : Act) (w : World),
    fits l.toArray p n listed = true → S w → walk P l.toArray Q S (grow l p) a w → wpAnyH P .any l.toArray Q S n listed a w
  | .done, n, listed, a, w, hf, _, h => wpAnyH_done (by simpa [fits] using hf) (by simpa [walk, grow] using h) _
  | .quiet k t, 0, listed, a, w, hf, _, _ => by simp [fits] at hf
  | .act k t, 0, listed, a, w, hf, _, _ => by simp [fits] at hf
  | .two k t j s, 0, listed, a, w, hf, _, _ => by simp [fits] at hf
  | .quiet k t, n + 1, listed, a, w, hf, hS, h => by
    simp only [fits, Bool.and_eq_true] at hf
    obtain ⟨h1, h2⟩ := hf
    cases hk : l[k]? with
    | none => rw [grow, hk] at h; exact h.elim
    | some o =>
      rw [grow, hk] at h
      have ho : l.toArray[k]? = some o := by simpa using hk
      simp only [put1, walk] at h
      by_cases hw : Region.wanted o (yielded l.toArray a.tmps) = true
      · simp only [hw, if_true] at h
        obtain ⟨v, hv, h⟩ := h
        exact wpAnyH_take ho hs h1.2 h1.1 (fun c a w => hQ c a _ _ w) (.inl ⟨hw, hv⟩) hS (held_of_walk hs hQ t n _ _ _ h2 hS h)
      · simp only [hw] at h
        exact wpAnyH_take ho hs h1.2 h1.1 (fun c a w => hQ c a _ _ w) (.inr ⟨by simpa using hw, rfl⟩) hS (held_of_walk hs hQ t n _ _ _ h2 hS h)
  | .act k t, n + 1, listed, a, w, hf, hS, h => by
    simp only [fits, Bool.and_eq_true] at hf
    obtain ⟨h1, h2⟩ := hf
    have hr : Region.ready .any l.toArray listed = [k] := by simpa using h1
    refine wpAnyH_all hr (by simp) ?_
    intro i hi
    obtain rfl : i = k := by simpa using hi
    exact step_act hS (fun a w hS h => held_of_walk hs hQ t n _ a w h2 hS h) h
  | .two k t j s, n + 1, listed, a, w, hf, hS, h => by
    simp only [fits, Bool.and_eq_true] at hf
    obtain ⟨⟨h1, h2⟩, h3⟩ := hf
    have hr : Region.ready .any l.toArray listed = [k, j] := by simpa using h1
    simp only [grow, walk] at h
    refine wpAnyH_all hr (by simp) ?_
    intro i hi
    simp only [List.mem_cons, List.not_mem_nil, or_false] at hi
    rcases hi with rfl | rfl
    · exact step_act hS (fun a w hS h => held_of_walk hs hQ t n _ a w h2 hS h) h.1
    · exact step_act hS (fun a w hS h => held_of_walk hs hQ s n _ a w h3 hS h) h.2

/-- The test of a plan: the edges let it. -/
def good (l : List Oper) (p : Plan) : Bool := Region.noSelect l.toArray && fits l.toArray p l.length (Array.replicate l.length false)

/-- The walk as a goal that no tactic unfolds on its own ('exact', 'refine' would: they look whether the goal is a function). -/
structure Step (P : Program) (ops : Array Oper) (Q : Exit → Act → World → Prop) (S : World → Prop) (t : Way) (a : Act) (w : World) : Prop where
  out : walk P ops Q S t a w
theorem region (p : Plan) {id : Nat} {a : Act} {w : World} (S : World → Prop) (hm : P.follows .mixedOrders = true) (hg : good l p = true)
    (hQ : ∀ c a d v w, Q (.panic c) (Act.put a d v) w → Q (.panic c) a w) (hS : S (w.drewN 1)) (h : Step P l.toArray Q S (grow l p) a (w.drewN 1)) : (Code.region id l.toArray true).wp P Q a w := by
  simp only [good, Bool.and_eq_true] at hg
  refine wp_region_held (S := S) hm ?_
  have := held_of_walk hg.1 hQ p _ _ a _ hg.2 hS h.out
  simpa [World.drewN] using this

variable {ops : Array Oper} {o : Oper} {t s : Way} {a : Act} {w : World}
theorem skip (hw : Region.wanted o (yielded ops a.tmps) = false) (h : Step P ops Q S t (a.put o.dst undef) w) : Step P ops Q S (.quiet o t) a w := by
  exact ⟨by simp only [walk, hw, Bool.false_eq_true, if_false]; exact h.out⟩
theorem skip_act (hw : Region.wanted o (yielded ops a.tmps) = false) (h : Step P ops Q S t (a.put o.dst undef) w) : Step P ops Q S (.act o t) a w := by
  exact ⟨by simp only [walk, hw, Bool.false_eq_true, if_false]; exact h.out⟩
theorem quiet (hw : Region.wanted o (yielded ops a.tmps) = true) (v : Value) (hv : ∀ w', S w' → (execOp a.eval o).run P w' = .ok (.value v) w') (h : Step P ops Q S t (a.put o.dst v) w) : Step P ops Q S (.quiet o t) a w := by
  exact ⟨by simp only [walk, hw, if_true]; exact ⟨v, hv, h.out⟩⟩
theorem move (x : Operand) (hop : o.op = .move x) (hw : Region.wanted o (yielded ops a.tmps) = true) (h : Step P ops Q S t (a.put o.dst (a.eval x)) w) : Step P ops Q S (.quiet o t) a w :=
  quiet hw _ (fun w' _ => BigFrame.run_move x hop w') h
theorem assign (x : Operand) (hop : o.op = .assign x) (hw : Region.wanted o (yielded ops a.tmps) = true) (h : Step P ops Q S t (a.put o.dst (a.eval x)) w) : Step P ops Q S (.quiet o t) a w :=
  quiet hw _ (fun w' _ => BigFrame.run_assign x hop w') h
theorem change (hw : Region.wanted o (yielded ops a.tmps) = true) (h : ∀ K : Act → World → Prop, (∀ a' w', S w' → Step P ops Q S t a' w' → K a' w') → o.wp P a w K Q) : Step P ops Q S (.act o t) a w := by
  refine ⟨?_⟩
  simp only [walk, hw, if_true]
  exact h _ fun a' w' h1 h2 => ⟨h1, h2.out⟩
theorem both (h1 : Step P ops Q S t a w) (h2 : Step P ops Q S s a w) : Step P ops Q S (.two t s) a w := ⟨⟨h1.out, h2.out⟩⟩
theorem done (h : Q .normal a w) : Step P ops Q S .done a w := ⟨h⟩
end
end Go.Proofs.YtlignmlkoahbmaaGreatDoor.Tree
