/-
  A region that draws its order, walked along a tree that a plan fixes: each quiet operation is taken while it is free to be taken; operations that may change the world come up alone, or two or three at once, and then all ways are walked; on the way more may be kept of the world than at its beginning. Stated over any program; the region's edges are asked by a computed test.
-/
import Derived.Test.YtmbjnolikofaoaaBase
namespace Go.Proofs.Ytmbjnolikofaoaa.Three
open Go.RowKit

inductive Plan where
  | done : Plan
  | quiet (k : Nat) (t : Plan) : Plan
  | act (k : Nat) (t : Plan) : Plan
  | two (k : Nat) (t : Plan) (j : Nat) (s : Plan) : Plan
  | three (k : Nat) (t : Plan) (j : Nat) (s : Plan) (i : Nat) (r : Plan) : Plan
  | more (t : Plan) : Plan
inductive Way where
  | done : Way
  | stuck : Way
  | quiet (o : Oper) (t : Way) : Way
  | act (o : Oper) (t : Way) : Way
  | two (t : Way) (s : Way) : Way
  | three (t : Way) (s : Way) (r : Way) : Way
  | more (t : Way) : Way

def put1 (f : Oper → Way) : Option Oper → Way
  | some o => f o
  | none => .stuck
def grow (l : List Oper) : Plan → Way
  | .done => .done
  | .quiet k t => put1 (fun o => .quiet o (grow l t)) l[k]?
  | .act k t => put1 (fun o => .act o (grow l t)) l[k]?
  | .two k t j s => .two (put1 (fun o => .act o (grow l t)) l[k]?) (put1 (fun o => .act o (grow l s)) l[j]?)
  | .three k t j s i r => .three (put1 (fun o => .act o (grow l t)) l[k]?) (put1 (fun o => .act o (grow l s)) l[j]?) (put1 (fun o => .act o (grow l r)) l[i]?)
  | .more t => .more (grow l t)

/-- Does this plan fit the edges? -/
def fits (ops : Array Oper) : Plan → Nat → Array Bool → Bool
  | .done, _, listed => (Region.ready .any ops listed).isEmpty
  | .quiet k t, n + 1, listed => (Region.ready .any ops listed).contains k && Region.free .any ops listed k && fits ops t n (listed.setIfInBounds k true)
  | .act k t, n + 1, listed => Region.ready .any ops listed == [k] && fits ops t n (listed.setIfInBounds k true)
  | .two k t j s, n + 1, listed => Region.ready .any ops listed == [k, j] && fits ops t n (listed.setIfInBounds k true) && fits ops s n (listed.setIfInBounds j true)
  | .three k t j s i r, n + 1, listed => Region.ready .any ops listed == [k, j, i] && fits ops t n (listed.setIfInBounds k true) && fits ops s n (listed.setIfInBounds j true) && fits ops r n (listed.setIfInBounds i true)
  | .more t, n, listed => fits ops t n listed
  | _, 0, _ => false

def walk (P : Program) (ops : Array Oper) (Q : Exit → Act → World → Prop) : (S : World → Prop) → Way → Act → World → Prop
  | _, .done, a, w => Q .normal a w
  | _, .stuck, _, _ => False
  | S, .more t, a, w => ∃ S2 : World → Prop, (∀ w', S2 w' → S w') ∧ S2 w ∧ walk P ops Q S2 t a w
  | S, .quiet o t, a, w =>
    if Region.wanted o (yielded ops a.tmps) = true then ∃ v, (∀ w', S w' → (execOp a.eval o).run P w' = .ok (.value v) w') ∧ walk P ops Q S t (a.put o.dst v) w
    else walk P ops Q S t (a.put o.dst undef) w
  | S, .act o t, a, w => if Region.wanted o (yielded ops a.tmps) = true then o.wp P a w (fun a' w' => S w' ∧ walk P ops Q S t a' w') Q else walk P ops Q S t (a.put o.dst undef) w
  | S, .two t s, a, w => walk P ops Q S t a w ∧ walk P ops Q S s a w
  | S, .three t s r, a, w => walk P ops Q S t a w ∧ (walk P ops Q S s a w ∧ walk P ops Q S r a w)

section
variable {P : Program} {l : List Oper} {Q : Exit → Act → World → Prop} {S : World → Prop}

theorem held_mono {md : Region.Mode} {ops : Array Oper} {S S2 : World → Prop} (h : ∀ w, S2 w → S w) : ∀ (n : Nat) (listed : Array Bool) (a : Act) (w : World), wpAnyH P md ops Q S2 n listed a w → wpAnyH P md ops Q S n listed a w
  | 0, _, _, _, k => k
  | n + 1, _, _, _, k => ⟨k.1, fun i hi => wpOp_mono (fun a' w' h' => ⟨h _ h'.1, held_mono h n _ a' w' h'.2⟩) (k.2 i hi)⟩

theorem step_act {n k : Nat} {listed : Array Bool} {a : Act} {w : World} {t : Plan} (hS : S w)
    (ih : ∀ (a : Act) (w : World), S w → walk P l.toArray Q S (grow l t) a w → wpAnyH P .any l.toArray Q S n (listed.setIfInBounds k true) a w)
    (h : walk P l.toArray Q S (put1 (fun o => .act o (grow l t)) l[k]?) a w) : wpOp P l.toArray Q k (fun a' w' => S w' ∧ wpAnyH P .any l.toArray Q S n (listed.setIfInBounds k true) a' w') a w := by
  cases hk : l[k]? with
  | none => rw [hk] at h; exact h.elim
  | some o =>
    rw [hk] at h
    have ho : l.toArray[k]? = some o := by simpa using hk
    unfold wpOp
    simp only [ho]
    simp only [put1, walk] at h
    by_cases hw : Region.wanted o (yielded l.toArray a.tmps) = true
    · simp only [hw, if_true] at h ⊢
      exact .inl (Oper.wp_mono (fun a' w' h' => ⟨h'.1, ih a' w' h'.1 h'.2⟩) h)
    · simp only [hw] at h ⊢
      exact ⟨hS, ih _ _ hS h⟩

theorem held_of_walk (hs : Region.noSelect l.toArray = true) (hQ : ∀ c a d v w, Q (.panic c) (Act.put a d v) w → Q (.panic c) a w) : ∀ (p : Plan) (S : World → Prop) (n : Nat) (listed : Array Bool) (a : Act) (w : World),
    fits l.toArray p n listed = true → S w → walk P l.toArray Q S (grow l p) a w → wpAnyH P .any l.toArray Q S n listed a w
  | .done, _, n, listed, a, w, hf, _, h => wpAnyH_done (by simpa [fits] using hf) (by simpa [walk, grow] using h) _
  | .quiet k t, _, 0, listed, a, w, hf, _, _ => by simp [fits] at hf
  | .act k t, _, 0, listed, a, w, hf, _, _ => by simp [fits] at hf
  | .two k t j s, _, 0, listed, a, w, hf, _, _ => by simp [fits] at hf
  | .three k t j s i r, _, 0, listed, a, w, hf, _, _ => by simp [fits] at hf
  | .more t, S, n, listed, a, w, hf, hS, h => by
    simp only [grow, walk] at h
    obtain ⟨S2, h1, h2, h3⟩ := h
    exact held_mono h1 n listed a w (held_of_walk hs hQ t S2 n listed a w (by simpa [fits] using hf) h2 h3)
  | .quiet k t, S, n + 1, listed, a, w, hf, hS, h => by
    simp only [fits, Bool.and_eq_true] at hf
    obtain ⟨h1, h2⟩ := hf
    cases hk : l[k]? with
    | none => rw [grow, hk] at h; exact h.elim
    | some o =>
      rw [grow, hk] at h
      have ho : l.toArray[k]? = some o := by simpa using hk
      simp only [put1, walk] at h
      by_cases hw : Region.wanted o (yielded l.toArray a.tmps) = true
      · simp only [hw, if_true] at h
        obtain ⟨v, hv, h⟩ := h
        exact wpAnyH_take ho hs h1.2 h1.1 (fun c a w => hQ c a _ _ w) (.inl ⟨hw, hv⟩) hS (held_of_walk hs hQ t S n _ _ _ h2 hS h)
      · simp only [hw] at h
        exact wpAnyH_take ho hs h1.2 h1.1 (fun c a w => hQ c a _ _ w) (.inr ⟨by simpa using hw, rfl⟩) hS (held_of_walk hs hQ t S n _ _ _ h2 hS h)
  | .act k t, S, n + 1, listed, a, w, hf, hS, h => by
    simp only [fits, Bool.and_eq_true] at hf
    obtain ⟨h1, h2⟩ := hf
    have hr : Region.ready .any l.toArray listed = [k] := by simpa using h1
    refine wpAnyH_all hr (by simp) ?_
    intro i hi
    obtain rfl : i = k := by simpa using hi
    exact step_act hS (fun a w hS h => held_of_walk hs hQ t S n _ a w h2 hS h) h
  | .two k t j s, S, n + 1, listed, a, w, hf, hS, h => by
    simp only [fits, Bool.and_eq_true] at hf
    obtain ⟨⟨h1, h2⟩, h3⟩ := hf
    have hr : Region.ready .any l.toArray listed = [k, j] := by simpa using h1
    simp only [grow, walk] at h
    refine wpAnyH_all hr (by simp) ?_
    intro i hi
    simp only [List.mem_cons, List.not_mem_nil, or_false] at hi
    rcases hi with rfl | rfl
    · exact step_act hS (fun a w hS h => held_of_walk hs hQ t S n _ a w h2 hS h) h.1
    · exact step_act hS (fun a w hS h => held_of_walk hs hQ s S n _ a w h3 hS h) h.2
  | .three k t j s m r, S, n + 1, listed, a, w, hf, hS, h => by
    simp only [fits, Bool.and_eq_true] at hf
    obtain ⟨⟨⟨h1, h2⟩, h3⟩, h4⟩ := hf
    have hr : Region.ready .any l.toArray listed = [k, j, m] := by simpa using h1
    simp only [grow, walk] at h
    refine wpAnyH_all hr (by simp) ?_
    intro i hi
    simp only [List.mem_cons, List.not_mem_nil, or_false] at hi
    rcases hi with rfl | rfl | rfl
    · exact step_act hS (fun a w hS h => held_of_walk hs hQ t S n _ a w h2 hS h) h.1
    · exact step_act hS (fun a w hS h => held_of_walk hs hQ s S n _ a w h3 hS h) h.2.1
    · exact step_act hS (fun a w hS h => held_of_walk hs hQ r S n _ a w h4 hS h) h.2.2

/-- The test of a plan: the edges let it. -/
def good (l : List Oper) (p : Plan) : Bool := Region.noSelect l.toArray && fits l.toArray p l.length (Array.replicate l.length false)

/-- The walk as a goal that no tactic unfolds on its own ('exact', 'refine' would: they look whether the goal is a function). -/
structure Step (P : Program) (ops : Array Oper) (Q : Exit → Act → World → Prop) (S : World → Prop) (t : Way) (a : Act) (w : World) : Prop where
  out : walk P ops Q S t a w
theorem region (p : Plan) {id : Nat} {a : Act} {w : World} (S : World → Prop) (hm : P.follows .mixedOrders = true) (hg : good l p = true)
    (hQ : ∀ c a d v w, Q (.panic c) (Act.put a d v) w → Q (.panic c) a w) (hS : S (w.drewN 1)) (h : Step P l.toArray Q S (grow l p) a (w.drewN 1)) : (Code.region id l.toArray true).wp P Q a w := by
  simp only [good, Bool.and_eq_true] at hg
  refine wp_region_held (S := S) hm ?_
  have := held_of_walk hg.1 hQ p S _ _ a _ hg.2 hS h.out
  simpa [World.drewN] using this

variable {ops : Array Oper} {o : Oper} {t s r : Way} {a : Act} {w : World}
theorem skip (hw : Region.wanted o (yielded ops a.tmps) = false) (h : Step P ops Q S t (a.put o.dst undef) w) : Step P ops Q S (.quiet o t) a w := by
  exact ⟨by simp only [walk, hw, Bool.false_eq_true, if_false]; exact h.out⟩
theorem skip_act (hw : Region.wanted o (yielded ops a.tmps) = false) (h : Step P ops Q S t (a.put o.dst undef) w) : Step P ops Q S (.act o t) a w := by
  exact ⟨by simp only [walk, hw, Bool.false_eq_true, if_false]; exact h.out⟩
theorem quiet (hw : Region.wanted o (yielded ops a.tmps) = true) (v : Value) (hv : ∀ w', S w' → (execOp a.eval o).run P w' = .ok (.value v) w') (h : Step P ops Q S t (a.put o.dst v) w) : Step P ops Q S (.quiet o t) a w := by
  exact ⟨by simp only [walk, hw, if_true]; exact ⟨v, hv, h.out⟩⟩
theorem move (x : Operand) (hop : o.op = .move x) (hw : Region.wanted o (yielded ops a.tmps) = true) (h : Step P ops Q S t (a.put o.dst (a.eval x)) w) : Step P ops Q S (.quiet o t) a w :=
  quiet hw _ (fun w' _ => BigFrame.run_move x hop w') h
theorem assign (x : Operand) (hop : o.op = .assign x) (hw : Region.wanted o (yielded ops a.tmps) = true) (h : Step P ops Q S t (a.put o.dst (a.eval x)) w) : Step P ops Q S (.quiet o t) a w :=
  quiet hw _ (fun w' _ => BigFrame.run_assign x hop w') h
theorem change (hw : Region.wanted o (yielded ops a.tmps) = true) (h : ∀ K : Act → World → Prop, (∀ a' w', S w' → Step P ops Q S t a' w' → K a' w') → o.wp P a w K Q) : Step P ops Q S (.act o t) a w := by
  refine ⟨?_⟩
  simp only [walk, hw, if_true]
  exact h _ fun a' w' h1 h2 => ⟨h1, h2.out⟩
theorem both (h1 : Step P ops Q S t a w) (h2 : Step P ops Q S s a w) : Step P ops Q S (.two t s) a w := ⟨⟨h1.out, h2.out⟩⟩
theorem more (S2 : World → Prop) (h1 : ∀ w', S2 w' → S w') (h2 : S2 w) (h : Step P ops Q S2 t a w) : Step P ops Q S (.more t) a w := ⟨⟨S2, h1, h2, h.out⟩⟩
theorem each (h1 : Step P ops Q S t a w) (h2 : Step P ops Q S s a w) (h3 : Step P ops Q S r a w) : Step P ops Q S (.three t s r) a w := ⟨⟨h1.out, h2.out, h3.out⟩⟩
theorem done (h : Q .normal a w) : Step P ops Q S .done a w := ⟨h⟩
end
end Go.Proofs.Ytmbjnolikofaoaa.Three
