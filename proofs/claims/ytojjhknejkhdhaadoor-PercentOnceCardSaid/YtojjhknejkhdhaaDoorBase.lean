/-
  Words that all walks of this seat share: a slice of integers that reads as a list; what a call that only makes memory leaves as it was; small facts on bytes and prefixes. No program is spoken of.
-/
import Derived.Test.YtojjhknejkhdhaaDoorProg
import Derived.WalkKit
import Derived.WalkSpells
import Derived.WalkLawsBesides
import Derived.Lib.Hide
import Derived.Deep.Draws
import Derived.OrdersHeld
import Derived.Deep.RegionHeld
import Derived.BigRegion
import Derived.Maps.AppendAt
import Derived.Laws.Append
import Derived.Lib.Strings
import Derived.LaidLaws
import Derived.OpenShut
import Derived.ChangeArms
import Derived.ChangeKeysEq
namespace Go.Proofs.YtojjhknejkhdhaaDoor.Base
open Go.RowKit

/-- A slice value with first address a and n elements holds the whole numbers zs (of kind int). -/
def Ints (w : World) (a : Option Addr) (n : Nat) (zs : List Int) : Prop :=
  zs.length = n ∧ (0 < n → ∃ b off, a = some ⟨b, off, none⟩ ∧ b < w.heap.size ∧ ∀ k, k < n → w.cell? ⟨b, off + k, none⟩ = some (.int .i64 (zs[k]?.getD 0)))

theorem Ints.nil (w : World) (a : Option Addr) : Ints w a 0 [] := ⟨rfl, fun h => absurd h (by omega)⟩
theorem Ints.below {w w' : World} {a : Option Addr} {n : Nat} {zs : List Int} (h : Ints w a n zs) (hb : Below w.heap.size w w') : Ints w' a n zs := by
  refine ⟨h.1, fun hn => ?_⟩
  obtain ⟨b, off, e, hlt, hc⟩ := h.2 hn
  exact ⟨b, off, e, Nat.lt_of_lt_of_le hlt hb.size, fun k hk => (hb.cell (p := ⟨b, off + k, none⟩) hlt).trans (hc k hk)⟩
theorem Ints.drewN {w : World} {a : Option Addr} {n : Nat} {zs : List Int} (h : Ints w a n zs) (m : Nat) : Ints (w.drewN m) a n zs := h
theorem Ints.new (w : World) (cs : Array Value) (t : TypeId) (zs : List Int) (n : Nat) (hn : zs.length = n) (h : ∀ k, k < n → cs[k]? = some (.int .i64 (zs[k]?.getD 0))) :
    Ints (w.alloc (.cells cs t)) (some ⟨w.heap.size, 0, none⟩) n zs := by
  refine ⟨hn, fun _ => ⟨w.heap.size, 0, rfl, by simp, fun k hk => ?_⟩⟩
  rw [Nat.zero_add]
  exact (cell_of_row (w.alloc (.cells cs t)) w.heap.size k cs t (0, 0) (heap_alloc_new w _)).trans (h k hk)

theorem Ints.one (w : World) (g : Nat) (hg : g = w.heap.size) (x : Int) (t : TypeId) : Ints (w.alloc (.cells #[.int .i64 x] t)) (some ⟨g, 0, none⟩) 1 [x] := by
  subst hg
  refine Ints.new w _ t [x] 1 rfl ?_
  intro k hk
  obtain rfl : k = 0 := by omega
  rfl
theorem Ints.two (w : World) (g : Nat) (hg : g = w.heap.size) (x y : Int) (t : TypeId) : Ints (w.alloc (.cells #[.int .i64 x, .int .i64 y] t)) (some ⟨g, 0, none⟩) 2 [x, y] := by
  subst hg
  refine Ints.new w _ t [x, y] 2 rfl ?_
  intro k hk
  rcases (by omega : k = 0 ∨ k = 1) with rfl | rfl <;> rfl
theorem Ints.three (w : World) (g : Nat) (hg : g = w.heap.size) (x y z : Int) (t : TypeId) : Ints (w.alloc (.cells #[.int .i64 x, .int .i64 y, .int .i64 z] t)) (some ⟨g, 0, none⟩) 3 [x, y, z] := by
  subst hg
  refine Ints.new w _ t [x, y, z] 3 rfl ?_
  intro k hk
  rcases (by omega : k = 0 ∨ k = 1 ∨ k = 2) with rfl | rfl | rfl <;> rfl

/-- A row that the call made, of whole numbers, reads as a slice of them. -/
theorem Ints.of_own {w : World} {base : Nat} {e : TypeId} {v : Value} {n : Nat} {zs : List Int} (h : w.ownsRow base e 1 v n (zs.map (Value.int .i64))) : ∃ A c, v = .slice A n c ∧ Ints w A n zs := by
  have hl : zs.length = n := by simpa using h.1
  rcases h.2 with ⟨rfl, rfl⟩ | ⟨g, cap, cur, rfl, _, hh, _, _, _, ht⟩
  · exact ⟨none, 0, rfl, hl, fun h => absurd h (by omega)⟩
  · refine ⟨_, _, rfl, hl, fun _ => ⟨g, 0, rfl, ?_, fun k hk => ?_⟩⟩
    · rcases Nat.lt_or_ge g w.heap.size with hlt | hge
      · exact hlt
      · rw [Array.getElem?_eq_none hge] at hh; cases hh
    · rw [Nat.zero_add, cell_of_row w g k cur e (0, 0) hh]
      have h1 : (zs.map (Value.int .i64))[k]? = some (.int .i64 (zs[k]?.getD 0)) := by
        rw [List.getElem?_map, List.getElem?_eq_getElem (by omega)]; rfl
      rw [← ht, List.getElem?_take_of_lt (by omega)] at h1
      simpa using h1
theorem own_base {w : World} {base : Nat} {e : TypeId} {size : Nat} {v : Value} {n : Nat} {xs : List Value} (h : w.ownsRow base e size v n xs) (g : Nat) (hg : v.ownBlock = some g) : base ≤ g := by
  rcases h.2 with ⟨rfl, _⟩ | ⟨g', _, _, rfl, hb, _⟩
  · simp [Value.ownBlock] at hg
  · simp [Value.ownBlock] at hg; omega
theorem news_one (w : World) (v : Value) (t : TypeId) : ∀ (j : Nat) (u : Value), [v][j]? = some u → (w.alloc (.cells #[v] t)).cell? (Addr.add ⟨w.heap.size, 0, none⟩ j) = some u := by
  intro j u hu
  have hj : j = 0 := by
    rcases Nat.eq_zero_or_pos j with h | h
    · exact h
    · rw [List.getElem?_eq_none (by simp; omega)] at hu; cases hu
  subst hj
  have : v = u := by simpa using hu
  subst this
  exact (cell_of_row (w.alloc (.cells #[v] t)) w.heap.size 0 #[v] t (0, 0) (heap_alloc_new w _))
/-- A slot that was passed over holds no bool: so a guard upon it is read at once (lay it into the walk's rules: 'attribute [local go_sem] Base.some_undef'). -/
theorem some_undef : (some undef : Option Value) = some (.tuple #[]) := rfl

/-- What was there reads as it did, cell by cell and mark by mark. -/
theorem kept {W w1 : World} (hb : Below W.heap.size W w1) : (∀ b o, b < W.heap.size → w1.cell? ⟨b, o, none⟩ = W.cell? ⟨b, o, none⟩) ∧ (∀ b o, b < W.heap.size → w1.frozen? ⟨b, o, none⟩ = W.frozen? ⟨b, o, none⟩) :=
  ⟨fun b o h => hb.cell (p := ⟨b, o, none⟩) h, fun b o h => hb.frozen (p := ⟨b, o, none⟩) h⟩
theorem below_drewN {B : Nat} {a w : World} (h : Below B a w) (n : Nat) : Below B a (w.drewN n) := ⟨h.os, h.tape, h.output, h.size, h.block⟩

theorem ret_bool {a b : Bool} (h : a = true ↔ b = true) : Ending.returned (.bool a) = .returned (.bool b) := by rw [Bool.eq_iff_iff.2 h]
theorem ret_int {k : IntKind} {a b : Int} (h : a = b) : Ending.returned (.int k a) = .returned (.int k b) := by rw [h]

theorem take_snoc (s : ByteArray) (k : Nat) (h : k < s.size) : s.data.toList.take (k + 1) = s.data.toList.take k ++ [s[k]] := by
  rw [List.take_succ_eq_append_getElem (by simpa using h)]; rfl
theorem take_all (s : ByteArray) (k : Nat) (h : s.size ≤ k) : s.data.toList.take k = s.data.toList := List.take_of_length_le (by simpa using h)
theorem byte_lt (b : UInt8) : (b.toNat : Int) ≤ 255 := by have := b.toNat_lt; omega
theorem byte_mem (s : ByteArray) (k : Nat) (h : k < s.size) : s[k] ∈ s.data.toList := by
  have := take_snoc s k h
  exact List.mem_of_mem_take (i := k + 1) (by rw [this]; simp)
theorem ints_snoc (zs : List Int) (k : Nat) (h : k < zs.length) : zs.take (k + 1) = zs.take k ++ [zs[k]?.getD 0] := by
  rw [List.take_succ_eq_append_getElem h, List.getElem?_eq_getElem h]; rfl
theorem bits_le (op : BinOp) (x y : Int) : bits op .i64 x y ≤ 9223372036854775807 := by unfold bits; rw [IntKind.wrap_i64]; omega
theorem below_step {a b c : World} (h1 : Below a.heap.size a b) (h2 : Below b.heap.size b c) : Below a.heap.size a c := h1.trans (h2.mono h1.size)

/-- A slice value with first address a and n elements holds the whole numbers zs, of kind kd. -/
def Nums (kd : IntKind) (w : World) (a : Option Addr) (n : Nat) (zs : List Int) : Prop :=
  zs.length = n ∧ (0 < n → ∃ b off, a = some ⟨b, off, none⟩ ∧ b < w.heap.size ∧ ∀ k, k < n → w.cell? ⟨b, off + k, none⟩ = some (.int kd (zs[k]?.getD 0)))
theorem Nums.nil (kd : IntKind) (w : World) (a : Option Addr) : Nums kd w a 0 [] := ⟨rfl, fun h => absurd h (by omega)⟩
theorem Nums.below {kd : IntKind} {w w' : World} {a : Option Addr} {n : Nat} {zs : List Int} (h : Nums kd w a n zs) (hb : Below w.heap.size w w') : Nums kd w' a n zs := by
  refine ⟨h.1, fun hn => ?_⟩
  obtain ⟨b, off, e, hlt, hc⟩ := h.2 hn
  exact ⟨b, off, e, Nat.lt_of_lt_of_le hlt hb.size, fun k hk => (hb.cell (p := ⟨b, off + k, none⟩) hlt).trans (hc k hk)⟩
theorem wrap_in (x : Int) (h0 : -9223372036854775808 ≤ x) (h1 : x ≤ 9223372036854775807) : IntKind.i64.wrap x = x := by rw [IntKind.wrap_i64]; omega
end Go.Proofs.YtojjhknejkhdhaaDoor.Base

/-
  A region that draws its order, walked in ONE order that a table fixes, where the region's own edges make that enough: each quiet operation is taken while it is free to be taken; each operation that may change the world comes up alone. Stated over any program; the edges are asked by a computed test.
-/
namespace Go.Proofs.YtojjhknejkhdhaaDoor.Sched
open Go.RowKit

/-- Does this order fit the edges? A number with 'true' is an operation that may change the world: it must be the only one that may come up. -/
def fits (ops : Array Oper) : List (Nat × Bool) → Array Bool → Bool
  | [], listed => (Region.ready .any ops listed).isEmpty
  | (k, act) :: ks, listed =>
    (if act then Region.ready .any ops listed == [k] else (Region.ready .any ops listed).contains k && Region.free .any ops listed k) && fits ops ks (listed.setIfInBounds k true)

/-- The walk of the operations in that order. -/
def walk (P : Program) (ops : Array Oper) (Q : Exit → Act → World → Prop) (S : World → Prop) : List (Bool × Oper) → Act → World → Prop
  | [], a, w => Q .normal a w
  | (act, o) :: rest, a, w =>
    if Region.wanted o (yielded ops a.tmps) = true then
      (if act = true then o.wp P a w (fun a' w' => S w' ∧ walk P ops Q S rest a' w') Q
       else ∃ v, (∀ w', S w' → (execOp a.eval o).run P w' = .ok (.value v) w') ∧ walk P ops Q S rest (a.put o.dst v) w)
    else walk P ops Q S rest (a.put o.dst undef) w

/-- The operations of a list, in that order. -/
def picked (l : List Oper) (ks : List (Nat × Bool)) : List (Bool × Oper) := ks.filterMap fun k => (l[k.1]?).map fun o => (k.2, o)

section
variable {P : Program} {l : List Oper} {Q : Exit → Act → World → Prop} {S : World → Prop}

theorem held_of_walk (hs : Region.noSelect l.toArray = true) (hQ : ∀ c a d v w, Q (.panic c) (Act.put a d v) w → Q (.panic c) a w) : ∀ (ks : List (Nat × Bool)) (listed : Array Bool) (a : Act) (w : World),
    (∀ k ∈ ks, k.1 < l.length) → fits l.toArray ks listed = true → S w → walk P l.toArray Q S (picked l ks) a w → wpAnyH P .any l.toArray Q S ks.length listed a w
  | [], listed, a, w, _, hf, _, h => wpAnyH_done (by simpa [fits] using hf) (by simpa [walk, picked] using h) _
  | (k, act) :: ks, listed, a, w, hb, hf, hS, h => by
    have hk : k < l.length := hb (k, act) (by simp)
    have hb' : ∀ x ∈ ks, x.1 < l.length := fun x hx => hb x (by simp [hx])
    have ho : l.toArray[k]? = some l[k] := by simp [hk]
    have hp : picked l ((k, act) :: ks) = (act, l[k]) :: picked l ks := by simp [picked, hk]
    rw [hp] at h
    simp only [fits, Bool.and_eq_true] at hf
    obtain ⟨h1, h2⟩ := hf
    simp only [walk] at h
    cases act with
    | true =>
      simp only [if_true] at h h1
      have hr : Region.ready .any l.toArray listed = [k] := by simpa using h1
      refine wpAnyH_all hr (by simp) ?_
      intro i hi
      obtain rfl : i = k := by simpa using hi
      unfold wpOp
      simp only [ho]
      by_cases hw : Region.wanted l[i] (yielded l.toArray a.tmps) = true
      · simp only [hw, if_true] at h ⊢
        exact .inl (Oper.wp_mono (fun a' w' h' => ⟨h'.1, held_of_walk hs hQ ks _ a' w' hb' h2 h'.1 h'.2⟩) h)
      · simp only [hw] at h ⊢
        exact ⟨hS, held_of_walk hs hQ ks _ _ _ hb' h2 hS h⟩
    | false =>
      simp only [Bool.false_eq_true, if_false, Bool.and_eq_true] at h h1
      by_cases hw : Region.wanted l[k] (yielded l.toArray a.tmps) = true
      · simp only [hw, if_true] at h
        obtain ⟨v, hv, h⟩ := h
        exact wpAnyH_take ho hs h1.2 h1.1 (fun c a w => hQ c a _ _ w) (.inl ⟨hw, hv⟩) hS (held_of_walk hs hQ ks _ _ _ hb' h2 hS h)
      · simp only [hw] at h
        exact wpAnyH_take ho hs h1.2 h1.1 (fun c a w => hQ c a _ _ w) (.inr ⟨by simpa using hw, rfl⟩) hS (held_of_walk hs hQ ks _ _ _ hb' h2 hS h)

/-- The test of a table: every number once, in the list's range, and the edges let it. -/
def good (l : List Oper) (ks : List (Nat × Bool)) : Bool := Region.noSelect l.toArray && (decide (ks.length = l.length) && (ks.all (fun k => decide (k.1 < l.length)) && fits l.toArray ks (Array.replicate l.length false)))

/-- The walk as a goal that no tactic unfolds on its own ('exact', 'refine' would: they look whether the goal is a function). -/
structure Step (P : Program) (ops : Array Oper) (Q : Exit → Act → World → Prop) (S : World → Prop) (l : List (Bool × Oper)) (a : Act) (w : World) : Prop where
  out : walk P ops Q S l a w
theorem region (ks : List (Nat × Bool)) {id : Nat} {a : Act} {w : World} (S : World → Prop) (hm : P.follows .mixedOrders = true) (hg : good l ks = true)
    (hQ : ∀ c a d v w, Q (.panic c) (Act.put a d v) w → Q (.panic c) a w) (hS : S (w.drewN 1)) (h : Step P l.toArray Q S (picked l ks) a (w.drewN 1)) : (Code.region id l.toArray true).wp P Q a w := by
  simp only [good, Bool.and_eq_true, List.all_eq_true, decide_eq_true_eq] at hg
  obtain ⟨g0, g1, g2, g3⟩ := hg
  refine wp_region_held (S := S) hm ?_
  have := held_of_walk g0 hQ ks _ a _ g2 g3 hS h.out
  rw [g1] at this
  simpa [World.drewN] using this

variable {ops : Array Oper} {o : Oper} {rest : List (Bool × Oper)} {a : Act} {w : World} {act : Bool}
theorem skip (hw : Region.wanted o (yielded ops a.tmps) = false) (h : Step P ops Q S rest (a.put o.dst undef) w) : Step P ops Q S ((act, o) :: rest) a w :=
  ⟨by simp only [walk, hw, Bool.false_eq_true, if_false]; exact h.out⟩
theorem quiet (hw : Region.wanted o (yielded ops a.tmps) = true) (v : Value) (hv : ∀ w', S w' → (execOp a.eval o).run P w' = .ok (.value v) w') (h : Step P ops Q S rest (a.put o.dst v) w) : Step P ops Q S ((false, o) :: rest) a w :=
  ⟨by simp only [walk, hw, if_true, Bool.false_eq_true, if_false]; exact ⟨v, hv, h.out⟩⟩
theorem move (x : Operand) (hop : o.op = .move x) (hw : Region.wanted o (yielded ops a.tmps) = true) (h : Step P ops Q S rest (a.put o.dst (a.eval x)) w) : Step P ops Q S ((false, o) :: rest) a w :=
  quiet hw _ (fun w' _ => BigFrame.run_move x hop w') h
theorem assign (x : Operand) (hop : o.op = .assign x) (hw : Region.wanted o (yielded ops a.tmps) = true) (h : Step P ops Q S rest (a.put o.dst (a.eval x)) w) : Step P ops Q S ((false, o) :: rest) a w :=
  quiet hw _ (fun w' _ => BigFrame.run_assign x hop w') h
theorem change (hw : Region.wanted o (yielded ops a.tmps) = true) (h : ∀ K : Act → World → Prop, (∀ a' w', S w' → Step P ops Q S rest a' w' → K a' w') → o.wp P a w K Q) : Step P ops Q S ((true, o) :: rest) a w := by
  refine ⟨?_⟩
  simp only [walk, hw, if_true]
  exact h _ fun a' w' h1 h2 => ⟨h1, h2.out⟩
theorem done (h : Q .normal a w) : Step P ops Q S [] a w := ⟨h⟩
end
end Go.Proofs.YtojjhknejkhdhaaDoor.Sched

/-
  A region that draws its order, walked along a tree that a plan fixes: each quiet operation is taken while it is free to be taken; operations that may change the world come up alone, or two at once, and then both ways are walked. Stated over any program; the region's edges are asked by a computed test.
-/
namespace Go.Proofs.YtojjhknejkhdhaaDoor.Tree
open Go.RowKit

inductive Plan where
  | done : Plan
  | quiet (k : Nat) (t : Plan) : Plan
  | act (k : Nat) (t : Plan) : Plan
  | two (k : Nat) (t : Plan) (j : Nat) (s : Plan) : Plan
inductive Way where
  | done : Way
  | stuck : Way
  | quiet (o : Oper) (t : Way) : Way
  | act (o : Oper) (t : Way) : Way
  | two (t : Way) (s : Way) : Way

def put1 (f : Oper → Way) : Option Oper → Way
  | some o => f o
  | none => .stuck
def grow (l : List Oper) : Plan → Way
  | .done => .done
  | .quiet k t => put1 (fun o => .quiet o (grow l t)) l[k]?
  | .act k t => put1 (fun o => .act o (grow l t)) l[k]?
  | .two k t j s => .two (put1 (fun o => .act o (grow l t)) l[k]?) (put1 (fun o => .act o (grow l s)) l[j]?)

/-- Does this plan fit the edges? -/
def fits (ops : Array Oper) : Plan → Nat → Array Bool → Bool
  | .done, _, listed => (Region.ready .any ops listed).isEmpty
  | .quiet k t, n + 1, listed => (Region.ready .any ops listed).contains k && Region.free .any ops listed k && fits ops t n (listed.setIfInBounds k true)
  | .act k t, n + 1, listed => Region.ready .any ops listed == [k] && fits ops t n (listed.setIfInBounds k true)
  | .two k t j s, n + 1, listed => Region.ready .any ops listed == [k, j] && fits ops t n (listed.setIfInBounds k true) && fits ops s n (listed.setIfInBounds j true)
  | _, 0, _ => false

def walk (P : Program) (ops : Array Oper) (Q : Exit → Act → World → Prop) (S : World → Prop) : Way → Act → World → Prop
  | .done, a, w => Q .normal a w
  | .stuck, _, _ => False
  | .quiet o t, a, w =>
    if Region.wanted o (yielded ops a.tmps) = true then ∃ v, (∀ w', S w' → (execOp a.eval o).run P w' = .ok (.value v) w') ∧ walk P ops Q S t (a.put o.dst v) w
    else walk P ops Q S t (a.put o.dst undef) w
  | .act o t, a, w => if Region.wanted o (yielded ops a.tmps) = true then o.wp P a w (fun a' w' => S w' ∧ walk P ops Q S t a' w') Q else walk P ops Q S t (a.put o.dst undef) w
  | .two t s, a, w => walk P ops Q S t a w ∧ walk P ops Q S s a w

section
variable {P : Program} {l : List Oper} {Q : Exit → Act → World → Prop} {S : World → Prop}

theorem step_act {n k : Nat} {listed : Array Bool} {a : Act} {w : World} {t : Plan} (hS : S w)
    (ih : ∀ (a : Act) (w : World), S w → walk P l.toArray Q S (grow l t) a w → wpAnyH P .any l.toArray Q S n (listed.setIfInBounds k true) a w)
    (h : walk P l.toArray Q S (put1 (fun o => .act o (grow l t)) l[k]?) a w) : wpOp P l.toArray Q k (fun a' w' => S w' ∧ wpAnyH P .any l.toArray Q S n (listed.setIfInBounds k true) a' w') a w := by
  cases hk : l[k]? with
  | none => rw [hk] at h; exact h.elim
  | some o =>
    rw [hk] at h
    have ho : l.toArray[k]? = some o := by simpa using hk
    unfold wpOp
    simp only [ho]
    simp only [put1, walk] at h
    by_cases hw : Region.wanted o (yielded l.toArray a.tmps) = true
    · simp only [hw, if_true] at h ⊢
      exact .inl (Oper.wp_mono (fun a' w' h' => ⟨h'.1, ih a' w' h'.1 h'.2⟩) h)
    · simp only [hw] at h ⊢
      exact ⟨hS, ih _ _ hS h⟩

theorem held_of_walk (hs : Region.noSelect l.toArray = true) (hQ : ∀ c a d v w, Q (.panic c) (Act.put a d v) w → Q (.panic c) a w) : ∀ (p : Plan) (n : Nat) (listed : Array Bool) (a : Act) (w : World),
    fits l.toArray p n listed = true → S w → walk P l.toArray Q S (grow l p) a w → wpAnyH P .any l.toArray Q S n listed a w
  | .done, n, listed, a, w, hf, _, h => wpAnyH_done (by simpa [fits] using hf) (by simpa [walk, grow] using h) _
  | .quiet k t, 0, listed, a, w, hf, _, _ => by simp [fits] at hf
  | .act k t, 0, listed, a, w, hf, _, _ => by simp [fits] at hf
  | .two k t j s, 0, listed, a, w, hf, _, _ => by simp [fits] at hf
  | .quiet k t, n + 1, listed, a, w, hf, hS, h => by
    simp only [fits, Bool.and_eq_true] at hf
    obtain ⟨h1, h2⟩ := hf
    cases hk : l[k]? with
    | none => rw [grow, hk] at h; exact h.elim
    | some o =>
      rw [grow, hk] at h
      have ho : l.toArray[k]? = some o := by simpa using hk
      simp only [put1, walk] at h
      by_cases hw : Region.wanted o (yielded l.toArray a.tmps) = true
      · simp only [hw, if_true] at h
        obtain ⟨v, hv, h⟩ := h
        exact wpAnyH_take ho hs h1.2 h1.1 (fun c a w => hQ c a _ _ w) (.inl ⟨hw, hv⟩) hS (held_of_walk hs hQ t n _ _ _ h2 hS h)
      · simp only [hw] at h
        exact wpAnyH_take ho hs h1.2 h1.1 (fun c a w => hQ c a _ _ w) (.inr ⟨by simpa using hw, rfl⟩) hS (held_of_walk hs hQ t n _ _ _ h2 hS h)
  | .act k t, n + 1, listed, a, w, hf, hS, h => by
    simp only [fits, Bool.and_eq_true] at hf
    obtain ⟨h1, h2⟩ := hf
    have hr : Region.ready .any l.toArray listed = [k] := by simpa using h1
    refine wpAnyH_all hr (by simp) ?_
    intro i hi
    obtain rfl : i = k := by simpa using hi
    exact step_act hS (fun a w hS h => held_of_walk hs hQ t n _ a w h2 hS h) h
  | .two k t j s, n + 1, listed, a, w, hf, hS, h => by
    simp only [fits, Bool.and_eq_true] at hf
    obtain ⟨⟨h1, h2⟩, h3⟩ := hf
    have hr : Region.ready .any l.toArray listed = [k, j] := by simpa using h1
    simp only [grow, walk] at h
    refine wpAnyH_all hr (by simp) ?_
    intro i hi
    simp only [List.mem_cons, List.not_mem_nil, or_false] at hi
    rcases hi with rfl | rfl
    · exact step_act hS (fun a w hS h => held_of_walk hs hQ t n _ a w h2 hS h) h.1
    · exact step_act hS (fun a w hS h => held_of_walk hs hQ s n _ a w h3 hS h) h.2

/-- The test of a plan: the edges let it. -/
def good (l : List Oper) (p : Plan) : Bool := Region.noSelect l.toArray && fits l.toArray p l.length (Array.replicate l.length false)

/-- The walk as a goal that no tactic unfolds on its own ('exact', 'refine' would: they look whether the goal is a function). -/
structure Step (P : Program) (ops : Array Oper) (Q : Exit → Act → World → Prop) (S : World → Prop) (t : Way) (a : Act) (w : World) : Prop where
  out : walk P ops Q S t a w
theorem region (p : Plan) {id : Nat} {a : Act} {w : World} (S : World → Prop) (hm : P.follows .mixedOrders = true) (hg : good l p = true)
    (hQ : ∀ c a d v w, Q (.panic c) (Act.put a d v) w → Q (.panic c) a w) (hS : S (w.drewN 1)) (h : Step P l.toArray Q S (grow l p) a (w.drewN 1)) : (Code.region id l.toArray true).wp P Q a w := by
  simp only [good, Bool.and_eq_true] at hg
  refine wp_region_held (S := S) hm ?_
  have := held_of_walk hg.1 hQ p _ _ a _ hg.2 hS h.out
  simpa [World.drewN] using this

variable {ops : Array Oper} {o : Oper} {t s : Way} {a : Act} {w : World}
theorem skip (hw : Region.wanted o (yielded ops a.tmps) = false) (h : Step P ops Q S t (a.put o.dst undef) w) : Step P ops Q S (.quiet o t) a w := by
  exact ⟨by simp only [walk, hw, Bool.false_eq_true, if_false]; exact h.out⟩
theorem skip_act (hw : Region.wanted o (yielded ops a.tmps) = false) (h : Step P ops Q S t (a.put o.dst undef) w) : Step P ops Q S (.act o t) a w := by
  exact ⟨by simp only [walk, hw, Bool.false_eq_true, if_false]; exact h.out⟩
theorem quiet (hw : Region.wanted o (yielded ops a.tmps) = true) (v : Value) (hv : ∀ w', S w' → (execOp a.eval o).run P w' = .ok (.value v) w') (h : Step P ops Q S t (a.put o.dst v) w) : Step P ops Q S (.quiet o t) a w := by
  exact ⟨by simp only [walk, hw, if_true]; exact ⟨v, hv, h.out⟩⟩
theorem move (x : Operand) (hop : o.op = .move x) (hw : Region.wanted o (yielded ops a.tmps) = true) (h : Step P ops Q S t (a.put o.dst (a.eval x)) w) : Step P ops Q S (.quiet o t) a w :=
  quiet hw _ (fun w' _ => BigFrame.run_move x hop w') h
theorem assign (x : Operand) (hop : o.op = .assign x) (hw : Region.wanted o (yielded ops a.tmps) = true) (h : Step P ops Q S t (a.put o.dst (a.eval x)) w) : Step P ops Q S (.quiet o t) a w :=
  quiet hw _ (fun w' _ => BigFrame.run_assign x hop w') h
theorem change (hw : Region.wanted o (yielded ops a.tmps) = true) (h : ∀ K : Act → World → Prop, (∀ a' w', S w' → Step P ops Q S t a' w' → K a' w') → o.wp P a w K Q) : Step P ops Q S (.act o t) a w := by
  refine ⟨?_⟩
  simp only [walk, hw, if_true]
  exact h _ fun a' w' h1 h2 => ⟨h1, h2.out⟩
theorem both (h1 : Step P ops Q S t a w) (h2 : Step P ops Q S s a w) : Step P ops Q S (.two t s) a w := ⟨⟨h1.out, h2.out⟩⟩
theorem done (h : Q .normal a w) : Step P ops Q S .done a w := ⟨h⟩
end
end Go.Proofs.YtojjhknejkhdhaaDoor.Tree

/-
  Appending a slice that reads as a list, of whatever length (none too), to a slice that the call owns. Stated over any program.
-/
namespace Go.Proofs.YtojjhknejkhdhaaDoor.App
open Go.RowKit

variable {P : Program}
theorem run_append_zero (w : World) (t ty e : TypeId) (i : TypeInfo) (ht : P.underlying t = some (.slice e)) (hi : P.info? e = some i) (b : Option Addr) (n cap : Nat) (h : n ≤ cap) (a : Option Addr) (c : Nat) :
    (Builtin.append_ #[t, t] ty #[.slice b n cap, .slice a 0 c]).run P w = .ok (.slice b n cap) w := by
  have hb : ∀ x : Addr, (storeCells x []).run P w = .ok () w := fun x => rfl
  have hl : ∀ x : Addr, (loadCells x 0).run P w = .ok #[] w := fun x => rfl
  cases b <;> cases a <;> simp [Builtin.append_, run_underlying ht, sizeOf, typeInfo, hi, Builtin.lenOf, Builtin.firstCells, h, hb, hl]

/-- The run alone (for an operation that bears a guard). -/
theorem run_append_list (w : World) (t ty : TypeId)
    (base : Nat) (e : TypeId) (i : TypeInfo) (z : Value) (size bytes : Nat) (ht : P.underlying t = some (.slice e)) (hi : P.info? e = some i) (hz : i.zero = some z)
    (hsize : i.size = size) (hby : i.bytes = bytes) (hzs : z.cells.size = size) (hsz : 0 < size)
    (v : Value) (n : Nat) (xs : List Value) (hown : w.ownsRow base e size v n xs)
    (xa : Option Addr) (m c : Nat) (news : List Value) (hl : news.length = m * size)
    (hnews : 0 < m → ∃ b off, xa = some ⟨b, off, none⟩ ∧ ∀ j u, news[j]? = some u → w.cell? ⟨b, off + j, none⟩ = some u) (h1 : ∀ u ∈ news, u.oneCell' = true)
    (h63 : n + m ≤ maxLen) (hbytes : (n + m) * bytes ≤ 140737488355328) (hbase : base ≤ w.heap.size) :
    ∃ v' w', (Builtin.append_ #[t, t] ty #[v, .slice xa m c]).run P w = .ok v' w' ∧ w'.ownsRow base e size v' (n + m) (xs ++ news) ∧ w.grownBy w' v.ownBlock ∧ (v'.ownBlock = v.ownBlock ∨ v'.ownBlock = some w.heap.size) := by
  rcases Nat.eq_zero_or_pos m with h0 | hp
  · subst h0
    obtain rfl : news = [] := by simpa using hl
    obtain ⟨b, cap, hv, hcap⟩ : ∃ b cap, v = .slice b n cap ∧ n ≤ cap := by
      rcases hown.2 with ⟨rfl, rfl⟩ | ⟨g, cap, cur, rfl, _, _, hc, _⟩
      · exact ⟨none, 0, rfl, Nat.le_refl _⟩
      · exact ⟨_, cap, rfl, hc⟩
    have hr := run_append_zero (P := P) w t ty e i ht hi b n cap hcap xa c
    rw [← hv] at hr
    exact ⟨v, w, hr, by rw [Nat.add_zero, List.append_nil]; exact hown, ⟨rfl, rfl, rfl, Nat.le_refl _, fun _ _ _ => rfl⟩, .inl rfl⟩
  · obtain ⟨b, off, rfl, hc⟩ := hnews hp
    obtain ⟨v', w', hr, h2, h3, _, h5⟩ := run_append_own_at (P := P) w base t ty e i z size bytes ht hi hz hsize hby hzs hsz v n xs hown ⟨b, off, none⟩ m c news hl (fun j u hj => by
      have e2 : Addr.add ⟨b, off, none⟩ j = ⟨b, off + j, none⟩ := by unfold Addr.add; by_cases h : j = 0 <;> simp [h]
      rw [e2]; exact hc j u hj) h1 h63 hbytes hbase
    exact ⟨v', w', hr, h2, h3, h5⟩

/-- The operation, for the walk. -/
theorem wpList_append_list (w : World) {ops : Array Oper} {rest : List Oper} {o : Oper} {a : Act} {Q : Exit → Act → World → Prop} (hgd : o.guard = none) (s x : Operand) (t : TypeId)
    (ho : o.op = .call { callee := .builtin .append, args := #[s, x], argTypes := #[t, t] })
    (base : Nat) (e : TypeId) (i : TypeInfo) (z : Value) (size bytes : Nat) (ht : P.underlying t = some (.slice e)) (hi : P.info? e = some i) (hz : i.zero = some z)
    (hsize : i.size = size) (hby : i.bytes = bytes) (hzs : z.cells.size = size) (hsz : 0 < size)
    (v : Value) (n : Nat) (xs : List Value) (hs : a.eval s = v) (hown : w.ownsRow base e size v n xs)
    (xa : Option Addr) (m c : Nat) (news : List Value) (hx : a.eval x = .slice xa m c) (hl : news.length = m * size)
    (hnews : 0 < m → ∃ b off, xa = some ⟨b, off, none⟩ ∧ ∀ j u, news[j]? = some u → w.cell? ⟨b, off + j, none⟩ = some u) (h1 : ∀ u ∈ news, u.oneCell' = true)
    (h63 : n + m ≤ maxLen) (hbytes : (n + m) * bytes ≤ 140737488355328) (hbase : base ≤ w.heap.size)
    (h : ∀ v' w', w'.ownsRow base e size v' (n + m) (xs ++ news) → w.grownBy w' v.ownBlock → (v' = .slice none 0 0 ↔ v = .slice none 0 0 ∧ m = 0) → (v'.ownBlock = v.ownBlock ∨ v'.ownBlock = some w.heap.size) → wpList P ops Q rest (a.put o.dst v') w') :
    wpList P ops Q (o :: rest) a w := by
  rcases Nat.eq_zero_or_pos m with h0 | hp
  · subst h0
    obtain rfl : news = [] := by simpa using hl
    refine wpList_plain hgd fun K hK => ?_
    obtain ⟨b, cap, hv, hcap⟩ : ∃ b cap, v = .slice b n cap ∧ n ≤ cap := by
      rcases hown.2 with ⟨rfl, rfl⟩ | ⟨g, cap, cur, rfl, _, _, hc, _⟩
      · exact ⟨none, 0, rfl, Nat.le_refl _⟩
      · exact ⟨_, cap, rfl, hc⟩
    have hr := run_append_zero (P := P) w t o.type e i ht hi b n cap hcap xa c
    rw [← hv] at hr
    unfold Oper.wp execOp
    simp only [ho, resolve, invoke, builtin, Sem.run_bind, Sem.run_pure, Result.andThen_ok, List.map_toArray, List.map_cons, List.map_nil, hs, hx, hr]
    exact hK _ _ (h v w (by rw [Nat.add_zero, List.append_nil]; exact hown) ⟨rfl, rfl, rfl, Nat.le_refl _, fun _ _ _ => rfl⟩ (by simp) (.inl rfl))
  · obtain ⟨b, off, rfl, hc⟩ := hnews hp
    exact wpList_append_own_at w hgd s x t ho base e i z size bytes ht hi hz hsize hby hzs hsz v n xs hs hown ⟨b, off, none⟩ m c news hx hl (fun j u hj => by
      have e2 : Addr.add ⟨b, off, none⟩ j = ⟨b, off + j, none⟩ := by unfold Addr.add; by_cases h : j = 0 <;> simp [h]
      rw [e2]; exact hc j u hj) h1 h63 hbytes hbase h

/-- The operation, whose guard lets it by: out of its run. -/
theorem wpList_append_run {w : World} {ops : Array Oper} {rest : List Oper} {o : Oper} {a : Act} {Q : Exit → Act → World → Prop} (hw : Region.wanted o (yielded ops a.tmps) = true) (s x : Operand) (t : TypeId)
    (ho : o.op = .call { callee := .builtin .append, args := #[s, x], argTypes := #[t, t] }) (v u : Value) (hs : a.eval s = v) (hx : a.eval x = u) (v' : Value) (w' : World)
    (hr : (Builtin.append_ #[t, t] o.type #[v, u]).run P w = .ok v' w') (h : wpList P ops Q rest (a.put o.dst v') w') : wpList P ops Q (o :: rest) a w := by
  unfold wpList
  rw [if_pos hw]
  left
  unfold Oper.wp execOp
  simp only [ho, resolve, invoke, builtin, Sem.run_bind, Sem.run_pure, Result.andThen_ok, List.map_toArray, List.map_cons, List.map_nil, hs, hx, hr]
  exact h
end Go.Proofs.YtojjhknejkhdhaaDoor.App

/-
  Small facts on lists and texts, of no program.
-/
namespace Go.Proofs.YtojjhknejkhdhaaDoor.Ls
open Go.RowKit Base

theorem ba_ext {a b : ByteArray} (h : a.data.toList = b.data.toList) : a = b := by
  apply ByteArray.ext
  exact Array.toList_inj.1 h
theorem toList_iff (a b : ByteArray) : a.toList = b.toList ↔ a = b := by
  rw [Lib.toList_data, Lib.toList_data]
  exact ⟨ba_ext, fun h => by rw [h]⟩
theorem beq_text {a b : ByteArray} (h : a ≠ b) : (a.toList == b.toList) = false := by
  rw [beq_eq_false_iff_ne]
  exact fun h1 => h ((toList_iff a b).1 h1)
theorem take_eq_snoc {α : Type} (d : α) (xs ys : List α) (k : Nat) (hx : k < xs.length) (hy : k < ys.length) (h : xs.take k = ys.take k) (e : xs[k]?.getD d = ys[k]?.getD d) : xs.take (k + 1) = ys.take (k + 1) := by
  rw [List.take_succ_eq_append_getElem hx, List.take_succ_eq_append_getElem hy, h]
  rw [List.getElem?_eq_getElem hx, List.getElem?_eq_getElem hy] at e
  congr 2
theorem ne_of_at {α : Type} (d : α) (xs ys : List α) (k : Nat) (e : ¬ xs[k]?.getD d = ys[k]?.getD d) : xs ≠ ys := fun h => e (by rw [h])
theorem grown_of_below {w w' : World} (hb : Below w.heap.size w w') : w.grownBy w' none := ⟨hb.os, hb.tape, hb.output, hb.size, fun k hk _ => hb.block k hk⟩
theorem own_below {w w' : World} {base : Nat} {e : TypeId} {size : Nat} {v : Value} {n : Nat} {xs : List Value} (h : w.ownsRow base e size v n xs) (hb : Below w.heap.size w w') : w'.ownsRow base e size v n xs :=
  h.kept (grown_of_below hb) (Classical.em _)
theorem ints_here {w : World} {a : Option Addr} {n : Nat} {zs : List Int} (h : Ints w a n zs) : 0 < n → ∃ b off, a = some ⟨b, off, none⟩ ∧ ∀ j u, (zs.map (Value.int .i64))[j]? = some u → w.cell? ⟨b, off + j, none⟩ = some u := by
  intro hn
  obtain ⟨b, off, rfl, _, hc⟩ := h.2 hn
  refine ⟨b, off, rfl, fun j u hj => ?_⟩
  rw [List.getElem?_map, Option.map_eq_some_iff] at hj
  obtain ⟨x, hx, rfl⟩ := hj
  have hlt : j < zs.length := (List.getElem?_eq_some_iff.1 hx).1
  have := hc j (by rw [← h.1]; exact hlt)
  rw [hx] at this
  exact this
theorem ints_one' (zs : List Int) : ∀ u ∈ zs.map (Value.int .i64), u.oneCell' = true := by
  intro u hu
  obtain ⟨x, _, rfl⟩ := List.mem_map.1 hu
  rfl
end Go.Proofs.YtojjhknejkhdhaaDoor.Ls

/-
  A package-level table of texts that a row lists: from the row's condition to the cells that a walk reads. No program is spoken of.
-/
namespace Go.Proofs.YtojjhknejkhdhaaDoor.Table
open Go.RowKit Base

/-- An array of texts that reads as a table: its cell number i is the table's text number i. -/
theorem text_at {H : Type} {enc : TypeId × Value → H} {P : Program} {w : World} {base : Nat} {sp : Nat → Bool} {held : Bool} {fuel : Nat} {t e : TypeId} {n : Nat} {cs : List Value} {zs : List (List UInt8)} {p : List MemPlace}
    (ht : P.underlying t = some (.array n e)) (he : P.underlying e = some .string) (hce : P.cellsOf e = 1)
    (h : DataW.trod enc P w base sp held fuel t cs = some (.agg (zs.map fun z => .lit (.string z)), p)) (i : Nat) (hi : i < zs.length) : cs[i]? = some (.string ⟨(zs[i]?.getD []).toArray⟩) := by
  obtain ⟨xs, m, rfl, hx, _, hn, hel⟩ := DataW.trod_array ht h
  have hz : zs.map (fun z => (DataW.lit (.string z) : DataW H)) = xs.map (·.1) := by simpa using congrArg Prod.fst hx
  have hl : zs.length = xs.length := by simpa using congrArg List.length hz
  have h1 := hel i (by omega)
  rw [List.getElem?_eq_getElem (by omega), hce, Nat.mul_one] at h1
  obtain ⟨s, hs, hs2, _⟩ := DataW.trod_string he h1
  have h2 := congrArg (·[i]?) hz
  simp only [List.getElem?_map, List.getElem?_eq_getElem hi, List.getElem?_eq_getElem (hl ▸ hi), Option.map_some, hs2, Option.some.injEq, DataW.lit.injEq, Lit.string.injEq] at h2
  have h3 := congrArg (·[0]?) hs
  simp only [List.getElem?_take, List.getElem?_drop, Nat.add_zero, Nat.zero_lt_one, if_true, List.getElem?_cons_zero] at h3
  rw [h3, List.getElem?_eq_getElem hi, Option.getD_some, h2]

/-- The cells of a listed table of texts that stands first on the list. -/
theorem texts_of_head {P : Program} {W : World} {name : String} {zs : List (List UInt8)} {rest : List (String × DataW Unit)} {g : Nat} {t e : TypeId} {n : Nat}
    (hg : P.globalNamed name = some g) (hty : (P.globals[g]?).map (·.type) = some t) (ht : P.underlying t = some (.array n e)) (he : P.underlying e = some .string) (hce : P.cellsOf e = 1)
    (h : laidMet P ((name, .agg (zs.map fun z => .lit (.string z))) :: rest) W) : ∀ i, i < zs.length → W.cell? ⟨g, i, none⟩ = some (.string ⟨(zs[i]?.getD []).toArray⟩) := by
  obtain ⟨ps, ⟨g', t', cs, fuel, p, q, hg', ht', hvar, hd, _, _⟩, _⟩ := h
  obtain rfl := Option.some.inj (hg.symm.trans hg')
  obtain rfl := Option.some.inj (hty.symm.trans ht')
  intro i hi
  rw [World.var?_cell hg hvar i]
  simpa using text_at ht he hce hd i hi

/-- An array of texts by value, indexed. -/
theorem run_index_text {P : Program} {t e : TypeId} {n : Nat} {cs : Array Value} {ti : TypeInfo} (h : P.underlying t = some (.array n e)) (he : P.underlying e = some .string) (hi : P.info? e = some ti) (hs : P.cellsOf e = 1)
    (k : IntKind) (i : Nat) (hlt : i < n) (v : Value) (hv : cs[i]? = some v) (w : World) : (Instr.index t (.agg cs) (.int k i)).run P w = .ok v w := by
  simp [Instr.index, run_underlying h, asIntOf, hlt, run_sizeOf w hi, hs, part, isAgg, run_underlying he, hv, go_sem]
/-- The whole array of a listed table of texts. -/
theorem row_of_head {P : Program} {W : World} {name : String} {zs : List (List UInt8)} {rest : List (String × DataW Unit)} {g : Nat} {t e : TypeId} {n : Nat}
    (hg : P.globalNamed name = some g) (hty : (P.globals[g]?).map (·.type) = some t) (ht : P.underlying t = some (.array n e)) (he : P.underlying e = some .string) (hce : P.cellsOf e = 1) (hct : P.cellsOf t = n)
    (h : laidMet P ((name, .agg (zs.map fun z => .lit (.string z))) :: rest) W) : ∃ cs ty fr, W.heap[g]? = some (.cells cs ty fr) ∧ cs.size = n ∧ zs.length = n ∧ ∀ i, i < zs.length → cs[i]? = some (.string ⟨(zs[i]?.getD []).toArray⟩) := by
  obtain ⟨ps, ⟨g', t', cs, fuel, p, q, hg', ht', hvar, hd, _, _⟩, _⟩ := h
  obtain rfl := Option.some.inj (hg.symm.trans hg')
  obtain rfl := Option.some.inj (hty.symm.trans ht')
  have hv2 := hvar
  unfold World.var? at hv2
  rw [hg', Option.bind_some] at hv2
  split at hv2
  · rename_i c ty fr hh
    obtain rfl := Option.some.inj hv2
    have hd2 := hd
    obtain ⟨xs, m, rfl, hx, hl, hn, _⟩ := DataW.trod_array ht hd2
    have hz : zs.map (fun z => (DataW.lit (.string z) : DataW Unit)) = xs.map (·.1) := by simpa using congrArg Prod.fst hx
    have hzl : zs.length = xs.length := by simpa using congrArg List.length hz
    exact ⟨c, ty, fr, hh, by simpa [hct] using hl, by omega, fun i hi => by simpa using text_at ht he hce hd i hi⟩
  · cases hv2
end Go.Proofs.YtojjhknejkhdhaaDoor.Table
