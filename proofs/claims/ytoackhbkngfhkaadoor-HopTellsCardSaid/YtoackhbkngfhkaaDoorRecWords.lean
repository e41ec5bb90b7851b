/-
  Layer 12 (record), in plain words, in the document's order: records that are alike, how long one is, when it closes, what it expects; a record's value in memory, and a block of one. No program is spoken of.
-/
import Derived.Test.YtoackhbkngfhkaaDoorTextWords
namespace Go.Proofs.YtoackhbkngfhkaaDoor.Rec
open Go.RowKit Base Txt

theorem wrap64_in (x : Int) (h0 : -9223372036854775808 ≤ x) (h1 : x ≤ 9223372036854775807) : wrap64 x = x := by unfold wrap64; omega
theorem wraps (x : Int) (h : -9223372036854775808 ≤ x ∧ x ≤ 9223372036854775807) : IntKind.i64.wrap x = x ∧ wrap64 x = x := ⟨wrap_in x h.1 h.2, wrap64_in x h.1 h.2⟩

structure R where
  m : ByteArray
  x : ByteArray
  k : Int
  fs : List Fld
  ch : Bool
  body : List UInt8
  ts : List Fld
def same (a b : R) : Bool := decide (a.m = b.m) && (decide (a.x = b.x) && (decide (a.k = b.k) && (decide (a.fs = b.fs) && (decide (a.ch = b.ch) && (decide (a.body = b.body) && decide (a.ts = b.ts))))))
def all : List R → List R → Bool
  | [], [] => true
  | a :: l, b :: r => same a b && all l r
  | _, _ => false
def weigh (l : List Fld) : Nat := (l.map fun f => f.1.size + f.2.size).sum
def size (r : R) : Nat := r.m.size + r.x.size + weigh r.fs + weigh r.ts + r.body.length
abbrev connN : ByteArray := ⟨#[67, 111, 110, 110, 101, 99, 116, 105, 111, 110]⟩
abbrev closeW : ByteArray := ⟨#[99, 108, 111, 115, 101]⟩
abbrev keepW : ByteArray := ⟨#[107, 101, 101, 112, 45, 97, 108, 105, 118, 101]⟩
abbrev expectN : ByteArray := ⟨#[69, 120, 112, 101, 99, 116]⟩
abbrev contW : ByteArray := ⟨#[49, 48, 48, 45, 99, 111, 110, 116, 105, 110, 117, 101]⟩
def closes (r : R) : Bool := one (list (find r.fs connN)) closeW || (decide (r.k = 0) && !one (list (find r.fs connN)) keepW)
def expects (r : R) : Bool := decide (r.k = 1) && one (list (find r.fs expectN)) contW

theorem same_iff (a b : R) : same a b = true ↔ a = b := by
  obtain ⟨m, x, k, fs, ch, body, ts⟩ := a
  obtain ⟨m', x', k', fs', ch', body', ts'⟩ := b
  simp only [same, Bool.and_eq_true, decide_eq_true_eq, R.mk.injEq]
theorem same_self (a : R) : same a a = true := (same_iff a a).2 rfl
theorem weigh_app (a b : List Fld) : weigh (a ++ b) = weigh a + weigh b := by simp [weigh, List.sum_append]

/-- A record that reads in a world: its value's cells. -/
def Reads (w : World) (V : Value) (r : R) : Prop :=
  ∃ (fa : Option Addr) (fc : Nat) (ba : Option Addr) (bc : Nat) (ta : Option Addr) (tc : Nat),
    V = .agg #[.string r.m, .string r.x, .int .i64 r.k, .slice fa r.fs.length fc, .bool r.ch, .slice ba r.body.length bc, .slice ta r.ts.length tc] ∧
    Flds w fa r.fs.length r.fs ∧ Nums .u8 w ba r.body.length (nums r.body) ∧ Flds w ta r.ts.length r.ts
theorem Reads.below {w w' : World} {V : Value} {r : R} (h : Reads w V r) (hb : Below w.heap.size w w') : Reads w' V r := by
  obtain ⟨fa, fc, ba, bc, ta, tc, e, h1, h2, h3⟩ := h
  exact ⟨fa, fc, ba, bc, ta, tc, e, h1.below hb, h2.below hb, h3.below hb⟩

/-- Sizes within which all calls are looked at. -/
structure Fit (r : R) : Prop where
  m : r.m.size ≤ 1000000000
  x : r.x.size ≤ 1000000000
  fs : r.fs.length ≤ 500
  f : ∀ f ∈ r.fs, f.1.size ≤ 1000000 ∧ f.2.size ≤ 1000000
  body : r.body.length ≤ 1000000000
  ts : r.ts.length ≤ 500
  t : ∀ f ∈ r.ts, f.1.size ≤ 1000000 ∧ f.2.size ≤ 1000000
theorem weigh_le : ∀ (l : List Fld) (B : Nat), (∀ f ∈ l, f.1.size ≤ B ∧ f.2.size ≤ B) → weigh l ≤ l.length * (B + B)
  | [], _, _ => by simp [weigh]
  | f :: l, B, h => by
    have ih := weigh_le l B fun g hg => h g (by simp [hg])
    obtain ⟨h1, h2⟩ := h f (by simp)
    have e : weigh (f :: l) = f.1.size + f.2.size + weigh l := by simp [weigh]
    rw [e, List.length_cons, Nat.add_mul]
    omega
theorem weigh_snoc (l : List Fld) (k : Nat) (h : k < l.length) : weigh (l.take (k + 1)) = weigh (l.take k) + ((l[k]?.getD dflt).1.size + (l[k]?.getD dflt).2.size) := by
  rw [flds_snoc l k h, weigh_app]
  simp [weigh]
theorem weigh_take_le (l : List Fld) (k : Nat) : weigh (l.take k) ≤ weigh l := by
  have h := congrArg weigh (List.take_append_drop k l)
  rw [weigh_app] at h
  omega

/-- A block that the call made, by its cells. -/
structure Bk (w : World) (g : Nat) (vs : List Value) : Prop where
  c : ∀ (k : Nat) (v : Value), vs[k]? = some v → w.cell? ⟨g, k, none⟩ = some v
  z : ∀ k, k < vs.length → w.frozen? ⟨g, k, none⟩ = false
  lt : g < w.heap.size
section
variable {w w' : World} {g : Nat} {vs : List Value}
theorem Bk.below (h : Bk w g vs) (hb : Below w.heap.size w w') : Bk w' g vs :=
  ⟨fun k v hv => (hb.cell (p := ⟨g, k, none⟩) h.lt).trans (h.c k v hv), fun k hk => (hb.frozen (p := ⟨g, k, none⟩) h.lt).trans (h.z k hk), Nat.lt_of_lt_of_le h.lt hb.size⟩
theorem Bk.alloc (h : Bk w g vs) (o : Obj) : Bk (w.alloc o) g vs := h.below ((Below.refl _ _).alloc (Nat.le_refl _) _)
theorem Bk.drew (h : Bk w g vs) (n : Nat) : Bk (w.drewN n) g vs := h.below (Base.below_drewN (Below.refl _ _) n)
theorem Bk.new (w : World) (g : Nat) (hg : g = w.heap.size) (t : TypeId) (vs : List Value) : Bk (w.alloc (.cells vs.toArray t)) g vs := by
  subst hg
  have hh := heap_alloc_new w (.cells vs.toArray t)
  refine ⟨fun k v hv => (cell_of_row (w.alloc _) w.heap.size k _ t (0, 0) hh).trans (by simpa using hv), fun k _ => ?_, by simp⟩
  unfold World.frozen?; simp only [hh]; simp
theorem Bk.set (h : Bk w g vs) (k : Nat) (v : Value) (hk : k < vs.length) : Bk (w.setCell ⟨g, k, none⟩ v) g (vs.set k v) := by
  have h1 := List.getElem?_eq_getElem hk
  have hk1 := h.c k vs[k] h1
  have hz1 := h.z k hk
  refine ⟨fun j u hu => ?_, fun j hj => ?_, by have := h.lt; simpa using this⟩
  · by_cases e : k = j
    · subst e
      rw [List.getElem?_set_self hk] at hu
      obtain rfl : v = u := Option.some.inj hu
      go_simp
    · rw [List.getElem?_set_ne e] at hu
      have hj1 := h.c j u hu
      have e' : ¬ j = k := fun x => e x.symm
      go_simp
  · rw [List.length_set] at hj
    have hz2 := h.z j hj
    go_simp
theorem Bk.other (h : Bk w g vs) (g' o : Nat) (u : Value) (ne : ¬ g' = g) : Bk (w.setCell ⟨g', o, none⟩ u) g vs := by
  refine ⟨fun j v hv => ?_, fun j hj => ?_, by have := h.lt; simpa using this⟩
  · have h1 := h.c j v hv
    go_simp
  · have h1 := h.z j hj
    go_simp
end
theorem below_of_grown {w w' : World} (h : w.grownBy w' none) : Below w.heap.size w w' := ⟨h.os, h.tape, h.output, h.size, fun k hk => h.block k hk (by simp)⟩

theorem k_size : size ⟨⟨#[71, 69, 84]⟩, ⟨#[47]⟩, 0, [(expectN, ⟨#[49, 48, 48, 45, 67, 111, 110, 116, 105, 110, 117, 101]⟩)], false, [], []⟩ = 22 := by decide +kernel
theorem k_closes : closes ⟨⟨#[71, 69, 84]⟩, ⟨#[47]⟩, 0, [(expectN, ⟨#[49, 48, 48, 45, 67, 111, 110, 116, 105, 110, 117, 101]⟩)], false, [], []⟩ = true ∧ closes ⟨⟨#[71, 69, 84]⟩, ⟨#[47]⟩, 1, [(expectN, ⟨#[49, 48, 48, 45, 67, 111, 110, 116, 105, 110, 117, 101]⟩)], false, [], []⟩ = false := by decide +kernel
theorem k_expects : expects ⟨⟨#[71, 69, 84]⟩, ⟨#[47]⟩, 0, [(expectN, ⟨#[49, 48, 48, 45, 67, 111, 110, 116, 105, 110, 117, 101]⟩)], false, [], []⟩ = false ∧ expects ⟨⟨#[71, 69, 84]⟩, ⟨#[47]⟩, 1, [(expectN, ⟨#[49, 48, 48, 45, 67, 111, 110, 116, 105, 110, 117, 101]⟩)], false, [], []⟩ = true := by decide +kernel
end Go.Proofs.YtoackhbkngfhkaaDoor.Rec
