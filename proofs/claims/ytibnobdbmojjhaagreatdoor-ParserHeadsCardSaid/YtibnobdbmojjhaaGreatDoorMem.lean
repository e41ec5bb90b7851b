/-
  Things in memory that a value owns: blocks apart from one another (Lone), what stays where only some blocks change (Keeps). No program is spoken of.
-/
import Derived.Test.YtibnobdbmojjhaaGreatDoorLine
import Derived.Test.YtibnobdbmojjhaaGreatDoorRecCopy
namespace Go.Proofs.YtibnobdbmojjhaaGreatDoor.Mem
open Go.RowKit Base

/-- No block stands twice. -/
def Lone (L : List (Option Nat)) : Prop := ∀ i j k : Nat, L[i]? = some (some k) → L[j]? = some (some k) → i = j
/-- All blocks are there. -/
def In (w : World) (L : List (Option Nat)) : Prop := ∀ k, some k ∈ L → k < w.heap.size
/-- The blocks of L' are of L, or new. -/
def Of (w : World) (L L' : List (Option Nat)) : Prop := ∀ k, some k ∈ L' → some k ∈ L ∨ w.heap.size ≤ k
/-- All blocks but those of L stay. -/
structure Keeps (L : List (Option Nat)) (w w' : World) : Prop where
  os : w'.os = w.os
  tape : w'.tape = w.tape
  output : w'.output = w.output
  size : w.heap.size ≤ w'.heap.size
  block : ∀ k, k < w.heap.size → some k ∉ L → w'.heap[k]? = w.heap[k]?

section
variable {L L' L'' : List (Option Nat)} {w w' w'' : World} {B : Nat}
theorem Lone.ne (h : Lone L) {i j k : Nat} (hi : L[i]? = some (some k)) (hij : i ≠ j) : L[j]? ≠ some (some k) := fun hj => hij (h i j k hi hj)
theorem Lone.set (h : Lone L) (hin : In w L) (i : Nat) (o : Option Nat) (ho : o = none ∨ L[i]? = some o ∨ ∃ k, o = some k ∧ w.heap.size ≤ k) : Lone (L.set i o) := by
  have key : ∀ a b k, a ≠ b → (L.set i o)[a]? = some (some k) → (L.set i o)[b]? = some (some k) → a = i → False := by
    intro a b k hab ha hb hai
    subst hai
    rw [List.getElem?_set_ne hab] at hb
    have hlt : a < L.length := by
      rcases Nat.lt_or_ge a L.length with h | h
      · exact h
      · rw [List.getElem?_eq_none (by simpa using h)] at ha; cases ha
    rw [List.getElem?_set_self hlt] at ha
    obtain rfl : o = some k := Option.some.inj ha
    rcases ho with ho | ho | ⟨k', ho, hk⟩
    · cases ho
    · exact hab (h a b k ho hb)
    · obtain rfl : k = k' := Option.some.inj ho
      have := hin k (List.mem_of_getElem? hb)
      omega
  intro a b k ha hb
  by_cases hab : a = b
  · exact hab
  · by_cases hai : a = i
    · exact (key a b k hab ha hb hai).elim
    · by_cases hbi : b = i
      · exact (key b a k (fun e => hab e.symm) hb ha hbi).elim
      · rw [List.getElem?_set_ne (fun e => hai e.symm)] at ha
        rw [List.getElem?_set_ne (fun e => hbi e.symm)] at hb
        exact h a b k ha hb
theorem Of.refl : Of w L L := fun _ h => .inl h
theorem Of.trans (h : Of w L L') (h' : Of w' L' L'') (hs : w.heap.size ≤ w'.heap.size) : Of w L L'' := fun k hk => by
  rcases h' k hk with h1 | h1
  · exact h k h1
  · exact .inr (by omega)
theorem Of.set (i : Nat) (o : Option Nat) (ho : o = none ∨ L[i]? = some o ∨ ∃ k, o = some k ∧ w.heap.size ≤ k) : Of w L (L.set i o) := fun k hk => by
  rcases List.mem_or_eq_of_mem_set hk with h | h
  · exact .inl h
  · rcases ho with ho | ho | ⟨k', ho, hk⟩
    · rw [ho] at h; cases h
    · exact .inl (by rw [h]; exact List.mem_of_getElem? ho)
    · rw [ho] at h; cases h; exact .inr hk
theorem Keeps.refl : Keeps L w w := ⟨rfl, rfl, rfl, Nat.le_refl _, fun _ _ _ => rfl⟩
theorem Keeps.trans (h : Keeps L w w') (h' : Keeps L' w' w'') (ho : Of w L L') : Keeps L w w'' := by
  refine ⟨h'.os.trans h.os, h'.tape.trans h.tape, h'.output.trans h.output, Nat.le_trans h.size h'.size, fun k hk hn => ?_⟩
  refine (h'.block k (Nat.lt_of_lt_of_le hk h.size) fun hm => ?_).trans (h.block k hk hn)
  rcases ho k hm with h1 | h1
  · exact hn h1
  · omega
theorem Keeps.mono (h : Keeps L w w') (hs : ∀ k, some k ∈ L → some k ∈ L') : Keeps L' w w' := ⟨h.os, h.tape, h.output, h.size, fun k hk hn => h.block k hk fun hm => hn (hs k hm)⟩
theorem Keeps.below (h : Keeps L w w') (hB : B ≤ w.heap.size) (hL : ∀ k, some k ∈ L → B ≤ k) : Below B w w' :=
  ⟨h.os, h.tape, h.output, h.size, fun k hk => h.block k (by omega) fun hm => by have := hL k hm; omega⟩
theorem Keeps.of_below (h : Below w.heap.size w w') : Keeps L w w' := ⟨h.os, h.tape, h.output, h.size, fun k hk _ => h.block k hk⟩
theorem Keeps.set (g k : Nat) (v : Value) (hg : some g ∈ L) : Keeps L w (w.setCell ⟨g, k, none⟩ v) :=
  ⟨rfl, rfl, rfl, by simp, fun j _ hn => Below.heap_setCell _ _ _ _ (fun e => hn (by rw [e]; exact hg))⟩
theorem Keeps.grown {o : Option Nat} (h : w.grownBy w' o) (ho : ∀ k, o = some k → some k ∈ L) : Keeps L w w' :=
  ⟨h.os, h.tape, h.output, h.size, fun k hk hn => h.block k hk fun e => hn (ho k e.symm)⟩
theorem Keeps.of_kept {g : Nat} {o : Option Nat} (h : Ln.Kept g o w w') (hg : some g ∈ L) (ho : ∀ k, o = some k → some k ∈ L) : Keeps L w w' :=
  ⟨h.os, h.tape, h.output, h.size, fun k hk hn => h.block k hk (fun e => hn (by rw [e]; exact hg)) fun e => hn (ho k e.symm)⟩
theorem Keeps.cell (h : Keeps L w w') {p : Addr} (hp : p.block < w.heap.size) (hn : some p.block ∉ L) : w'.cell? p = w.cell? p := by
  unfold World.cell?; rw [h.block _ hp hn]
theorem Keeps.row (h : Keeps L w w') {j : Nat} {cs : Array Value} {ty : TypeId} (hr : w.heap[j]? = some (.cells cs ty (0, 0))) (hn : some j ∉ L) : w'.heap[j]? = some (.cells cs ty (0, 0)) := (h.block j (Ln.row_lt hr) hn).trans hr
theorem Keeps.own (h : Keeps L w w') {e : TypeId} {size : Nat} {v : Value} {n : Nat} {xs : List Value} (hv : w.ownsRow B e size v n xs) (hn : ∀ k, v.ownBlock = some k → some k ∉ L) : w'.ownsRow B e size v n xs := by
  refine ⟨hv.1, ?_⟩
  rcases hv.2 with h0 | ⟨b, cap, cur, rfl, hb, hgg, rest⟩
  · exact .inl h0
  · refine .inr ⟨b, cap, cur, rfl, hb, ?_, rest⟩
    rw [h.block b (Ln.row_lt hgg) (hn b (by simp [Value.ownBlock]))]
    exact hgg
theorem In.mono (h : In w L) (hs : w.heap.size ≤ w'.heap.size) : In w' L := fun k hk => Nat.lt_of_lt_of_le (h k hk) hs
end

/-- The blocks that a record's slices lie in. -/
def slot : Value → Option Nat
  | .slice (some a) _ _ => some a.block
  | _ => none
def blocks : Value → List (Option Nat)
  | .agg cs => cs.toList.map slot
  | _ => []
/-- A record that reads in a world, in blocks that are not of L. -/
structure Far (L : List (Option Nat)) (w : World) (V : Value) (r : Rec.R) : Prop where
  reads : Rec.Reads w V r
  far : ∀ k, some k ∈ blocks V → some k ∉ L ∧ k < w.heap.size
section
variable {L L' : List (Option Nat)} {w w' : World} {V : Value} {r : Rec.R}
theorem flds_keeps {a : Option Addr} {n : Nat} {fs : List Txt.Fld} (h : Txt.Flds w a n fs) (hk : Keeps L w w') (hn : ∀ c, slot (.slice a n c) = none ∨ ∃ k, slot (.slice a n c) = some k ∧ some k ∉ L) : Txt.Flds w' a n fs := by
  refine ⟨h.1, fun h0 => ?_⟩
  obtain ⟨b, off, rfl, hlt, hc⟩ := h.2 h0
  have hb : some b ∉ L := by
    rcases hn 0 with e | ⟨k, e, hk⟩
    · cases e
    · cases e; exact hk
  exact ⟨b, off, rfl, Nat.lt_of_lt_of_le hlt hk.size, fun k hkn => ⟨(hk.cell (p := ⟨b, off + k * 2, none⟩) hlt hb).trans (hc k hkn).1, (hk.cell (p := ⟨b, off + k * 2 + 1, none⟩) hlt hb).trans (hc k hkn).2⟩⟩
theorem nums_keeps {a : Option Addr} {n : Nat} {kd : IntKind} {zs : List Int} (h : Nums kd w a n zs) (hk : Keeps L w w') (hn : ∀ c, slot (.slice a n c) = none ∨ ∃ k, slot (.slice a n c) = some k ∧ some k ∉ L) : Nums kd w' a n zs := by
  refine ⟨h.1, fun h0 => ?_⟩
  obtain ⟨b, off, rfl, hlt, hc⟩ := h.2 h0
  have hb : some b ∉ L := by
    rcases hn 0 with e | ⟨k, e, hk⟩
    · cases e
    · cases e; exact hk
  exact ⟨b, off, rfl, Nat.lt_of_lt_of_le hlt hk.size, fun k hkn => (hk.cell (p := ⟨b, off + k, none⟩) hlt hb).trans (hc k hkn)⟩
theorem Far.keeps (h : Far L w V r) (hk : Keeps L w w') : Far L w' V r := by
  refine ⟨?_, fun k hb => ⟨(h.far k hb).1, Nat.lt_of_lt_of_le (h.far k hb).2 hk.size⟩⟩
  obtain ⟨fa, fc, ba, bc, ta, tc, rfl, h1, h2, h3⟩ := h.reads
  have hf := h.far
  simp only [blocks, List.map_cons, List.map_nil, List.mem_cons, List.not_mem_nil, or_false] at hf
  have key : ∀ (a : Option Addr) (n c : Nat), (∀ k, some k = slot (.slice a n c) → some k ∉ L ∧ k < w.heap.size) → ∀ c', slot (.slice a n c') = none ∨ ∃ k, slot (.slice a n c') = some k ∧ some k ∉ L := by
    intro a n c h c'
    cases a with
    | none => exact .inl rfl
    | some a => exact .inr ⟨a.block, rfl, (h a.block rfl).1⟩
  refine ⟨fa, fc, ba, bc, ta, tc, rfl, flds_keeps h1 hk (key _ _ fc fun k e => hf k ?_), nums_keeps h2 hk (key _ _ bc fun k e => hf k ?_), flds_keeps h3 hk (key _ _ tc fun k e => hf k ?_)⟩
  · rw [e]; simp
  · rw [e]; simp
  · rw [e]; simp
theorem Far.of (h : Far L w V r) (ho : ∀ k, some k ∈ L' → some k ∈ L ∨ w.heap.size ≤ k) : Far L' w V r :=
  ⟨h.reads, fun k hb => ⟨fun hm => by
    have := h.far k hb
    rcases ho k hm with h1 | h1
    · exact this.1 h1
    · omega, (h.far k hb).2⟩⟩
end
end Go.Proofs.YtibnobdbmojjhaaGreatDoor.Mem
