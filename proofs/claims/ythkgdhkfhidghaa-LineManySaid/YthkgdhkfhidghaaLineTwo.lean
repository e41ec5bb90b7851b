/-
  Layer 6 (line): one reader, two readers side by side: what a step of one leaves of the other; contracts in these words.
-/
import Derived.Test.YthkgdhkfhidghaaLineRefByte
namespace Go.Proofs.Ythkgdhkfhidghaa.Ln
open Go.RowKit Base

/-- Two readers' blocks lie apart. -/
structure Apart (g : Nat) (o : Option Nat) (g' : Nat) (o' : Option Nat) : Prop where
  gg : g ≠ g'
  og : o ≠ some g'
  go : o' ≠ some g
  oo : o = none ∨ o ≠ o'
theorem Apart.symm {g g' : Nat} {o o' : Option Nat} (h : Apart g o g' o') : Apart g' o' g o := by
  refine ⟨fun e => h.gg e.symm, h.go, h.og, ?_⟩
  rcases h.oo with e | e
  · cases o' with
    | none => exact .inl rfl
    | some k => exact .inr (by rw [e]; exact fun h => by cases h)
  · exact .inr fun e' => e e'.symm
theorem Apart.moved {w : World} {g g' : Nat} {o o' o1 : Option Nat} (h : Apart g o g' o') (hm : Moved w o o1) (hg : g' < w.heap.size) (ho : ∀ k, o' = some k → k < w.heap.size) : Apart g o1 g' o' := by
  rcases hm with rfl | rfl | ⟨k, rfl, hk⟩
  · exact h
  · exact ⟨h.gg, fun e => (by cases e), h.go, .inl rfl⟩
  · refine ⟨h.gg, fun e => ?_, h.go, .inr fun e => ?_⟩
    · have : k = g' := by simpa using e
      omega
    · have := ho k e.symm
      omega

/-- One reader. -/
def One (w : World) (B g : Nat) (m : M) : Prop := ∃ v, Rd w B g v m
/-- Two readers. -/
def Two (w : World) (B g : Nat) (m : M) (g' : Nat) (m' : M) : Prop := ∃ v v', Rd w B g v m ∧ Rd w B g' v' m' ∧ Apart g v.ownBlock g' v'.ownBlock
/-- A reader, and the document's. -/
def Both (w : World) (B g : Nat) (m : M) (g' : Nat) (p : Nat) (q : R) : Prop := ∃ v v', Rd w B g v m ∧ Rr w B g' v' p q ∧ Apart g v.ownBlock g' v'.ownBlock

section
variable {w w' : World} {B g g' p : Nat} {m m' : M} {q : R}
theorem Rd.le {v : Value} (h : Rd w B g v m) : B ≤ w.heap.size := Nat.le_trans h.ge (Nat.le_of_lt (row_lt h.row))
theorem Rr.le {v : Value} (h : Rr w B g v p q) : B ≤ w.heap.size := Nat.le_trans h.ge (Nat.le_of_lt (row_lt h.row))
theorem Two.symm (h : Two w B g m g' m') : Two w B g' m' g m := by
  obtain ⟨v, v', h1, h2, h3⟩ := h
  exact ⟨v', v, h2, h1, h3.symm⟩
theorem Two.left (h : Two w B g m g' m') : One w B g m := by
  obtain ⟨v, v', h1, h2, h3⟩ := h
  exact ⟨v, h1⟩
theorem One.below (h : One w B g m) (hb : Below w.heap.size w w') : One w' B g m := by
  obtain ⟨v, h⟩ := h
  exact ⟨v, (hb.block g (row_lt h.row)).trans h.row, h.own.kept ⟨hb.os, hb.tape, hb.output, hb.size, fun k hk _ => hb.block k hk⟩ (Classical.em _), h.ge, h.ne⟩
theorem Two.below (h : Two w B g m g' m') (hb : Below w.heap.size w w') : Two w' B g m g' m' := by
  obtain ⟨v, v', h1, h2, h3⟩ := h
  exact ⟨v, v', ⟨(hb.block g (row_lt h1.row)).trans h1.row, h1.own.kept ⟨hb.os, hb.tape, hb.output, hb.size, fun k hk _ => hb.block k hk⟩ (Classical.em _), h1.ge, h1.ne⟩,
    ⟨(hb.block g' (row_lt h2.row)).trans h2.row, h2.own.kept ⟨hb.os, hb.tape, hb.output, hb.size, fun k hk _ => hb.block k hk⟩ (Classical.em _), h2.ge, h2.ne⟩, h3⟩
theorem Both.below (h : Both w B g m g' p q) (hb : Below w.heap.size w w') : Both w' B g m g' p q := by
  obtain ⟨v, v', h1, h2, h3⟩ := h
  exact ⟨v, v', ⟨(hb.block g (row_lt h1.row)).trans h1.row, h1.own.kept ⟨hb.os, hb.tape, hb.output, hb.size, fun k hk _ => hb.block k hk⟩ (Classical.em _), h1.ge, h1.ne⟩,
    ⟨(hb.block g' (row_lt h2.row)).trans h2.row, h2.own.kept ⟨hb.os, hb.tape, hb.output, hb.size, fun k hk _ => hb.block k hk⟩ (Classical.em _), h2.ge, h2.ne⟩, h3⟩
theorem One.new (w : World) (m : M) (hb : m.buf = []) : One (w.alloc (.cells (cellsOf m (.slice none 0 0)) 47)) w.heap.size w.heap.size m :=
  ⟨.slice none 0 0, heap_alloc_new w _, ⟨by rw [hb]; rfl, .inl ⟨rfl, by rw [hb]; rfl⟩⟩, Nat.le_refl _, fun e => by cases e⟩
theorem Two.new (h : One w B g m) (m' : M) (hb : m'.buf = []) : Two (w.alloc (.cells (cellsOf m' (.slice none 0 0)) 47)) B g m w.heap.size m' := by
  obtain ⟨v, h1⟩ := h
  have hl := row_lt h1.row
  refine ⟨v, .slice none 0 0, ⟨(Below.heap_alloc w _ g hl).trans h1.row, h1.own.alloc _, h1.ge, h1.ne⟩, ⟨heap_alloc_new w _, ⟨by rw [hb]; rfl, .inl ⟨rfl, by rw [hb]; rfl⟩⟩, h1.le, (fun e => by cases e)⟩, by omega, fun e => ?_, (fun e => by cases e), ?_⟩
  · have := (h1.own.lt _ e).2; omega
  · cases hv : v.ownBlock with
    | none => exact .inl rfl
    | some k => exact .inr fun e => by cases e
theorem Both.new (h : One w B g m) (p : Nat) (q : R) (hb : q.B = []) : Both (w.alloc (.cells (rcells p q (.slice none 0 0)) 37)) B g m w.heap.size p q := by
  obtain ⟨v, h1⟩ := h
  have hl := row_lt h1.row
  refine ⟨v, .slice none 0 0, ⟨(Below.heap_alloc w _ g hl).trans h1.row, h1.own.alloc _, h1.ge, h1.ne⟩, ⟨heap_alloc_new w _, ⟨by rw [hb]; rfl, .inl ⟨rfl, by rw [hb]; rfl⟩⟩, h1.le, (fun e => by cases e)⟩, by omega, fun e => ?_, (fun e => by cases e), ?_⟩
  · have := (h1.own.lt _ e).2; omega
  · cases hv : v.ownBlock with
    | none => exact .inl rfl
    | some k => exact .inr fun e => by cases e
theorem Both.doc (h : Both w B g m g' p q) : ∃ v, w.heap[g']? = some (.cells (rcells p q v) 37 (0, 0)) ∧ ∃ b cap, v = .slice b q.B.length cap := by
  obtain ⟨v, v', h1, h2, h3⟩ := h
  obtain ⟨b, cap, rfl, _⟩ := own_slice h2.own
  exact ⟨_, h2.row, b, cap, rfl⟩
theorem Both.le (h : Both w B g m g' p q) : B ≤ w.heap.size := by
  obtain ⟨v, v', h1, h2, h3⟩ := h
  exact h1.le
end

section code
variable {w : World} {B g g' p : Nat} {m m' : M} {q : R}
theorem one_byte (c : UInt8) (hm : m.Ok) (h : One w B g m) :
    Calls Try.prog 10 #[ptr g, byteV c] w fun e w' => e = .returned (.int .i64 (m.byte c).last) ∧ One w' B g (m.byte c) ∧ Below B w w' := by
  obtain ⟨v, h⟩ := h
  refine (byte_any c m hm w B g v h).mono ?_
  rintro e w' ⟨v', rfl, hD, hK, hV⟩
  exact ⟨rfl, ⟨v', hD⟩, hK.below h.le h.ge fun k hk => (h.own.lt k hk).1⟩
theorem two_byte (c : UInt8) (hm : m.Ok) (h : Two w B g m g' m') :
    Calls Try.prog 10 #[ptr g, byteV c] w fun e w' => e = .returned (.int .i64 (m.byte c).last) ∧ Two w' B g (m.byte c) g' m' ∧ Below B w w' := by
  obtain ⟨v, v2, h, h2, h3⟩ := h
  refine (byte_any c m hm w B g v h).mono ?_
  rintro e w' ⟨v', rfl, hD, hK, hV⟩
  exact ⟨rfl, ⟨v', v2, hD, h2.kept hK (fun e => h3.gg e.symm) (fun e => h3.og e.symm) h3.go h3.symm.oo, h3.moved hV (row_lt h2.row) fun k hk => (h2.own.lt k hk).2⟩, hK.below h.le h.ge fun k hk => (h.own.lt k hk).1⟩
theorem two_byte' (c : UInt8) (hm : m'.Ok) (h : Two w B g m g' m') :
    Calls Try.prog 10 #[ptr g', byteV c] w fun e w' => e = .returned (.int .i64 (m'.byte c).last) ∧ Two w' B g m g' (m'.byte c) ∧ Below B w w' := by
  refine (two_byte c hm h.symm).mono ?_
  rintro e w' ⟨rfl, hD, hK⟩
  exact ⟨rfl, hD.symm, hK⟩
theorem both_byte (c : UInt8) (hm : m.Ok) (h : Both w B g m g' p q) :
    Calls Try.prog 10 #[ptr g, byteV c] w fun e w' => e = .returned (.int .i64 (m.byte c).last) ∧ Both w' B g (m.byte c) g' p q ∧ Below B w w' := by
  obtain ⟨v, v2, h, h2, h3⟩ := h
  refine (byte_any c m hm w B g v h).mono ?_
  rintro e w' ⟨v', rfl, hD, hK, hV⟩
  exact ⟨rfl, ⟨v', v2, hD, h2.kept hK (fun e => h3.gg e.symm) (fun e => h3.og e.symm) h3.go h3.symm.oo, h3.moved hV (row_lt h2.row) fun k hk => (h2.own.lt k hk).2⟩, hK.below h.le h.ge fun k hk => (h.own.lt k hk).1⟩
theorem both_rbyte (c : UInt8) (hq : q.most ≤ 4096) (hp : p < 4294967296) (h1 : q.lf = Qk.has p 1) (h2 : q.cr = Qk.has p 2) (h : Both w B g m g' p q) :
    Calls Try.prog 11 #[ptr g', byteV c] w fun e w' => e = .returned (.int .i64 (q.how c)) ∧ Both w' B g m g' p (q.byte c) ∧ Below B w w' := by
  obtain ⟨v, v2, hd, hr, h3⟩ := h
  refine (rbyte_any c q hq p hp h1 h2 w B g' v2 hr).mono ?_
  rintro e w' ⟨v', rfl, hD, hK, hV⟩
  exact ⟨rfl, ⟨v, v', hd.kept hK h3.gg (fun e => h3.go e.symm) h3.og h3.oo, hD, (h3.symm.moved hV (row_lt hd.row) fun k hk => (hd.own.lt k hk).2).symm⟩, hK.below hr.le hr.ge fun k hk => (hr.own.lt k hk).1⟩
theorem one_line (h : One w B g m) : Calls Try.prog 12 #[ptr g] w fun e w' => e = .returned (.string (ba m.line)) ∧ w' = w := by
  obtain ⟨v, h⟩ := h
  exact line_any h.row h.own
theorem one_len (h : One w B g m) : Calls Try.prog 13 #[ptr g] w fun e w' => e = .returned (.int .i64 (m.len : Int)) ∧ w' = w := by
  obtain ⟨v, h⟩ := h
  exact len_any h.row h.own
theorem one_pending (h : One w B g m) : Calls Try.prog 14 #[ptr g] w fun e w' => e = .returned (.bool m.pend) ∧ w' = w := by
  obtain ⟨v, h⟩ := h
  exact pending_any h.row
theorem Both.left (h : Both w B g m g' p q) : One w B g m := by
  obtain ⟨v, v', h1, h2, h3⟩ := h
  exact ⟨v, h1⟩
end code
end Go.Proofs.Ythkgdhkfhidghaa.Ln
