/-
  Layer 13 (parser): the document's parser in memory: its block, what it owns, and what stays when some of it is written.
-/
import Derived.Test.YtibnobdbmojjhaaGreatDoorParWords
import Derived.Test.YtibnobdbmojjhaaGreatDoorMem
import Derived.Test.YtibnobdbmojjhaaGreatDoorRecCopy
namespace Go.Proofs.YtibnobdbmojjhaaGreatDoor.Par
open Go.RowKit Base Txt Mem

theorem row_cellL {w : World} {g k : Nat} {l : List Value} {ty : TypeId} (h : w.heap[g]? = some (.cells l.toArray ty (0, 0))) {v : Value} (hk : l[k]? = some v) : w.cell? ⟨g, k, none⟩ = some v := Ln.row_cell h (by rw [List.getElem?_toArray]; exact hk)
theorem row_setL {w : World} {g : Nat} {l : List Value} {ty : TypeId} (h : w.heap[g]? = some (.cells l.toArray ty (0, 0))) (k : Nat) (v : Value) : (w.setCell ⟨g, k, none⟩ v).heap[g]? = some (.cells (l.set k v).toArray ty (0, 0)) := by
  rw [← List.setIfInBounds_toArray]; exact Ln.row_set h k v
abbrev ptr (g : Nat) : Value := .pointer (some ⟨g, 0, none⟩)
/-- The cells of a parser. -/
abbrev pcells (p : Nat) (b : Bd) (s : S) (q : Nat) (f bd t o : Value) : List Value :=
  [.int .u32 (p : Int), .int .i64 b.x0, .int .i64 b.x1, .int .i64 b.x2, .int .i64 b.x3, .int .i64 b.x4, .int .i64 b.x5, .int .i64 b.x6, .int .i64 b.x7, .bool b.ch, .bool b.od, .int .i64 (s.st : Int), ptr q,
    .string s.r.m, .string s.r.x, .int .i64 s.r.k, f, .bool s.r.ch, bd, t, .int .i64 (s.lines : Int), .int .i64 (s.head : Int), .int .i64 (s.left : Int), .bool s.fresh, .bool s.clean, .int .i64 (s.e : Int), o]
/-- The blocks of a parser. -/
abbrev blks (g q : Nat) (v f bd t o : Value) : List (Option Nat) := [some g, some q, v.ownBlock, f.ownBlock, bd.ownBlock, t.ownBlock, o.ownBlock]
/-- Records that are whole, in a row of the parser's own; their slices in blocks that it owns no more. -/
def Outs (L : List (Option Nat)) (B : Nat) (w : World) (o : Value) (out : List Rec.R) : Prop :=
  ∃ ps : List (Array Value × Rec.R), ps.map (·.2) = out ∧ (∀ x ∈ ps, x.1.size = 7 ∧ Far L w (.agg x.1) x.2) ∧ w.ownsRow B 58 7 o out.length (ps.flatMap (·.1.toList))
/-- What a parser owns. -/
structure Own (w : World) (B g q : Nat) (v f bd t o : Value) (p : Nat) (rd : Ln.R) (fs : List Fld) (body : List UInt8) (ts : List Fld) (out : List Rec.R) : Prop where
  R : Ln.Rr w B q v p rd
  F : w.ownsRow B 83 2 f fs.length (cells fs)
  D : w.ownsRow B 5 1 bd body.length (Rec.vals body)
  T : w.ownsRow B 83 2 t ts.length (cells ts)
  O : Outs (blks g q v f bd t o) B w o out
  lone : Lone (blks g q v f bd t o)
  ge : B ≤ g
  lt : g < w.heap.size
/-- A parser. -/
structure PR (w : World) (B g q : Nat) (v f bd t o : Value) (p : Nat) (b : Bd) (s : S) : Prop where
  row : w.heap[g]? = some (.cells (pcells p b s q f bd t o).toArray 60 (0, 0))
  own : Own w B g q v f bd t o p s.rd s.r.fs s.r.body s.r.ts s.out

section
variable {w w' : World} {B g q : Nat} {v f bd t o : Value} {p : Nat} {b : Bd} {s : S} {rd : Ln.R} {fs ts : List Fld} {body : List UInt8} {out : List Rec.R} {L : List (Option Nat)}
theorem Outs.keeps (h : Outs L B w o out) {L2 : List (Option Nat)} (hk : Keeps L2 w w') (hs : ∀ k, some k ∈ L2 → some k ∈ L) (ho : ∀ k, o.ownBlock = some k → some k ∉ L2) : Outs L B w' o out := by
  obtain ⟨ps, h1, h2, h3⟩ := h
  exact ⟨ps, h1, fun x hx => ⟨(h2 x hx).1, (h2 x hx).2.keeps (hk.mono hs)⟩, hk.own h3 ho⟩
theorem Own.in (h : Own w B g q v f bd t o p rd fs body ts out) : In w (blks g q v f bd t o) := by
  intro k hk
  simp only [List.mem_cons, List.not_mem_nil, or_false, Option.some.injEq] at hk
  obtain ⟨ps, h1, h2, h3⟩ := h.O
  rcases hk with rfl | rfl | hk | hk | hk | hk | hk
  · exact h.lt
  · exact Ln.row_lt h.R.row
  · exact (World.ownsRow.lt h.R.own k hk.symm).2
  · exact (World.ownsRow.lt h.F k hk.symm).2
  · exact (World.ownsRow.lt h.D k hk.symm).2
  · exact (World.ownsRow.lt h.T k hk.symm).2
  · exact (World.ownsRow.lt h3 k hk.symm).2
theorem Own.low (h : Own w B g q v f bd t o p rd fs body ts out) : ∀ k, some k ∈ blks g q v f bd t o → B ≤ k := by
  intro k hk
  simp only [List.mem_cons, List.not_mem_nil, or_false, Option.some.injEq] at hk
  obtain ⟨ps, h1, h2, h3⟩ := h.O
  rcases hk with rfl | rfl | hk | hk | hk | hk | hk
  · exact h.ge
  · exact h.R.ge
  · exact (World.ownsRow.lt h.R.own k hk.symm).1
  · exact (World.ownsRow.lt h.F k hk.symm).1
  · exact (World.ownsRow.lt h.D k hk.symm).1
  · exact (World.ownsRow.lt h.T k hk.symm).1
  · exact (World.ownsRow.lt h3 k hk.symm).1
/-- What is owned stays while its own block alone is written. -/
theorem Own.set (h : Own w B g q v f bd t o p rd fs body ts out) (k : Nat) (u : Value) : Own (w.setCell ⟨g, k, none⟩ u) B g q v f bd t o p rd fs body ts out := by
  have hk : Keeps [some g] w (w.setCell ⟨g, k, none⟩ u) := Keeps.set g k u (by simp)
  have hn : ∀ i j, i ≠ 0 → (blks g q v f bd t o)[i]? = some (some j) → some j ∉ [some g] := fun i j hi hj hm => by
    have e : j = g := by simpa using hm
    rw [e] at hj
    exact hi (h.lone i 0 g hj rfl)
  exact ⟨⟨hk.row h.R.row (hn 1 q (by decide) rfl), hk.own h.R.own fun j e => hn 2 j (by decide) (by rw [← e]; rfl), h.R.ge, h.R.ne⟩,
    hk.own h.F fun j e => hn 3 j (by decide) (by rw [← e]; rfl), hk.own h.D fun j e => hn 4 j (by decide) (by rw [← e]; rfl), hk.own h.T fun j e => hn 5 j (by decide) (by rw [← e]; rfl),
    h.O.keeps hk (fun j hj => by obtain rfl : j = g := by simpa using hj
                                 simp) fun j e => hn 6 j (by decide) (by rw [← e]; rfl),
    h.lone, h.ge, by simpa using h.lt⟩
theorem Own.below (h : Own w B g q v f bd t o p rd fs body ts out) (hb : Below w.heap.size w w') : Own w' B g q v f bd t o p rd fs body ts out := by
  have hk : Keeps [] w w' := Keeps.of_below hb
  refine ⟨⟨hk.row h.R.row (by simp), hk.own h.R.own (by simp), h.R.ge, h.R.ne⟩, hk.own h.F (by simp), hk.own h.D (by simp), hk.own h.T (by simp), h.O.keeps hk (by simp) (by simp), h.lone, h.ge, Nat.lt_of_lt_of_le h.lt hb.size⟩
theorem PR.below (h : PR w B g q v f bd t o p b s) (hb : Below w.heap.size w w') : PR w' B g q v f bd t o p b s :=
  ⟨(hb.block g h.own.lt).trans h.row, h.own.below hb⟩
theorem PR.drew (h : PR w B g q v f bd t o p b s) (n : Nat) : PR (w.drewN n) B g q v f bd t o p b s := h.below (Base.below_drewN (Below.refl _ _) n)
/-- A cell of its block is written. -/
theorem PR.put (h : PR w B g q v f bd t o p b s) (k : Nat) (u : Value) (s' : S) (hc : (pcells p b s q f bd t o).set k u = pcells p b s' q f bd t o) (hd : s'.rd = s.rd) (h1 : s'.r.fs = s.r.fs) (h2 : s'.r.body = s.r.body) (h3 : s'.r.ts = s.r.ts) (h4 : s'.out = s.out) :
    PR (w.setCell ⟨g, k, none⟩ u) B g q v f bd t o p b s' := by
  refine ⟨?_, ?_⟩
  · rw [← hc, ← List.setIfInBounds_toArray]; exact Ln.row_set h.row k u
  · rw [hd, h1, h2, h3, h4]; exact h.own.set k u
/-- The record is another one, without slices. -/
theorem Own.zero (h : Own w B g q v f bd t o p rd fs body ts out) : Own w B g q v (.slice none 0 0) (.slice none 0 0) (.slice none 0 0) o p rd [] [] [] out := by
  have hsub : ∀ k, some k ∈ blks g q v (.slice none 0 0) (.slice none 0 0) (.slice none 0 0) o → some k ∈ blks g q v f bd t o := by
    intro k hk
    simp only [List.mem_cons, List.not_mem_nil, or_false, Value.ownBlock, reduceCtorEq, false_or] at hk ⊢
    rcases hk with hk | hk | hk | hk
    · exact .inl hk
    · exact .inr (.inl hk)
    · exact .inr (.inr (.inl hk))
    · exact .inr (.inr (.inr (.inr (.inr (.inr hk)))))
  obtain ⟨ps, h1, h2, h3⟩ := h.O
  refine ⟨h.R, World.ownsRow_nil _ _ _ _, World.ownsRow_nil _ _ _ _, World.ownsRow_nil _ _ _ _, ⟨ps, h1, fun x hx => ⟨(h2 x hx).1, (h2 x hx).2.of fun k hk => .inl (hsub k hk)⟩, h3⟩, ?_, h.ge, h.lt⟩
  have e : blks g q v (.slice none 0 0) (.slice none 0 0) (.slice none 0 0) o = (((blks g q v f bd t o).set 3 none).set 4 none).set 5 none := rfl
  rw [e]
  exact ((h.lone.set h.in 3 none (.inl rfl)).set (fun k hk => h.in k (by
    rcases List.mem_or_eq_of_mem_set hk with hk | hk
    · exact hk
    · cases hk)) 4 none (.inl rfl)).set (fun k hk => h.in k (by
    rcases List.mem_or_eq_of_mem_set hk with hk | hk
    · rcases List.mem_or_eq_of_mem_set hk with hk | hk
      · exact hk
      · cases hk
    · cases hk)) 5 none (.inl rfl)
/-- Its line is another one. -/
theorem Own.line (h : Own w B g q v f bd t o p rd fs body ts out) (hb : Below w.heap.size w w') {q1 : Nat} {rd1 : Ln.R} (hr : Ln.Rr w' B q1 (.slice none 0 0) p rd1) (hq : w.heap.size ≤ q1) : Own w' B g q1 (.slice none 0 0) f bd t o p rd1 fs body ts out := by
  have e : blks g q1 (.slice none 0 0) f bd t o = ((blks g q v f bd t o).set 1 (some q1)).set 2 none := rfl
  have hof : Of w (blks g q v f bd t o) (blks g q1 (.slice none 0 0) f bd t o) := by
    rw [e]
    exact (Of.set 1 (some q1) (.inr (.inr ⟨q1, rfl, hq⟩))).trans (Of.set 2 none (.inl rfl)) (Nat.le_refl _)
  have hw := h.below hb
  obtain ⟨ps, h1, h2, h3⟩ := h.O
  have hk : Keeps (blks g q1 (.slice none 0 0) f bd t o) w w' := Keeps.of_below hb
  refine ⟨hr, hw.F, hw.D, hw.T, ⟨ps, h1, fun x hx => ⟨(h2 x hx).1, ((h2 x hx).2.of hof).keeps hk⟩, by obtain ⟨ps', h1', h2', h3'⟩ := hw.O; exact (Keeps.of_below hb : Keeps [] w w').own h3 (by simp)⟩, ?_, h.ge, hw.lt⟩
  rw [e]
  intro i j k hi hj
  have hL := h.lone.set h.in 1 (some q1) (.inr (.inr ⟨q1, rfl, hq⟩))
  have hi' : ((blks g q v f bd t o).set 1 (some q1))[i]? = some (some k) := by
    by_cases e2 : 2 = i
    · subst e2; simp at hi
    · rwa [List.getElem?_set_ne e2] at hi
  have hj' : ((blks g q v f bd t o).set 1 (some q1))[j]? = some (some k) := by
    by_cases e2 : 2 = j
    · subst e2; simp at hj
    · rwa [List.getElem?_set_ne e2] at hj
  exact hL i j k hi' hj'
theorem PR.line (h : PR w B g q v f bd t o p b s) (hb : Below w.heap.size w w') {q1 : Nat} {rd1 : Ln.R} (hr : Ln.Rr w' B q1 (.slice none 0 0) p rd1) (hq : w.heap.size ≤ q1) : PR (w'.setCell ⟨g, 12, none⟩ (ptr q1)) B g q1 (.slice none 0 0) f bd t o p b { s with rd := rd1 } :=
  ⟨row_setL ((hb.block g h.own.lt).trans h.row) 12 (ptr q1), (h.own.line hb hr hq).set 12 (ptr q1)⟩
theorem slot_own {w : World} {B : Nat} {e : TypeId} {size : Nat} {v : Value} {n : Nat} {xs : List Value} (h : w.ownsRow B e size v n xs) : slot v = v.ownBlock := by
  rcases h.2 with ⟨rfl, _⟩ | ⟨g, cap, cur, rfl, _⟩ <;> rfl
/-- The record goes behind those that are whole: its slices are owned no more. -/
theorem Own.push {r : Rec.R} (h : Own w B g q v f bd t o p rd r.fs r.body r.ts out) (hg : w.grownBy w' o.ownBlock) {o' : Value} (ps : List (Array Value × Rec.R)) (hps : ps.map (·.2) = out) (hfar : ∀ x ∈ ps, x.1.size = 7 ∧ Far (blks g q v f bd t o) w (.agg x.1) x.2)
    (ho : w'.ownsRow B 58 7 o' (out.length + 1) (ps.flatMap (·.1.toList) ++ [.string r.m, .string r.x, .int .i64 r.k, f, .bool r.ch, bd, t])) (hor : o'.ownBlock = o.ownBlock ∨ o'.ownBlock = some w.heap.size) :
    Own w' B g q v (.slice none 0 0) (.slice none 0 0) (.slice none 0 0) o' p rd [] [] [] (out ++ [r]) := by
  have hk : Keeps [o.ownBlock] w w' := Keeps.grown hg fun k e => by simp [e]
  have hn : ∀ i j, i ≠ 6 → (blks g q v f bd t o)[i]? = some (some j) → some j ∉ [o.ownBlock] := fun i j hi hj hm => by
    have e : some j = o.ownBlock := by simpa using hm
    exact hi (h.lone i 6 j hj (by rw [e]; rfl))
  have hin := h.in
  have F' := hk.own h.F fun j e => hn 3 j (by decide) (by rw [← e]; rfl)
  have D' := hk.own h.D fun j e => hn 4 j (by decide) (by rw [← e]; rfl)
  have T' := hk.own h.T fun j e => hn 5 j (by decide) (by rw [← e]; rfl)
  have hsub : ∀ k, some k ∈ blks g q v (.slice none 0 0) (.slice none 0 0) (.slice none 0 0) o' → (some k = some g ∨ some k = some q ∨ some k = v.ownBlock ∨ some k = o.ownBlock) ∨ w.heap.size ≤ k := by
    intro k hk
    replace hk : some k ∈ [some g, some q, v.ownBlock, none, none, none, o'.ownBlock] := hk
    simp only [List.mem_cons, List.not_mem_nil, or_false, reduceCtorEq, false_or] at hk
    rcases hk with hk | hk | hk | hk
    · exact .inl (.inl hk)
    · exact .inl (.inr (.inl hk))
    · exact .inl (.inr (.inr (.inl hk)))
    · rcases hor with e | e
      · exact .inl (.inr (.inr (.inr (by rw [← e]; exact hk))))
      · rw [e] at hk; cases hk; exact .inr (Nat.le_refl _)
  have hof : ∀ k, some k ∈ blks g q v (.slice none 0 0) (.slice none 0 0) (.slice none 0 0) o' → some k ∈ blks g q v f bd t o ∨ w.heap.size ≤ k := fun k hk => by
    rcases hsub k hk with (e | e | e | e) | e
    · exact .inl (by simp [e])
    · exact .inl (by simp [e])
    · exact .inl (by simp [e])
    · exact .inl (by simp [e])
    · exact .inr e
  have hkL2 : Keeps (blks g q v f bd t o) w w' := hk.mono fun k hk => by
    have e : some k = o.ownBlock := by simpa using hk
    simp [e]
  refine ⟨⟨hk.row h.R.row (hn 1 q (by decide) rfl), hk.own h.R.own fun j e => hn 2 j (by decide) (by rw [← e]; rfl), h.R.ge, h.R.ne⟩, World.ownsRow_nil _ _ _ _, World.ownsRow_nil _ _ _ _, World.ownsRow_nil _ _ _ _,
    ⟨ps ++ [(#[.string r.m, .string r.x, .int .i64 r.k, f, .bool r.ch, bd, t], r)], by rw [List.map_append, hps]; rfl, fun x hx => ?_, by rw [List.length_append, List.flatMap_append]; simpa using ho⟩, ?_, h.ge, Nat.lt_of_lt_of_le h.lt hk.size⟩
  · rcases List.mem_append.1 hx with hx | hx
    · exact ⟨(hfar x hx).1, by
        have h2 := ((hfar x hx).2.keeps hkL2)
        exact ⟨h2.reads, fun k hb => ⟨fun hm => by
          rcases hof k hm with e | e
          · exact (h2.far k hb).1 e
          · exact absurd ((hfar x hx).2.far k hb).2 (by omega), (h2.far k hb).2⟩⟩⟩
    · obtain rfl : x = _ := by simpa using hx
      refine ⟨rfl, ?_, fun k hb => ?_⟩
      · obtain ⟨A1, c1, e1, h1⟩ := Flds.of_own F'
        obtain ⟨A2, c2, e2, h2⟩ := Rec.nums_of_own D'
        obtain ⟨A3, c3, e3, h3⟩ := Flds.of_own T'
        subst e1 e2 e3
        exact ⟨_, _, _, _, _, _, rfl, h1, h2, h3⟩
      · have e1 := slot_own h.F; have e2 := slot_own h.D; have e3 := slot_own h.T
        replace hb : some k ∈ [none, none, none, slot f, none, slot bd, slot t] := hb
        simp only [List.mem_cons, List.not_mem_nil, or_false, reduceCtorEq, false_or] at hb
        have key : ∀ i, i ≠ 0 → i ≠ 1 → i ≠ 2 → i ≠ 6 → (blks g q v f bd t o)[i]? = some (some k) → some k ∉ blks g q v (.slice none 0 0) (.slice none 0 0) (.slice none 0 0) o' ∧ k < w'.heap.size := by
          intro i i0 i1 i2 i6 hi
          have hlt := hin k (List.mem_of_getElem? hi)
          refine ⟨fun hm => ?_, Nat.lt_of_lt_of_le hlt hk.size⟩
          rcases hsub k hm with (e | e | e | e) | e
          · exact i0 (h.lone i 0 k hi (by rw [e]; rfl))
          · exact i1 (h.lone i 1 k hi (by rw [e]; rfl))
          · exact i2 (h.lone i 2 k hi (by rw [e]; rfl))
          · exact i6 (h.lone i 6 k hi (by rw [e]; rfl))
          · omega
        rcases hb with hb | hb | hb
        · exact key 3 (by decide) (by decide) (by decide) (by decide) (by rw [hb, e1]; rfl)
        · exact key 4 (by decide) (by decide) (by decide) (by decide) (by rw [hb, e2]; rfl)
        · exact key 5 (by decide) (by decide) (by decide) (by decide) (by rw [hb, e3]; rfl)
  · have hz := h.zero
    have e : blks g q v (.slice none 0 0) (.slice none 0 0) (.slice none 0 0) o' = (blks g q v (.slice none 0 0) (.slice none 0 0) (.slice none 0 0) o).set 6 o'.ownBlock := rfl
    rw [e]
    refine hz.lone.set hz.in 6 _ ?_
    rcases hor with e | e
    · exact .inr (.inl (by rw [e]; rfl))
    · exact .inr (.inr ⟨_, e, Nat.le_refl _⟩)
/-- What changes when some blocks of it are written, others made. -/
structure Step (L L' : List (Option Nat)) (w w' : World) : Prop where
  keeps : Keeps L w w'
  of : Of w L L'
theorem Step.refl : Step L L w w := ⟨Keeps.refl, Of.refl⟩
theorem Step.trans {L' L'' : List (Option Nat)} {w'' : World} (h : Step L L' w w') (h' : Step L' L'' w' w'') : Step L L'' w w'' := ⟨h.keeps.trans h'.keeps h.of, h.of.trans h'.of h.keeps.size⟩
theorem Step.set (g k : Nat) (u : Value) (hg : some g ∈ L) : Step L L w (w.setCell ⟨g, k, none⟩ u) := ⟨Keeps.set g k u hg, Of.refl⟩
theorem Step.of_below (hb : Below w.heap.size w w') : Step L L w w' := ⟨Keeps.of_below hb, Of.refl⟩
theorem Step.zero : Step (blks g q v f bd t o) (blks g q v (.slice none 0 0) (.slice none 0 0) (.slice none 0 0) o) w w := ⟨Keeps.refl, fun k hk => by
  simp only [List.mem_cons, List.not_mem_nil, or_false, Value.ownBlock, reduceCtorEq, false_or] at hk ⊢
  rcases hk with hk | hk | hk | hk
  · exact .inl (.inl hk)
  · exact .inl (.inr (.inl hk))
  · exact .inl (.inr (.inr (.inl hk)))
  · exact .inl (.inr (.inr (.inr (.inr (.inr (.inr hk))))))⟩
theorem Step.line (hb : Below w.heap.size w w') {q1 : Nat} (hq : w.heap.size ≤ q1) : Step (blks g q v f bd t o) (blks g q1 (.slice none 0 0) f bd t o) w w' := ⟨Keeps.of_below hb, by
  have e : blks g q1 (.slice none 0 0) f bd t o = ((blks g q v f bd t o).set 1 (some q1)).set 2 none := rfl
  rw [e]
  exact (Of.set 1 (some q1) (.inr (.inr ⟨q1, rfl, hq⟩))).trans (Of.set 2 none (.inl rfl)) (Nat.le_refl _)⟩
theorem Step.push {o' : Value} (hg : w.grownBy w' o.ownBlock) (hor : o'.ownBlock = o.ownBlock ∨ o'.ownBlock = some w.heap.size) : Step (blks g q v f bd t o) (blks g q v (.slice none 0 0) (.slice none 0 0) (.slice none 0 0) o') w w' := ⟨Keeps.grown hg fun k e => by simp [e], fun k hk => by
  replace hk : some k ∈ [some g, some q, v.ownBlock, none, none, none, o'.ownBlock] := hk
  simp only [List.mem_cons, List.not_mem_nil, or_false, reduceCtorEq, false_or] at hk
  rcases hk with hk | hk | hk | hk
  · exact .inl (by simp [hk])
  · exact .inl (by simp [hk])
  · exact .inl (by simp [hk])
  · rcases hor with e | e
    · rw [e] at hk; exact .inl (by simp [hk])
    · rw [e] at hk; cases hk; exact .inr (Nat.le_refl _)⟩
theorem one_own {e : TypeId} {size : Nat} {u : Value} {n : Nat} {xs : List Value} (h : w.ownsRow B e size u n xs) : u.oneCell' = true := by
  rcases h.2 with ⟨rfl, _⟩ | ⟨g, cap, cur, rfl, _⟩ <;> rfl
/-- Another row stands for the fields. -/
theorem Own.setF (h : Own w B g q v f bd t o p rd fs body ts out) {f' : Value} {fs' : List Fld} (hk : Keeps [f.ownBlock] w w') (hr : w'.ownsRow B 83 2 f' fs'.length (cells fs')) (hor : f'.ownBlock = f.ownBlock ∨ ∃ k, f'.ownBlock = some k ∧ w.heap.size ≤ k) :
    Own w' B g q v f' bd t o p rd fs' body ts out ∧ Step (blks g q v f bd t o) (blks g q v f' bd t o) w w' := by
  have hn : ∀ i j, i ≠ 3 → (blks g q v f bd t o)[i]? = some (some j) → some j ∉ [f.ownBlock] := fun i j hi hj hm => by
    have e : some j = f.ownBlock := by simpa using hm
    exact hi (h.lone i 3 j hj (by rw [e]; rfl))
  have e : blks g q v f' bd t o = (blks g q v f bd t o).set 3 f'.ownBlock := rfl
  have ho : f'.ownBlock = none ∨ (blks g q v f bd t o)[3]? = some f'.ownBlock ∨ ∃ k, f'.ownBlock = some k ∧ w.heap.size ≤ k := by
    rcases hor with e | e
    · exact .inr (.inl (by rw [e]; rfl))
    · exact .inr (.inr e)
  have hof : Of w (blks g q v f bd t o) (blks g q v f' bd t o) := by rw [e]; exact Of.set 3 _ ho
  have hkL : Keeps (blks g q v f bd t o) w w' := hk.mono fun k hk => by
    have e : some k = f.ownBlock := by simpa using hk
    simp [e]
  obtain ⟨ps, h1, h2, h3⟩ := h.O
  refine ⟨⟨⟨hk.row h.R.row (hn 1 q (by decide) rfl), hk.own h.R.own fun j e => hn 2 j (by decide) (by rw [← e]; rfl), h.R.ge, h.R.ne⟩, hr, hk.own h.D fun j e => hn 4 j (by decide) (by rw [← e]; rfl), hk.own h.T fun j e => hn 5 j (by decide) (by rw [← e]; rfl),
    ⟨ps, h1, fun x hx => ⟨(h2 x hx).1, by
      have hx2 := (h2 x hx).2.keeps hkL
      exact ⟨hx2.reads, fun k hb => ⟨fun hm => by
        rcases hof k hm with e | e
        · exact (hx2.far k hb).1 e
        · exact absurd ((h2 x hx).2.far k hb).2 (by omega), (hx2.far k hb).2⟩⟩⟩, hk.own h3 fun j e => hn 6 j (by decide) (by rw [← e]; rfl)⟩, ?_, h.ge, Nat.lt_of_lt_of_le h.lt hk.size⟩, hkL, hof⟩
  rw [e]
  exact h.lone.set h.in 3 _ ho
/-- Another row stands for the body. -/
theorem Own.setD (h : Own w B g q v f bd t o p rd fs body ts out) {bd' : Value} {body' : List UInt8} (hk : Keeps [bd.ownBlock] w w') (hr : w'.ownsRow B 5 1 bd' body'.length (Rec.vals body')) (hor : bd'.ownBlock = bd.ownBlock ∨ ∃ k, bd'.ownBlock = some k ∧ w.heap.size ≤ k) :
    Own w' B g q v f bd' t o p rd fs body' ts out ∧ Step (blks g q v f bd t o) (blks g q v f bd' t o) w w' := by
  have hn : ∀ i j, i ≠ 4 → (blks g q v f bd t o)[i]? = some (some j) → some j ∉ [bd.ownBlock] := fun i j hi hj hm => by
    have e : some j = bd.ownBlock := by simpa using hm
    exact hi (h.lone i 4 j hj (by rw [e]; rfl))
  have e : blks g q v f bd' t o = (blks g q v f bd t o).set 4 bd'.ownBlock := rfl
  have ho : bd'.ownBlock = none ∨ (blks g q v f bd t o)[4]? = some bd'.ownBlock ∨ ∃ k, bd'.ownBlock = some k ∧ w.heap.size ≤ k := by
    rcases hor with e | e
    · exact .inr (.inl (by rw [e]; rfl))
    · exact .inr (.inr e)
  have hof : Of w (blks g q v f bd t o) (blks g q v f bd' t o) := by rw [e]; exact Of.set 4 _ ho
  have hkL : Keeps (blks g q v f bd t o) w w' := hk.mono fun k hk => by
    have e : some k = bd.ownBlock := by simpa using hk
    simp [e]
  obtain ⟨ps, h1, h2, h3⟩ := h.O
  refine ⟨⟨⟨hk.row h.R.row (hn 1 q (by decide) rfl), hk.own h.R.own fun j e => hn 2 j (by decide) (by rw [← e]; rfl), h.R.ge, h.R.ne⟩, hk.own h.F fun j e => hn 3 j (by decide) (by rw [← e]; rfl), hr, hk.own h.T fun j e => hn 5 j (by decide) (by rw [← e]; rfl),
    ⟨ps, h1, fun x hx => ⟨(h2 x hx).1, by
      have hx2 := (h2 x hx).2.keeps hkL
      exact ⟨hx2.reads, fun k hb => ⟨fun hm => by
        rcases hof k hm with e | e
        · exact (hx2.far k hb).1 e
        · exact absurd ((h2 x hx).2.far k hb).2 (by omega), (hx2.far k hb).2⟩⟩⟩, hk.own h3 fun j e => hn 6 j (by decide) (by rw [← e]; rfl)⟩, ?_, h.ge, Nat.lt_of_lt_of_le h.lt hk.size⟩, hkL, hof⟩
  rw [e]
  exact h.lone.set h.in 4 _ ho
/-- Another row stands for the trailers. -/
theorem Own.setT (h : Own w B g q v f bd t o p rd fs body ts out) {t' : Value} {ts' : List Fld} (hk : Keeps [t.ownBlock] w w') (hr : w'.ownsRow B 83 2 t' ts'.length (cells ts')) (hor : t'.ownBlock = t.ownBlock ∨ ∃ k, t'.ownBlock = some k ∧ w.heap.size ≤ k) :
    Own w' B g q v f bd t' o p rd fs body ts' out ∧ Step (blks g q v f bd t o) (blks g q v f bd t' o) w w' := by
  have hn : ∀ i j, i ≠ 5 → (blks g q v f bd t o)[i]? = some (some j) → some j ∉ [t.ownBlock] := fun i j hi hj hm => by
    have e : some j = t.ownBlock := by simpa using hm
    exact hi (h.lone i 5 j hj (by rw [e]; rfl))
  have e : blks g q v f bd t' o = (blks g q v f bd t o).set 5 t'.ownBlock := rfl
  have ho : t'.ownBlock = none ∨ (blks g q v f bd t o)[5]? = some t'.ownBlock ∨ ∃ k, t'.ownBlock = some k ∧ w.heap.size ≤ k := by
    rcases hor with e | e
    · exact .inr (.inl (by rw [e]; rfl))
    · exact .inr (.inr e)
  have hof : Of w (blks g q v f bd t o) (blks g q v f bd t' o) := by rw [e]; exact Of.set 5 _ ho
  have hkL : Keeps (blks g q v f bd t o) w w' := hk.mono fun k hk => by
    have e : some k = t.ownBlock := by simpa using hk
    simp [e]
  obtain ⟨ps, h1, h2, h3⟩ := h.O
  refine ⟨⟨⟨hk.row h.R.row (hn 1 q (by decide) rfl), hk.own h.R.own fun j e => hn 2 j (by decide) (by rw [← e]; rfl), h.R.ge, h.R.ne⟩, hk.own h.F fun j e => hn 3 j (by decide) (by rw [← e]; rfl), hk.own h.D fun j e => hn 4 j (by decide) (by rw [← e]; rfl), hr,
    ⟨ps, h1, fun x hx => ⟨(h2 x hx).1, by
      have hx2 := (h2 x hx).2.keeps hkL
      exact ⟨hx2.reads, fun k hb => ⟨fun hm => by
        rcases hof k hm with e | e
        · exact (hx2.far k hb).1 e
        · exact absurd ((h2 x hx).2.far k hb).2 (by omega), (hx2.far k hb).2⟩⟩⟩, hk.own h3 fun j e => hn 6 j (by decide) (by rw [← e]; rfl)⟩, ?_, h.ge, Nat.lt_of_lt_of_le h.lt hk.size⟩, hkL, hof⟩
  rw [e]
  exact h.lone.set h.in 5 _ ho
theorem PR.bk (h : PR w B g q v f bd t o p b s) : Rec.Bk w g (pcells p b s q f bd t o) := ⟨fun _ _ hu => row_cellL h.row hu, fun k _ => Ln.row_frozen h.row k, h.own.lt⟩
theorem rr_below {q1 : Nat} {rd1 : Ln.R} (h : Ln.Rr w B q1 v p rd1) (hb : Below w.heap.size w w') : Ln.Rr w' B q1 v p rd1 := by
  have hk : Keeps [] w w' := Keeps.of_below hb
  exact ⟨hk.row h.row (by simp), hk.own h.own (by simp), h.ge, h.ne⟩
/-- A parser, by what it holds and its blocks. -/
def Par (w : World) (B g : Nat) (p : Nat) (b : Bd) (s : S) (L : List (Option Nat)) : Prop := ∃ q v f bd t o, L = blks g q v f bd t o ∧ PR w B g q v f bd t o p b s
end
end Go.Proofs.YtibnobdbmojjhaaGreatDoor.Par
