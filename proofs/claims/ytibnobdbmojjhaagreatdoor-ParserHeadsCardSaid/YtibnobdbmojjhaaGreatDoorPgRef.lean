/-
  Layer 13 (parser): contracts of the program's parser: its small methods. (Printed by tools/gen_pgref.py.)
-/
import Derived.Test.YtibnobdbmojjhaaGreatDoorPgMem
import Derived.Test.YtibnobdbmojjhaaGreatDoorPgFacts
import Derived.Test.YtibnobdbmojjhaaGreatDoorEachF
import Derived.Deep.CutBlock
import Derived.Deep.DeepCutAuto
import Derived.Great.Walk
namespace Go.Proofs.YtibnobdbmojjhaaGreatDoor.Pg
open Go.RowKit Base Txt Mem Par

abbrev nil : Value := .slice none 0 0
/-- The cells of a parser's block, one by one. -/
structure Cs (w : World) (g : Nat) (p : Nat) (b : Bd) (s : T) (q : Nat) (f bd t o : Value) : Prop where
  c0 : w.cell? ⟨g, 0, none⟩ = some (.int .i64 0)
  c1 : w.cell? ⟨g, 1, none⟩ = some (.int .i64 (s.hl : Int))
  c2 : w.cell? ⟨g, 2, none⟩ = some (f)
  c3 : w.cell? ⟨g, 3, none⟩ = some (.string s.r.m)
  c4 : w.cell? ⟨g, 4, none⟩ = some (.string s.r.x)
  c5 : w.cell? ⟨g, 5, none⟩ = some (.int .i64 s.r.k)
  c6 : w.cell? ⟨g, 6, none⟩ = some (.int .i64 (s.size : Int))
  c7 : w.cell? ⟨g, 7, none⟩ = some (.bool s.cnt)
  c8 : w.cell? ⟨g, 8, none⟩ = some (.int .i64 (s.bl : Int))
  c9 : w.cell? ⟨g, 9, none⟩ = some (t)
  c10 : w.cell? ⟨g, 10, none⟩ = some (.bool s.r.ch)
  c11 : w.cell? ⟨g, 11, none⟩ = some (bd)
  c12 : w.cell? ⟨g, 12, none⟩ = some (.int .i64 (s.left : Int))
  c13 : w.cell? ⟨g, 13, none⟩ = some (.int .u32 (p : Int))
  c14 : w.cell? ⟨g, 14, none⟩ = some (.int .i64 b.x0)
  c15 : w.cell? ⟨g, 15, none⟩ = some (.int .i64 b.x1)
  c16 : w.cell? ⟨g, 16, none⟩ = some (.int .i64 b.x2)
  c17 : w.cell? ⟨g, 17, none⟩ = some (.int .i64 b.x3)
  c18 : w.cell? ⟨g, 18, none⟩ = some (.int .i64 b.x4)
  c19 : w.cell? ⟨g, 19, none⟩ = some (.int .i64 b.x5)
  c20 : w.cell? ⟨g, 20, none⟩ = some (.int .i64 b.x6)
  c21 : w.cell? ⟨g, 21, none⟩ = some (.int .i64 b.x7)
  c22 : w.cell? ⟨g, 22, none⟩ = some (.bool b.ch)
  c23 : w.cell? ⟨g, 23, none⟩ = some (.bool b.od)
  c24 : w.cell? ⟨g, 24, none⟩ = some (.int .i64 (s.st : Int))
  c25 : w.cell? ⟨g, 25, none⟩ = some (ptr q)
  c26 : w.cell? ⟨g, 26, none⟩ = some (o)
theorem Cs.of {w : World} {g : Nat} {p : Nat} {b : Bd} {s : T} {q : Nat} {f bd t o : Value} (h : w.heap[g]? = some (.cells (pgcells p b s q f bd t o).toArray 55 (0, 0))) : Cs w g p b s q f bd t o := ⟨row_cellL h rfl, row_cellL h rfl, row_cellL h rfl, row_cellL h rfl, row_cellL h rfl, row_cellL h rfl, row_cellL h rfl, row_cellL h rfl, row_cellL h rfl, row_cellL h rfl, row_cellL h rfl, row_cellL h rfl, row_cellL h rfl, row_cellL h rfl, row_cellL h rfl, row_cellL h rfl, row_cellL h rfl, row_cellL h rfl, row_cellL h rfl, row_cellL h rfl, row_cellL h rfl, row_cellL h rfl, row_cellL h rfl, row_cellL h rfl, row_cellL h rfl, row_cellL h rfl, row_cellL h rfl⟩
/-- The cells of a parser that has failed. -/
abbrev deadcells (e : Nat) (o : Value) : List Value := [.int .i64 (e : Int), .int .i64 0, nil, .string E0, .string E0, .int .i64 0, .int .i64 0, .bool false, .int .i64 0, nil, .bool false, nil, .int .i64 0, .int .u32 0, .int .i64 0, .int .i64 0, .int .i64 0, .int .i64 0, .int .i64 0, .int .i64 0, .int .i64 0, .int .i64 0, .bool false, .bool false, .int .i64 0, .pointer none, o]
/-- A parser that has failed: its block, and the records that are to be told yet. -/
structure Dead (w : World) (B g : Nat) (e : Nat) (o : Value) (out : List Rec.R) : Prop where
  row : w.heap[g]? = some (.cells (deadcells e o).toArray 55 (0, 0))
  O : Outs [some g, o.ownBlock] B w o out
  ne : o.ownBlock ≠ some g
  ge : B ≤ g
  lt : g < w.heap.size
  bad : e ≠ 0
section code
set_option maxHeartbeats 4000000
set_option maxRecDepth 20000
attribute [local go_sem] Base.some_undef
variable {w : World} {B g q : Nat} {v f bd t o : Value} {p : Nat} {b : Bd} {s : T}
theorem PR.cs (h : PR w B g q v f bd t o p b s) : Cs w g p b s q f bd t o := Cs.of h.row
theorem PR.marks (h : PR w B g q v f bd t o p b s) (k : Nat) : w.frozen? ⟨g, k, none⟩ = false := Ln.row_frozen h.row k
/-- Its line is another one. -/
theorem PR.line (h : PR w B g q v f bd t o p b s) {w' : World} (hb : Below w.heap.size w w') {q1 : Nat} {rd1 : Ln.M} (hr : Ln.Rd w' B q1 (.slice none 0 0) rd1) (hq : w.heap.size ≤ q1) : PR (w'.setCell ⟨g, 25, none⟩ (ptr q1)) B g q1 (.slice none 0 0) f bd t o p b { s with rd := rd1 } :=
  ⟨row_setL ((hb.block g h.own.lt).trans h.row) 25 (ptr q1), (h.own.line hb hr hq).set 25 (ptr q1)⟩
theorem failed_live (h : w.cell? ⟨g, 0, none⟩ = some (.int .i64 0)) : Calls Tryz.prog 53 #[ptr g] w fun r w' => r = .returned (.bool false) ∧ w' = w := by
  go_enter Tryz.func53, Tryz.ntmps53
  go_wp2
  go_ret
  exact ⟨rfl, rfl⟩
theorem failed_dead {e : Nat} (h : w.cell? ⟨g, 0, none⟩ = some (.int .i64 (e : Int))) (hn : e ≠ 0) : Calls Tryz.prog 53 #[ptr g] w fun r w' => r = .returned (.bool true) ∧ w' = w := by
  have h1 : ((e : Int) == 0) = false := beq_eq_false_iff_ne.2 (by omega)
  have h2 : ¬ (e : Int) = 0 := by omega
  have h3 : ((e : Int) != 0) = true := bne_iff_ne.2 h2
  go_enter Tryz.func53, Tryz.ntmps53
  go_wp2
  go_ret
  exact ⟨by rw [← h3]; rfl, rfl⟩
theorem err_any {x : Int} (h : w.cell? ⟨g, 0, none⟩ = some (.int .i64 x)) : Calls Tryz.prog 25 #[ptr g] w fun r w' => r = .returned (.int .i64 x) ∧ w' = w := by
  go_enter Tryz.func25, Tryz.ntmps25
  go_wp2
  go_ret
  exact ⟨rfl, rfl⟩
theorem isNew_any (h : PR w B g q v f bd t o p b s) : Calls Tryz.prog 57 #[ptr g] w fun r w' => r = .returned (.bool s.isNew) ∧ w' = w := by
  have c25 := h.cs.c25
  have HL0 := Ln.len_any h.own.R.row h.own.R.own
  have HP := Lib.hid (Ln.pending_any h.own.R.row)
  unfold T.isNew
  generalize s.rd.pend = pe at *
  generalize s.rd.len = n at *
  rcases Nat.eq_zero_or_pos n with rfl | hn
  · have HL := Lib.hid (show Calls Tryz.prog 54 #[ptr q] w fun e w' => e = .returned (.int .i64 0) ∧ w' = w from HL0)
    clear HL0
    go_enter Tryz.func57, Tryz.ntmps57
    go_wp2_with (first
      | (go_at_call 54; with_reducible refine HL.out.mono ?_; rintro r w2 ⟨rfl, hw⟩; rw [hw]; clear hw)
      | (go_at_call 80; with_reducible refine HP.out.mono ?_; rintro r w2 ⟨rfl, hw⟩; rw [hw]; clear hw))
    go_ret
    exact ⟨by cases pe <;> rfl, rfl⟩
  · have HL := Lib.hid HL0
    have t1 : ((n : Int) == 0) = false := beq_eq_false_iff_ne.2 (by omega)
    have t2 : ¬ (n : Int) = 0 := by omega
    have t3 : ¬ n = 0 := by omega
    clear HL0
    go_enter Tryz.func57, Tryz.ntmps57
    go_wp2_with (first
      | (go_at_call 54; with_reducible refine HL.out.mono ?_; rintro r w2 ⟨rfl, hw⟩; rw [hw]; clear hw)
      | (go_at_call 80; with_reducible refine HP.out.mono ?_; rintro r w2 ⟨rfl, hw⟩; rw [hw]; clear hw))
    go_ret
    exact ⟨by rw [decide_eq_false t3]; rfl, rfl⟩
theorem clean_live (h : PR w B g q v f bd t o p b s) : Calls Tryz.prog 30 #[ptr g] w fun r w' => r = .returned (.bool (s.st == 1 && s.isNew)) ∧ w' = w := by
  have c24 := h.cs.c24
  have HN := Lib.hid (isNew_any h)
  clear h
  generalize s.isNew = i at *
  by_cases h1 : s.st = 1
  · have c24 : w.cell? ⟨g, 24, none⟩ = some (.int .i64 1) := by rw [h1] at c24; exact c24
    rw [h1]
    go_enter Tryz.func30, Tryz.ntmps30
    go_wp2_with (go_at_call 57; with_reducible refine HN.out.mono ?_; rintro r w2 ⟨rfl, hw⟩; rw [hw]; clear hw)
    go_ret
    exact ⟨rfl, rfl⟩
  · have t1 : ((s.st : Int) == 1) = false := beq_eq_false_iff_ne.2 (by omega)
    have t2 : ¬ (s.st : Int) = 1 := by omega
    rw [beq_eq_false_iff_ne.2 h1]
    go_enter Tryz.func30, Tryz.ntmps30
    go_wp2
    go_ret
    exact ⟨rfl, rfl⟩
theorem clean_dead (h : w.cell? ⟨g, 24, none⟩ = some (.int .i64 0)) : Calls Tryz.prog 30 #[ptr g] w fun r w' => r = .returned (.bool false) ∧ w' = w := by
  go_enter Tryz.func30, Tryz.ntmps30
  go_wp2
  go_ret
  exact ⟨rfl, rfl⟩
theorem bodyIsNext_dead (h : w.cell? ⟨g, 24, none⟩ = some (.int .i64 0)) : Calls Tryz.prog 49 #[ptr g] w fun r w' => r = .returned (.bool false) ∧ w' = w := by
  go_enter Tryz.func49, Tryz.ntmps49
  go_wp2
  go_ret
  exact ⟨rfl, rfl⟩
theorem line_new (hp : p < 4294967296) (B : Nat) (most : Int) (w : World) (hB : B ≤ w.heap.size) : Calls Tryz.prog 68 #[.int .u32 (p : Int), .int .i64 most] w fun r w' => ∃ q1, r = .returned (ptr q1) ∧ w.heap.size ≤ q1 ∧ Ln.Rd w' B q1 nil (Ln.M.of p most) ∧ Below w.heap.size w w' := by
  refine (Ln.new_any p hp most w).mono ?_
  rintro r w' ⟨rfl, rfl⟩
  exact ⟨_, rfl, Nat.le_refl _, ⟨heap_alloc_new w _, World.ownsRow_nil _ _ _ _, hB, by simp [Value.ownBlock]⟩, (Below.refl _ _).alloc (Nat.le_refl _) _⟩
theorem enter_any (hp : p < 4294967296) (h : PR w B g q v f bd t o p b s) (st : Nat) (x : Int) (hx : x = (st : Int)) (most : Int) : Calls Tryz.prog 44 #[ptr g, .int .i64 x, .int .i64 most] w fun r w' =>
    r = .returned (.tuple #[]) ∧ ∃ q1, PR w' B g q1 nil f bd t o p b (s.enter p st most) ∧ Step (blks g q v f bd t o) (blks g q1 nil f bd t o) w w' := by
  subst hx
  have c24 := h.cs.c24; have z24 := h.marks 24
  have H1 := Lib.hid (h.put 24 (.int .i64 (st : Int)) { s with st := st } rfl rfl rfl rfl rfl rfl)
  have HS1 := Lib.hid (Step.set (w := w) (L := blks g q v f bd t o) g 24 (.int .i64 (st : Int)) (by simp))
  clear h
  go_enter Tryz.func44, Tryz.ntmps44
  go_upto_region 1 with fail
  generalize w.setCell ⟨g, 24, none⟩ (.int .i64 (st : Int)) = W1 at *
  clear c24 z24
  have c13 := H1.out.cs.c13
  have e25 := H1.out.cs.c25; have z25 := H1.out.marks 25
  have HNL := Lib.hid (line_new hp B most W1 (Nat.le_trans H1.out.own.ge (Nat.le_of_lt H1.out.own.lt)))
  go_wp2_with
    (go_at_call 68; with_reducible refine HNL.out.mono ?_; rintro r w8 ⟨q1, rfl, hq1, hr1, hb8⟩
     have d25 := (hb8.cell (p := ⟨g, 25, none⟩) H1.out.own.lt).trans e25
     have y25 := (hb8.frozen (p := ⟨g, 25, none⟩) H1.out.own.lt).trans z25
     have HL8 := Lib.hid (H1.out.line hb8 hr1 hq1); have HS8 := Lib.hid (HS1.out.trans (Step.line hb8 hq1))
     clear hb8 hr1 hq1 e25 z25)
  go_end0
  exact ⟨rfl, q1, HL8.out, HS8.out.trans (Step.set g 25 (ptr q1) (by simp))⟩
theorem draft_any (h : PR w B g q v f bd t o p b s) : Calls Tryz.prog 51 #[ptr g] w fun r w' => r = .returned (.agg #[.string s.r.m, .string s.r.x, .int .i64 s.r.k, f, .bool s.r.ch, bd, t]) ∧ Below w.heap.size w w' := by
  obtain ⟨fo, fc, ef, -⟩ := Ln.own_slice h.own.F
  obtain ⟨bo, bc, eb, -⟩ := Ln.own_slice h.own.D
  obtain ⟨ta, tc, et, -⟩ := Ln.own_slice h.own.TR
  subst ef eb et
  have hb0 := ((Below.refl _ _).alloc (Nat.le_refl _) (.cells #[.string ⟨#[]⟩, .string ⟨#[]⟩, .int .i64 0, .slice none 0 0, .bool false, .slice none 0 0, .slice none 0 0] 58) : Below w.heap.size w _)
  have H1 := Lib.hid (h.below hb0)
  obtain ⟨G1, hG1⟩ : ∃ G1, G1 = w.heap.size := ⟨_, rfl⟩
  have HZ := Lib.hid (Rec.Bk.new w G1 hG1 58 [.string ⟨#[]⟩, .string ⟨#[]⟩, .int .i64 0, .slice none 0 0, .bool false, .slice none 0 0, .slice none 0 0])
  have HB0 := Lib.hid hb0
  have HG1 := Lib.hid hG1
  clear h hb0
  go_enter Tryz.func51, Tryz.ntmps51
  go_upto_region 1 with fail
  rw [← hG1]
  clear hG1
  generalize w.alloc (.cells #[.string ⟨#[]⟩, .string ⟨#[]⟩, .int .i64 0, .slice none 0 0, .bool false, .slice none 0 0, .slice none 0 0] 58) = W1 at *
  have HQ := Lib.hid ((H1.out.drew 1).bk)
  refine Each.region 38 [3, 4, 5, 6, 7, 8, 9, 10, 11, 12, 13, 14, 15, 16, 17, 18, 19, 20, 21, 22, 23, 24, 25, 26, 27, 28, 29, 30, 31, 32, 33, 34, 35, 36, 37, 38, 39, 40]
      [fun v _ => v = .pointer (some ⟨g, 0, none⟩),
        fun v _ => v = .pointer (some ⟨g, 0, none⟩),
        fun v _ => v = .pointer (some ⟨g, 1, none⟩),
        fun v _ => v = .pointer (some ⟨g, 3, none⟩),
        fun v _ => v = .string s.r.m,
        fun v _ => v = .pointer (some ⟨g, 0, none⟩),
        fun v _ => v = .pointer (some ⟨g, 0, none⟩),
        fun v _ => v = .pointer (some ⟨g, 1, none⟩),
        fun v _ => v = .pointer (some ⟨g, 4, none⟩),
        fun v _ => v = .string s.r.x,
        fun v _ => v = .pointer (some ⟨g, 0, none⟩),
        fun v _ => v = .pointer (some ⟨g, 0, none⟩),
        fun v _ => v = .pointer (some ⟨g, 1, none⟩),
        fun v _ => v = .pointer (some ⟨g, 5, none⟩),
        fun v _ => v = .int .i64 s.r.k,
        fun v _ => v = .pointer (some ⟨g, 0, none⟩),
        fun v _ => v = .pointer (some ⟨g, 0, none⟩),
        fun v _ => v = .pointer (some ⟨g, 1, none⟩),
        fun v _ => v = .pointer (some ⟨g, 1, none⟩),
        fun v _ => v = .pointer (some ⟨g, 2, none⟩),
        fun v _ => v = .slice fo s.r.fs.length fc,
        fun v _ => v = .pointer (some ⟨g, 0, none⟩),
        fun v _ => v = .pointer (some ⟨g, 0, none⟩),
        fun v _ => v = .pointer (some ⟨g, 8, none⟩),
        fun v _ => v = .pointer (some ⟨g, 10, none⟩),
        fun v _ => v = .bool s.r.ch,
        fun v _ => v = .pointer (some ⟨g, 0, none⟩),
        fun v _ => v = .pointer (some ⟨g, 0, none⟩),
        fun v _ => v = .pointer (some ⟨g, 8, none⟩),
        fun v _ => v = .pointer (some ⟨g, 11, none⟩),
        fun v _ => v = .slice bo s.r.body.length bc,
        fun v _ => v = .pointer (some ⟨g, 0, none⟩),
        fun v _ => v = .pointer (some ⟨g, 0, none⟩),
        fun v _ => v = .pointer (some ⟨g, 8, none⟩),
        fun v _ => v = .pointer (some ⟨g, 8, none⟩),
        fun v _ => v = .pointer (some ⟨g, 9, none⟩),
        fun v _ => v = .slice ta s.r.ts.length tc,
        fun v _ => v = .agg #[.string s.r.m, .string s.r.x, .int .i64 s.r.k, .slice fo s.r.fs.length fc, .bool s.r.ch, .slice bo s.r.body.length bc, .slice ta s.r.ts.length tc]]
      (.act 38 .done) (by kernel_rfl) (by kernel_rfl) (by kernel_rfl) (by kernel_rfl) (fun _ _ d _ _ h => by cases d <;> exact h) (by rfl) (by rfl)
      ⟨Each.Lasts.eq _, Each.Lasts.eq _, Each.Lasts.eq _, Each.Lasts.eq _, Each.Lasts.eq _, Each.Lasts.eq _, Each.Lasts.eq _, Each.Lasts.eq _, Each.Lasts.eq _, Each.Lasts.eq _, Each.Lasts.eq _, Each.Lasts.eq _, Each.Lasts.eq _, Each.Lasts.eq _, Each.Lasts.eq _, Each.Lasts.eq _, Each.Lasts.eq _, Each.Lasts.eq _, Each.Lasts.eq _, Each.Lasts.eq _, Each.Lasts.eq _, Each.Lasts.eq _, Each.Lasts.eq _, Each.Lasts.eq _, Each.Lasts.eq _, Each.Lasts.eq _, Each.Lasts.eq _, Each.Lasts.eq _, Each.Lasts.eq _, Each.Lasts.eq _, Each.Lasts.eq _, Each.Lasts.eq _, Each.Lasts.eq _, Each.Lasts.eq _, Each.Lasts.eq _, Each.Lasts.eq _, Each.Lasts.eq _, Each.Lasts.eq _, trivial⟩ ?_ ?_
  · refine ⟨?_, ?_, ?_, ?_, ?_, ?_, ?_, ?_, ?_, ?_, ?_, ?_, ?_, ?_, ?_, ?_, ?_, ?_, ?_, ?_, ?_, ?_, ?_, ?_, ?_, ?_, ?_, ?_, ?_, ?_, ?_, ?_, ?_, ?_, ?_, ?_, ?_, ?_, trivial⟩
    · refine Each.fine rfl (fun ev w1 hR hb hh => ?_)
      clear hh
      have e0 := hR.old 0 rfl
      simp only [Array.getD_eq_getD_getElem?, List.getElem?_toArray, List.getElem?_cons_zero, Option.getD_some] at e0
      refine Each.Goes.same ?_
      go_simp
      try with_reducible rfl
    · refine Each.fine rfl (fun ev w1 hR hb hh => ?_)
      have e3 : (ev (.tmp 3) = .pointer (some ⟨g, 0, none⟩)) := hh.at 0
      clear hh
      refine Each.Goes.same ?_
      go_simp
      try with_reducible rfl
    · refine Each.fine rfl (fun ev w1 hR hb hh => ?_)
      have e4 : (ev (.tmp 4) = .pointer (some ⟨g, 0, none⟩)) := hh.at 0
      clear hh
      refine Each.Goes.same ?_
      go_simp
      try with_reducible rfl
    · refine Each.fine rfl (fun ev w1 hR hb hh => ?_)
      have e5 : (ev (.tmp 5) = .pointer (some ⟨g, 1, none⟩)) := hh.at 0
      clear hh
      refine Each.Goes.same ?_
      go_simp
      try with_reducible rfl
    · refine Each.fine rfl (fun ev w1 hR hb hh => ?_)
      have e6 : (ev (.tmp 6) = .pointer (some ⟨g, 3, none⟩)) := hh.at 0
      clear hh
      have q3 := (HQ.out.below hb).c 3 _ rfl
      refine Each.Goes.same ?_
      go_simp
      try with_reducible rfl
    · refine Each.fine rfl (fun ev w1 hR hb hh => ?_)
      clear hh
      have e0 := hR.old 0 rfl
      simp only [Array.getD_eq_getD_getElem?, List.getElem?_toArray, List.getElem?_cons_zero, Option.getD_some] at e0
      refine Each.Goes.same ?_
      go_simp
      try with_reducible rfl
    · refine Each.fine rfl (fun ev w1 hR hb hh => ?_)
      have e8 : (ev (.tmp 8) = .pointer (some ⟨g, 0, none⟩)) := hh.at 0
      clear hh
      refine Each.Goes.same ?_
      go_simp
      try with_reducible rfl
    · refine Each.fine rfl (fun ev w1 hR hb hh => ?_)
      have e9 : (ev (.tmp 9) = .pointer (some ⟨g, 0, none⟩)) := hh.at 0
      clear hh
      refine Each.Goes.same ?_
      go_simp
      try with_reducible rfl
    · refine Each.fine rfl (fun ev w1 hR hb hh => ?_)
      have e10 : (ev (.tmp 10) = .pointer (some ⟨g, 1, none⟩)) := hh.at 0
      clear hh
      refine Each.Goes.same ?_
      go_simp
      try with_reducible rfl
    · refine Each.fine rfl (fun ev w1 hR hb hh => ?_)
      have e11 : (ev (.tmp 11) = .pointer (some ⟨g, 4, none⟩)) := hh.at 0
      clear hh
      have q4 := (HQ.out.below hb).c 4 _ rfl
      refine Each.Goes.same ?_
      go_simp
      try with_reducible rfl
    · refine Each.fine rfl (fun ev w1 hR hb hh => ?_)
      clear hh
      have e0 := hR.old 0 rfl
      simp only [Array.getD_eq_getD_getElem?, List.getElem?_toArray, List.getElem?_cons_zero, Option.getD_some] at e0
      refine Each.Goes.same ?_
      go_simp
      try with_reducible rfl
    · refine Each.fine rfl (fun ev w1 hR hb hh => ?_)
      have e13 : (ev (.tmp 13) = .pointer (some ⟨g, 0, none⟩)) := hh.at 0
      clear hh
      refine Each.Goes.same ?_
      go_simp
      try with_reducible rfl
    · refine Each.fine rfl (fun ev w1 hR hb hh => ?_)
      have e14 : (ev (.tmp 14) = .pointer (some ⟨g, 0, none⟩)) := hh.at 0
      clear hh
      refine Each.Goes.same ?_
      go_simp
      try with_reducible rfl
    · refine Each.fine rfl (fun ev w1 hR hb hh => ?_)
      have e15 : (ev (.tmp 15) = .pointer (some ⟨g, 1, none⟩)) := hh.at 0
      clear hh
      refine Each.Goes.same ?_
      go_simp
      try with_reducible rfl
    · refine Each.fine rfl (fun ev w1 hR hb hh => ?_)
      have e16 : (ev (.tmp 16) = .pointer (some ⟨g, 5, none⟩)) := hh.at 0
      clear hh
      have q5 := (HQ.out.below hb).c 5 _ rfl
      refine Each.Goes.same ?_
      go_simp
      try with_reducible rfl
    · refine Each.fine rfl (fun ev w1 hR hb hh => ?_)
      clear hh
      have e0 := hR.old 0 rfl
      simp only [Array.getD_eq_getD_getElem?, List.getElem?_toArray, List.getElem?_cons_zero, Option.getD_some] at e0
      refine Each.Goes.same ?_
      go_simp
      try with_reducible rfl
    · refine Each.fine rfl (fun ev w1 hR hb hh => ?_)
      have e18 : (ev (.tmp 18) = .pointer (some ⟨g, 0, none⟩)) := hh.at 0
      clear hh
      refine Each.Goes.same ?_
      go_simp
      try with_reducible rfl
    · refine Each.fine rfl (fun ev w1 hR hb hh => ?_)
      have e19 : (ev (.tmp 19) = .pointer (some ⟨g, 0, none⟩)) := hh.at 0
      clear hh
      refine Each.Goes.same ?_
      go_simp
      try with_reducible rfl
    · refine Each.fine rfl (fun ev w1 hR hb hh => ?_)
      have e20 : (ev (.tmp 20) = .pointer (some ⟨g, 1, none⟩)) := hh.at 0
      clear hh
      refine Each.Goes.same ?_
      go_simp
      try with_reducible rfl
    · refine Each.fine rfl (fun ev w1 hR hb hh => ?_)
      have e21 : (ev (.tmp 21) = .pointer (some ⟨g, 1, none⟩)) := hh.at 0
      clear hh
      refine Each.Goes.same ?_
      go_simp
      try with_reducible rfl
    · refine Each.fine rfl (fun ev w1 hR hb hh => ?_)
      have e22 : (ev (.tmp 22) = .pointer (some ⟨g, 2, none⟩)) := hh.at 0
      clear hh
      have q2 := (HQ.out.below hb).c 2 _ rfl
      refine Each.Goes.same ?_
      go_simp
      try with_reducible rfl
    · refine Each.fine rfl (fun ev w1 hR hb hh => ?_)
      clear hh
      have e0 := hR.old 0 rfl
      simp only [Array.getD_eq_getD_getElem?, List.getElem?_toArray, List.getElem?_cons_zero, Option.getD_some] at e0
      refine Each.Goes.same ?_
      go_simp
      try with_reducible rfl
    · refine Each.fine rfl (fun ev w1 hR hb hh => ?_)
      have e24 : (ev (.tmp 24) = .pointer (some ⟨g, 0, none⟩)) := hh.at 0
      clear hh
      refine Each.Goes.same ?_
      go_simp
      try with_reducible rfl
    · refine Each.fine rfl (fun ev w1 hR hb hh => ?_)
      have e25 : (ev (.tmp 25) = .pointer (some ⟨g, 0, none⟩)) := hh.at 0
      clear hh
      refine Each.Goes.same ?_
      go_simp
      try with_reducible rfl
    · refine Each.fine rfl (fun ev w1 hR hb hh => ?_)
      have e26 : (ev (.tmp 26) = .pointer (some ⟨g, 8, none⟩)) := hh.at 0
      clear hh
      refine Each.Goes.same ?_
      go_simp
      try with_reducible rfl
    · refine Each.fine rfl (fun ev w1 hR hb hh => ?_)
      have e27 : (ev (.tmp 27) = .pointer (some ⟨g, 10, none⟩)) := hh.at 0
      clear hh
      have q10 := (HQ.out.below hb).c 10 _ rfl
      refine Each.Goes.same ?_
      go_simp
      try with_reducible rfl
    · refine Each.fine rfl (fun ev w1 hR hb hh => ?_)
      clear hh
      have e0 := hR.old 0 rfl
      simp only [Array.getD_eq_getD_getElem?, List.getElem?_toArray, List.getElem?_cons_zero, Option.getD_some] at e0
      refine Each.Goes.same ?_
      go_simp
      try with_reducible rfl
    · refine Each.fine rfl (fun ev w1 hR hb hh => ?_)
      have e29 : (ev (.tmp 29) = .pointer (some ⟨g, 0, none⟩)) := hh.at 0
      clear hh
      refine Each.Goes.same ?_
      go_simp
      try with_reducible rfl
    · refine Each.fine rfl (fun ev w1 hR hb hh => ?_)
      have e30 : (ev (.tmp 30) = .pointer (some ⟨g, 0, none⟩)) := hh.at 0
      clear hh
      refine Each.Goes.same ?_
      go_simp
      try with_reducible rfl
    · refine Each.fine rfl (fun ev w1 hR hb hh => ?_)
      have e31 : (ev (.tmp 31) = .pointer (some ⟨g, 8, none⟩)) := hh.at 0
      clear hh
      refine Each.Goes.same ?_
      go_simp
      try with_reducible rfl
    · refine Each.fine rfl (fun ev w1 hR hb hh => ?_)
      have e32 : (ev (.tmp 32) = .pointer (some ⟨g, 11, none⟩)) := hh.at 0
      clear hh
      have q11 := (HQ.out.below hb).c 11 _ rfl
      refine Each.Goes.same ?_
      go_simp
      try with_reducible rfl
    · refine Each.fine rfl (fun ev w1 hR hb hh => ?_)
      clear hh
      have e0 := hR.old 0 rfl
      simp only [Array.getD_eq_getD_getElem?, List.getElem?_toArray, List.getElem?_cons_zero, Option.getD_some] at e0
      refine Each.Goes.same ?_
      go_simp
      try with_reducible rfl
    · refine Each.fine rfl (fun ev w1 hR hb hh => ?_)
      have e34 : (ev (.tmp 34) = .pointer (some ⟨g, 0, none⟩)) := hh.at 0
      clear hh
      refine Each.Goes.same ?_
      go_simp
      try with_reducible rfl
    · refine Each.fine rfl (fun ev w1 hR hb hh => ?_)
      have e35 : (ev (.tmp 35) = .pointer (some ⟨g, 0, none⟩)) := hh.at 0
      clear hh
      refine Each.Goes.same ?_
      go_simp
      try with_reducible rfl
    · refine Each.fine rfl (fun ev w1 hR hb hh => ?_)
      have e36 : (ev (.tmp 36) = .pointer (some ⟨g, 8, none⟩)) := hh.at 0
      clear hh
      refine Each.Goes.same ?_
      go_simp
      try with_reducible rfl
    · refine Each.fine rfl (fun ev w1 hR hb hh => ?_)
      have e37 : (ev (.tmp 37) = .pointer (some ⟨g, 8, none⟩)) := hh.at 0
      clear hh
      refine Each.Goes.same ?_
      go_simp
      try with_reducible rfl
    · refine Each.fine rfl (fun ev w1 hR hb hh => ?_)
      have e38 : (ev (.tmp 38) = .pointer (some ⟨g, 9, none⟩)) := hh.at 0
      clear hh
      have q9 := (HQ.out.below hb).c 9 _ rfl
      refine Each.Goes.same ?_
      go_simp
      try with_reducible rfl
    · refine Each.fine rfl (fun ev w1 hR hb hh => ?_)
      have e7 : (ev (.tmp 7) = .string s.r.m) := hh.at 0
      have e12 : (ev (.tmp 12) = .string s.r.x) := hh.at 1
      have e17 : (ev (.tmp 17) = .int .i64 s.r.k) := hh.at 2
      have e23 : (ev (.tmp 23) = .slice fo s.r.fs.length fc) := hh.at 3
      have e28 : (ev (.tmp 28) = .bool s.r.ch) := hh.at 4
      have e33 : (ev (.tmp 33) = .slice bo s.r.body.length bc) := hh.at 5
      have e39 : (ev (.tmp 39) = .slice ta s.r.ts.length tc) := hh.at 6
      clear hh
      refine Each.Goes.same ?_
      go_simp
      try with_reducible rfl
  intro g1 w2 hb hf
  have z40 : (g1 40 = .agg #[.string s.r.m, .string s.r.x, .int .i64 s.r.k, .slice fo s.r.fs.length fc, .bool s.r.ch, .slice bo s.r.body.length bc, .slice ta s.r.ts.length tc]) := hf.at 37
  clear hf
  simp only [Each.putg, Act.put, List.setIfInBounds_toArray, List.set_cons_zero, List.set_cons_succ]
  rw [z40]
  simp only [Tree.grow, Tree.put1, List.getElem?_cons_zero, List.getElem?_cons_succ]
  have HZ2 := Lib.hid (HZ.out.below (Base.below_step (Below.refl _ _) hb))
  have HB2 := Lib.hid (Base.below_step HB0.out hb)
  have c0 := HZ2.out.c 0 _ rfl; have c1 := HZ2.out.c 1 _ rfl; have c2 := HZ2.out.c 2 _ rfl; have c3 := HZ2.out.c 3 _ rfl; have c4 := HZ2.out.c 4 _ rfl; have c5 := HZ2.out.c 5 _ rfl; have c6 := HZ2.out.c 6 _ rfl
  have z0 := HZ2.out.z 0 (by simp); have z1 := HZ2.out.z 1 (by simp); have z2 := HZ2.out.z 2 (by simp); have z3 := HZ2.out.z 3 (by simp); have z4 := HZ2.out.z 4 (by simp); have z5 := HZ2.out.z 5 (by simp); have z6 := HZ2.out.z 6 (by simp)
  refine Tree.change (by rfl) (fun K hK => ?_)
  go_simp
  refine hK _ _ trivial ?_
  clear hK K
  refine Tree.done ?_
  obtain ⟨X, hX, hBX, hbX, -, -, -⟩ := Rec.put7 HZ2.out (by simp) HB2.out (by rw [HG1.out]; exact Nat.le_refl _) (.string s.r.m) (.string s.r.x) (.int .i64 s.r.k) (.slice fo s.r.fs.length fc) (.bool s.r.ch) (.slice bo s.r.body.length bc) (.slice ta s.r.ts.length tc)
  clear c0 c1 c2 c3 c4 c5 c6 z0 z1 z2 z3 z4 z5 z6
  go_wp2
  rw [hX]
  have d0 := hBX.c 0 _ rfl; have d1 := hBX.c 1 _ rfl; have d2 := hBX.c 2 _ rfl; have d3 := hBX.c 3 _ rfl; have d4 := hBX.c 4 _ rfl; have d5 := hBX.c 5 _ rfl; have d6 := hBX.c 6 _ rfl
  refine bodyPost_ret (v := .agg #[.string s.r.m, .string s.r.x, .int .i64 s.r.k, .slice fo s.r.fs.length fc, .bool s.r.ch, .slice bo s.r.body.length bc, .slice ta s.r.ts.length tc]) (by simp [results, Tryz.results51, go_sem, d0, d1, d2, d3, d4, d5, d6]) rfl ⟨rfl, hbX⟩
theorem tooLong_any (h : w.cell? ⟨g, 24, none⟩ = some (.int .i64 (s.st : Int))) : Calls Tryz.prog 106 #[ptr g] w fun r w' => r = .returned (.int .i64 (longE s.st : Int)) ∧ w' = w := by
  unfold longE
  generalize s.st = n at *
  by_cases h1 : n = 1
  · subst h1
    go_enter Tryz.func106, Tryz.ntmps106
    go_wp2
    go_ret
    exact ⟨rfl, rfl⟩
  · by_cases h2 : n = 2
    · subst h2
      go_enter Tryz.func106, Tryz.ntmps106
      go_wp2
      go_ret
      exact ⟨rfl, rfl⟩
    · by_cases h7 : n = 7
      · subst h7
        go_enter Tryz.func106, Tryz.ntmps106
        go_wp2
        go_ret
        exact ⟨rfl, rfl⟩
      · have t1 : ((n : Int) == 1) = false := beq_eq_false_iff_ne.2 (by omega)
        have t2 : ((n : Int) == 2) = false := beq_eq_false_iff_ne.2 (by omega)
        have t7 : ((n : Int) == 7) = false := beq_eq_false_iff_ne.2 (by omega)
        have m1 : ¬ (n : Int) = 1 := by omega
        have m2 : ¬ (n : Int) = 2 := by omega
        have m7 : ¬ (n : Int) = 7 := by omega
        rw [if_neg h1, if_neg (by omega)]
        clear h1 h2 h7
        go_enter Tryz.func106, Tryz.ntmps106
        go_wp2
        go_ret
        exact ⟨rfl, rfl⟩
theorem emptyLine_any (hp : p < 4294967296) (h : w.cell? ⟨g, 13, none⟩ = some (.int .u32 (p : Int))) : Calls Tryz.prog 143 #[ptr g] w fun r w' => r = .returned (.int .i64 ((if Qk.has p 0 = true then 0 else 400 : Nat) : Int)) ∧ w' = w := by
  have HH0 := fun w => Qk.has_any p hp 0 w
  generalize Qk.has p 0 = e at *
  have HH := Lib.hid HH0
  clear HH0
  cases e <;> (go_enter Tryz.func143, Tryz.ntmps143
               go_wp2_with (go_at_call 82; with_reducible refine (HH.out _).mono ?_; rintro r w2 ⟨rfl, hw⟩; rw [hw]; clear hw)
               go_ret
               exact ⟨rfl, rfl⟩)
end code
end Go.Proofs.YtibnobdbmojjhaaGreatDoor.Pg
