/-
  Layer 6 (line): contracts of the document's reader of lines (package parallaxref6).
-/
import Derived.Test.YthkgdhkfhidghaaLineByte
namespace Go.Proofs.Ythkgdhkfhidghaa.Ln
open Go.RowKit Base

abbrev rcells (p : Nat) (q : R) (v : Value) : Array Value := #[.int .u32 (p : Int), .int .i64 (q.most : Int), v, .bool q.CR, .string (ba q.L), .bool q.over, .bool q.dead]
/-- The document's reader in its block. -/
structure Rr (w : World) (B g : Nat) (v : Value) (p : Nat) (q : R) : Prop where
  row : w.heap[g]? = some (.cells (rcells p q v) 37 (0, 0))
  own : w.ownsRow B 5 1 v q.B.length (vals q.B)
  ge : B ≤ g
  ne : v.ownBlock ≠ some g
theorem Rr.kept {w w' : World} {B g : Nat} {v : Value} {p : Nat} {q : R} (h : Rr w B g v p q) {j : Nat} {o : Option Nat} (hk : Kept j o w w') (h1 : g ≠ j) (h2 : some g ≠ o) (h3 : v.ownBlock ≠ some j) (h4 : v.ownBlock = none ∨ v.ownBlock ≠ o) : Rr w' B g v p q :=
  ⟨hk.row h.row h1 h2, hk.own h.own h3 h4, h.ge, h.ne⟩
theorem seven {w : World} {g : Nat} {v : Value} {p : Nat} {q : R} (h : w.heap[g]? = some (.cells (rcells p q v) 37 (0, 0))) :
    w.cell? ⟨g, 0, none⟩ = some (.int .u32 (p : Int)) ∧ w.cell? ⟨g, 1, none⟩ = some (.int .i64 (q.most : Int)) ∧ w.cell? ⟨g, 2, none⟩ = some v ∧ w.cell? ⟨g, 3, none⟩ = some (.bool q.CR) ∧ w.cell? ⟨g, 4, none⟩ = some (.string (ba q.L)) ∧ w.cell? ⟨g, 5, none⟩ = some (.bool q.over) ∧ w.cell? ⟨g, 6, none⟩ = some (.bool q.dead) :=
  ⟨row_cell h rfl, row_cell h rfl, row_cell h rfl, row_cell h rfl, row_cell h rfl, row_cell h rfl, row_cell h rfl⟩
theorem start_rr {w : World} {B g : Nat} {v : Value} {p : Nat} {q : R} (h : Rr w B g v p q) : Rr ((w.setCell ⟨g, 4, none⟩ (.string ⟨#[]⟩)).setCell ⟨g, 5, none⟩ (.bool false)) B g v p q.start :=
  ⟨(row_set (row_set h.row 4 _) 5 _).trans rfl, own_set (own_set h.own h.ne 4 _) h.ne 5 _, h.ge, h.ne⟩
theorem start_kept (w : World) (g : Nat) (o : Option Nat) : Kept g o w ((w.setCell ⟨g, 4, none⟩ (.string ⟨#[]⟩)).setCell ⟨g, 5, none⟩ (.bool false)) := (Kept.set g o w 4 _).trans (Kept.set g o _ 5 _) (Moved.refl _ _)
theorem die_rr {w : World} {B g : Nat} {v : Value} {p : Nat} {q : R} (h : Rr w B g v p q) : Rr (w.setCell ⟨g, 6, none⟩ (.bool true)) B g v p q.die :=
  ⟨(row_set h.row 6 _).trans rfl, own_set h.own h.ne 6 _, h.ge, h.ne⟩
theorem cr_rr {w : World} {B g : Nat} {v : Value} {p : Nat} {q : R} (h : Rr w B g v p q) : Rr (w.setCell ⟨g, 3, none⟩ (.bool true)) B g v p { q with CR := true } :=
  ⟨(row_set h.row 3 _).trans rfl, own_set h.own h.ne 3 _, h.ge, h.ne⟩
theorem fin_rr {w : World} {B g : Nat} {v : Value} {p : Nat} {q : R} (h : Rr w B g v p q) :
    Rr ((((w.setCell ⟨g, 4, none⟩ (.string (ba q.B))).setCell ⟨g, 2, none⟩ (.slice none 0 0)).setCell ⟨g, 3, none⟩ (.bool false)).setCell ⟨g, 5, none⟩ (.bool true)) B g (.slice none 0 0) p q.fin :=
  ⟨(row_set (row_set (row_set (row_set h.row 4 _) 2 _) 3 _) 5 _).trans rfl, ⟨rfl, .inl ⟨rfl, rfl⟩⟩, h.ge, fun e => by cases e⟩
theorem fin_kept (w : World) (g : Nat) (o : Option Nat) (s : Value) : Kept g o w ((((w.setCell ⟨g, 4, none⟩ s).setCell ⟨g, 2, none⟩ (.slice none 0 0)).setCell ⟨g, 3, none⟩ (.bool false)).setCell ⟨g, 5, none⟩ (.bool true)) :=
  (((Kept.set g o w 4 _).trans (Kept.set g o _ 2 _) (Moved.refl _ _)).trans (Kept.set g o _ 3 _) (Moved.refl _ _)).trans (Kept.set g o _ 5 _) (Moved.refl _ _)

section code
set_option maxHeartbeats 2000000
attribute [local go_sem] Base.some_undef
theorem rnew_any (p : Nat) (most : Int) (w : World) : Calls Try.prog 9 #[.int .u32 p, .int .i64 most] w
    fun e w' => e = .returned (ptr w.heap.size) ∧ w' = w.alloc (.cells (rcells p (R.new (Qk.has p 1) (Qk.has p 2) (mid most)) (.slice none 0 0)) 37) := by
  have HM := Lib.hid (mid_b most)
  go_enter Try.func9, Try.ntmps9
  go_wp2
  go_ret
  refine ⟨rfl, ?_⟩
  simp only [R.new, rcells, HM.out]
theorem rdie_any (x : Int) (w : World) (B g : Nat) (v : Value) (p : Nat) (q : R) (h : Rr w B g v p q) : Calls Try.prog 21 #[ptr g, .int .i64 x] w fun e w' => e = .returned (.int .i64 x) ∧ Rr w' B g v p q.die ∧ ∀ o, Kept g o w w' := by
  have HD := Lib.hid (die_rr h)
  obtain ⟨q0, q1, q2, q3, q4, q5, q6⟩ := seven h.row
  have z6 := row_frozen h.row 6
  clear q0 q1 q2 q3 q4 q5 h
  go_enter Try.func21, Try.ntmps21
  go_wp2
  go_ret
  exact ⟨rfl, HD.out, fun o => Kept.set g o w 6 _⟩
theorem rend_any (x : Int) (w : World) (B g : Nat) (v : Value) (p : Nat) (q : R) (h : Rr w B g v p q) : Calls Try.prog 19 #[ptr g, .int .i64 x] w fun e w' => e = .returned (.int .i64 x) ∧ Rr w' B g (.slice none 0 0) p q.fin ∧ ∀ o, Kept g o w w' := by
  have HD := Lib.hid (fin_rr h)
  have hcv := conv_own h.own
  obtain ⟨q0, q1, q2, q3, q4, q5, q6⟩ := seven h.row
  have z2 := row_frozen h.row 2
  have z3 := row_frozen h.row 3
  have z4 := row_frozen h.row 4
  have z5 := row_frozen h.row 5
  obtain ⟨b, cap, rfl, _⟩ := own_slice h.own
  clear q0 q1 q6 h
  go_enter Try.func19, Try.ntmps19
  go_wp2
  go_ret
  exact ⟨rfl, HD.out, fun o => fin_kept w g o _⟩
end code
end Go.Proofs.Ythkgdhkfhidghaa.Ln
