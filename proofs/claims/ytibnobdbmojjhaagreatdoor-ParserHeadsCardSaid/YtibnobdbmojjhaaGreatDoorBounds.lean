/-
  Layer 4 (bounds): contracts of package bounds and of parallaxref4's (Right, Usual, Wide, Window).
-/
import Derived.Test.YtibnobdbmojjhaaGreatDoorBase
namespace Go.Proofs.YtibnobdbmojjhaaGreatDoor.Bnd
open Go.RowKit Base

/-- n, moved into lo .. hi. -/
def mid (lo n hi : Int) : Int := if lo < (if n > hi then hi else n) then (if n > hi then hi else n) else lo
def inside (n lo hi : Int) : Bool := decide (lo ≤ n) && decide (n ≤ hi)
theorem mid_iff (lo n hi : Int) (h : lo ≤ hi) : (n = mid lo n hi) ↔ inside n lo hi = true := by
  unfold mid inside
  simp only [Bool.and_eq_true, decide_eq_true_eq]
  constructor
  · intro e; split at e <;> (try split at e) <;> omega
  · intro e; split <;> (try split) <;> omega

/-- A struct of eight numbers and two bools. -/
abbrev bnd (x0 x1 x2 x3 x4 x5 x6 x7 : Int) (c d : Bool) : Value := .agg #[.int .i64 x0, .int .i64 x1, .int .i64 x2, .int .i64 x3, .int .i64 x4, .int .i64 x5, .int .i64 x6, .int .i64 x7, .bool c, .bool d]

def right (x0 x1 x2 x3 x4 x5 x6 x7 : Int) : Bool :=
  inside x0 64 4096 && (inside x1 4 100 && (inside x2 256 65536 && (inside x3 16 1048576 && (inside x4 0 256 && (inside x5 0 100 && (inside x6 1 16 && inside x7 1 1000))))))

/-- A block holds such a struct from its start. -/
structure At (w : World) (g : Nat) (x0 x1 x2 x3 x4 x5 x6 x7 : Int) (c d : Bool) : Prop where
  q0 : w.cell? ⟨g, 0, none⟩ = some (.int .i64 x0)
  q1 : w.cell? ⟨g, 1, none⟩ = some (.int .i64 x1)
  q2 : w.cell? ⟨g, 2, none⟩ = some (.int .i64 x2)
  q3 : w.cell? ⟨g, 3, none⟩ = some (.int .i64 x3)
  q4 : w.cell? ⟨g, 4, none⟩ = some (.int .i64 x4)
  q5 : w.cell? ⟨g, 5, none⟩ = some (.int .i64 x5)
  q6 : w.cell? ⟨g, 6, none⟩ = some (.int .i64 x6)
  q7 : w.cell? ⟨g, 7, none⟩ = some (.int .i64 x7)
  q8 : w.cell? ⟨g, 8, none⟩ = some (.bool c)
  q9 : w.cell? ⟨g, 9, none⟩ = some (.bool d)
section
variable {w w' : World} {g : Nat} {x0 x1 x2 x3 x4 x5 x6 x7 : Int} {c d : Bool}
theorem At.below (h : At w g x0 x1 x2 x3 x4 x5 x6 x7 c d) (hg : g < w.heap.size) (hb : Below w.heap.size w w') : At w' g x0 x1 x2 x3 x4 x5 x6 x7 c d :=
  ⟨(hb.cell (p := ⟨g, 0, none⟩) hg).trans h.q0, (hb.cell (p := ⟨g, 1, none⟩) hg).trans h.q1, (hb.cell (p := ⟨g, 2, none⟩) hg).trans h.q2, (hb.cell (p := ⟨g, 3, none⟩) hg).trans h.q3, (hb.cell (p := ⟨g, 4, none⟩) hg).trans h.q4,
   (hb.cell (p := ⟨g, 5, none⟩) hg).trans h.q5, (hb.cell (p := ⟨g, 6, none⟩) hg).trans h.q6, (hb.cell (p := ⟨g, 7, none⟩) hg).trans h.q7, (hb.cell (p := ⟨g, 8, none⟩) hg).trans h.q8, (hb.cell (p := ⟨g, 9, none⟩) hg).trans h.q9⟩
theorem At.new (w : World) (t : TypeId) (x0 x1 x2 x3 x4 x5 x6 x7 : Int) (c d : Bool) : At (w.alloc (.cells #[.int .i64 x0, .int .i64 x1, .int .i64 x2, .int .i64 x3, .int .i64 x4, .int .i64 x5, .int .i64 x6, .int .i64 x7, .bool c, .bool d] t)) w.heap.size x0 x1 x2 x3 x4 x5 x6 x7 c d := by
  have h : ∀ k v, (#[Value.int .i64 x0, .int .i64 x1, .int .i64 x2, .int .i64 x3, .int .i64 x4, .int .i64 x5, .int .i64 x6, .int .i64 x7, .bool c, .bool d] : Array Value)[k]? = some v → (w.alloc (.cells #[.int .i64 x0, .int .i64 x1, .int .i64 x2, .int .i64 x3, .int .i64 x4, .int .i64 x5, .int .i64 x6, .int .i64 x7, .bool c, .bool d] t)).cell? ⟨w.heap.size, k, none⟩ = some v :=
    fun k v h => (cell_of_row (w.alloc _) w.heap.size k _ t (0, 0) (heap_alloc_new w _)).trans h
  exact ⟨h 0 _ rfl, h 1 _ rfl, h 2 _ rfl, h 3 _ rfl, h 4 _ rfl, h 5 _ rfl, h 6 _ rfl, h 7 _ rfl, h 8 _ rfl, h 9 _ rfl⟩
end

section code
set_option maxHeartbeats 1000000
theorem between_any (lo n hi : Int) (w : World) : Calls Tryz.prog 81 #[.int .i64 lo, .int .i64 n, .int .i64 hi] w fun e w' => e = .returned (.int .i64 (mid lo n hi)) ∧ w' = w := by
  go_enter Tryz.func81, Tryz.ntmps81
  go_wp2
  all_goals
    go_ret
    exact ⟨ret_int (by unfold mid; (repeat' split) <;> omega), rfl⟩
theorem rwithin_any (n lo hi : Int) (w : World) : Calls Tryz.prog 58 #[.int .i64 n, .int .i64 lo, .int .i64 hi] w fun e w' => e = .returned (.bool (inside n lo hi)) ∧ w' = w := by
  rcases Int.lt_or_le n lo with h | h
  · go_enter Tryz.func58, Tryz.ntmps58
    go_wp2
    go_ret
    exact ⟨ret_bool (by simp only [inside, decide_eq_false (Int.not_le.2 h), Bool.false_and]), rfl⟩
  · go_enter Tryz.func58, Tryz.ntmps58
    go_wp2
    go_ret
    exact ⟨ret_bool (by simp only [inside, decide_eq_true h, Bool.true_and]), rfl⟩
theorem rusual_any (w : World) : Calls Tryz.prog 34 #[] w fun e w' => e = .returned (bnd 1024 32 8192 65536 32 8 4 20 true true) ∧ Below w.heap.size w w' := by
  go_enter Tryz.func34, Tryz.ntmps34
  go_wp2
  exact bodyPost_ret (v := bnd _ _ _ _ _ _ _ _ _ _) (by simp [results, Tryz.results34, go_sem]) rfl ⟨rfl, (Below.refl _ _).alloc (Nat.le_refl _) _⟩
theorem rusual_exact (w : World) : Calls Tryz.prog 34 #[] w fun e w' => e = .returned (bnd 1024 32 8192 65536 32 8 4 20 true true)
    ∧ w' = w.alloc (.cells #[.int .i64 1024, .int .i64 32, .int .i64 8192, .int .i64 65536, .int .i64 32, .int .i64 8, .int .i64 4, .int .i64 20, .bool true, .bool true] 29) := by
  go_enter Tryz.func34, Tryz.ntmps34
  go_wp2
  exact bodyPost_ret (v := bnd _ _ _ _ _ _ _ _ _ _) (by simp [results, Tryz.results34, go_sem]) rfl ⟨rfl, rfl⟩
theorem rwide_any (w : World) : Calls Tryz.prog 35 #[] w fun e w' => e = .returned (bnd 4096 100 65536 1048576 256 100 16 1000 true true) ∧ Below w.heap.size w w' := by
  go_enter Tryz.func35, Tryz.ntmps35
  go_wp2
  exact bodyPost_ret (v := bnd _ _ _ _ _ _ _ _ _ _) (by simp [results, Tryz.results35, go_sem]) rfl ⟨rfl, (Below.refl _ _).alloc (Nat.le_refl _) _⟩
theorem within_any (x0 x1 x2 x3 x4 x5 x6 x7 : Int) (c d : Bool) (w : World) : Calls Tryz.prog 67 #[bnd x0 x1 x2 x3 x4 x5 x6 x7 c d] w
    fun e w' => e = .returned (bnd (mid 64 x0 4096) (mid 4 x1 100) (mid 256 x2 65536) (mid 16 x3 1048576) (mid 0 x4 256) (mid 0 x5 100) (mid 1 x6 16) (mid 1 x7 1000) c d) ∧ Below w.heap.size w w' := by
  go_enter Tryz.func67, Tryz.ntmps67
  go_wp2_with (go_at_call 81; with_reducible refine (between_any _ _ _ _).mono ?_; rintro e w1 ⟨rfl, hw⟩; rw [hw]; clear hw)
  exact bodyPost_ret (v := bnd _ _ _ _ _ _ _ _ _ _) (by simp [results, Tryz.results67, go_sem]) rfl ⟨rfl, ((Below.refl _ _).alloc (Nat.le_refl _) _).alloc (by simp) _⟩
theorem right_any (x0 x1 x2 x3 x4 x5 x6 x7 : Int) (c d : Bool) (w : World) : Calls Tryz.prog 43 #[bnd x0 x1 x2 x3 x4 x5 x6 x7 c d] w
    fun e w' => e = .returned (.bool (right x0 x1 x2 x3 x4 x5 x6 x7)) ∧ Below w.heap.size w w' := by
  go_enter Tryz.func43, Tryz.ntmps43
  go_wp2_with fail
  have hc := At.new w 29 x0 x1 x2 x3 x4 x5 x6 x7 c d
  have hW : Below w.heap.size w (w.alloc (.cells #[.int .i64 x0, .int .i64 x1, .int .i64 x2, .int .i64 x3, .int .i64 x4, .int .i64 x5, .int .i64 x6, .int .i64 x7, .bool c, .bool d] 29)) := (Below.refl _ _).alloc (Nat.le_refl _) _
  have hgg : w.heap.size < (w.alloc (.cells #[.int .i64 x0, .int .i64 x1, .int .i64 x2, .int .i64 x3, .int .i64 x4, .int .i64 x5, .int .i64 x6, .int .i64 x7, .bool c, .bool d] 29)).heap.size := by simp
  generalize w.alloc (.cells #[.int .i64 x0, .int .i64 x1, .int .i64 x2, .int .i64 x3, .int .i64 x4, .int .i64 x5, .int .i64 x6, .int .i64 x7, .bool c, .bool d] 29) = W at *
  generalize hgw : w.heap.size = g at *
  refine Sched.region [(0, false), (1, false), (2, true), (3, false), (4, false)] (fun w' => Below W.heap.size W w') (by kernel_rfl) (by kernel_rfl) (fun _ _ d _ _ h => by cases d <;> exact h) (Base.below_drewN (Below.refl _ _) 1) ?_
  simp only [Sched.picked, List.filterMap_cons, List.filterMap_nil, List.getElem?_cons_zero, List.getElem?_cons_succ, Option.map_some]
  iterate 2
    refine Sched.quiet (by rfl) ?_ ?_ ?_
    rotate_left 1
    · intro w' hS
      obtain ⟨q0, q1, q2, q3, q4, q5, q6, q7, q8, q9⟩ := hc.below hgg hS
      clear hS
      go_simp
      with_reducible rfl
    simp only [Act.put, List.setIfInBounds_toArray, List.set_cons_zero, List.set_cons_succ]
  refine Sched.change (by rfl) (fun K hK => ?_)
  go_simp
  with_reducible refine (within_any _ _ _ _ _ _ _ _ _ _ _).mono ?_
  rintro e w1 ⟨rfl, hb⟩
  dsimp only
  have hb1 : Below W.heap.size W w1 := (Base.below_drewN (Below.refl _ _) 1).trans hb
  refine hK _ _ hb1 ?_
  clear hK K
  refine Sched.quiet (by rfl) (.bool (right x0 x1 x2 x3 x4 x5 x6 x7)) ?_ ?_
  · intro w' hS
    go_simp
    simp only [mid_iff 64 x0 4096 (by decide), mid_iff 4 x1 100 (by decide), mid_iff 256 x2 65536 (by decide), mid_iff 16 x3 1048576 (by decide), mid_iff 0 x4 256 (by decide), mid_iff 0 x5 100 (by decide), mid_iff 1 x6 16 (by decide), mid_iff 1 x7 1000 (by decide)]
    unfold right
    cases inside x0 64 4096; · rfl
    cases inside x1 4 100; · rfl
    cases inside x2 256 65536; · rfl
    cases inside x3 16 1048576; · rfl
    cases inside x4 0 256; · rfl
    cases inside x5 0 100; · rfl
    cases inside x6 1 16; · rfl
    cases inside x7 1 1000 <;> rfl
  simp only [Act.put, List.setIfInBounds_toArray, List.set_cons_zero, List.set_cons_succ]
  refine Sched.assign _ (by rfl) (by rfl) ?_
  simp only [Act.put, Act.eval, Array.getD_eq_getD_getElem?, List.getElem?_toArray, List.getElem?_cons_zero, List.getElem?_cons_succ, Option.getD_some, List.setIfInBounds_toArray, List.set_cons_zero, List.set_cons_succ]
  refine Sched.done ?_
  go_wp2
  go_ret
  subst hgw
  exact ⟨rfl, hW.trans (Below.mono hb1 hW.size)⟩

attribute [local go_sem] Base.some_undef
theorem rright_any (x0 x1 x2 x3 x4 x5 x6 x7 : Int) (c d : Bool) (w : World) : Calls Tryz.prog 36 #[bnd x0 x1 x2 x3 x4 x5 x6 x7 c d] w
    fun e w' => e = .returned (.bool (right x0 x1 x2 x3 x4 x5 x6 x7)) ∧ Below w.heap.size w w' := by
  have H0 := Lib.hid (rwithin_any x0 64 4096); have H1 := Lib.hid (rwithin_any x1 4 100); have H2 := Lib.hid (rwithin_any x2 256 65536); have H3 := Lib.hid (rwithin_any x3 16 1048576)
  have H4 := Lib.hid (rwithin_any x4 0 256); have H5 := Lib.hid (rwithin_any x5 0 100); have H6 := Lib.hid (rwithin_any x6 1 16); have H7 := Lib.hid (rwithin_any x7 1 1000)
  unfold right
  generalize inside x0 64 4096 = b0 at *
  generalize inside x1 4 100 = b1 at *
  generalize inside x2 256 65536 = b2 at *
  generalize inside x3 16 1048576 = b3 at *
  generalize inside x4 0 256 = b4 at *
  generalize inside x5 0 100 = b5 at *
  generalize inside x6 1 16 = b6 at *
  generalize inside x7 1 1000 = b7 at *
  cases b0; rotate_left 1; cases b1; rotate_left 1; cases b2; rotate_left 1; cases b3; rotate_left 1; cases b4; rotate_left 1; cases b5; rotate_left 1; cases b6
  all_goals
    go_enter Tryz.func36, Tryz.ntmps36
    go_wp2_with (go_at_call 58; first
      | (with_reducible refine (H0.out _).mono ?_; rintro e w1 ⟨rfl, hw⟩; rw [hw]; clear hw)
      | (with_reducible refine (H1.out _).mono ?_; rintro e w1 ⟨rfl, hw⟩; rw [hw]; clear hw)
      | (with_reducible refine (H2.out _).mono ?_; rintro e w1 ⟨rfl, hw⟩; rw [hw]; clear hw)
      | (with_reducible refine (H3.out _).mono ?_; rintro e w1 ⟨rfl, hw⟩; rw [hw]; clear hw)
      | (with_reducible refine (H4.out _).mono ?_; rintro e w1 ⟨rfl, hw⟩; rw [hw]; clear hw)
      | (with_reducible refine (H5.out _).mono ?_; rintro e w1 ⟨rfl, hw⟩; rw [hw]; clear hw)
      | (with_reducible refine (H6.out _).mono ?_; rintro e w1 ⟨rfl, hw⟩; rw [hw]; clear hw)
      | (with_reducible refine (H7.out _).mono ?_; rintro e w1 ⟨rfl, hw⟩; rw [hw]; clear hw))
    go_ret
    exact ⟨rfl, (Below.refl _ _).alloc (Nat.le_refl _) _⟩
end code
end Go.Proofs.YtibnobdbmojjhaaGreatDoor.Bnd
