/-
  Layer 4 (bounds): the walk of BoundsTell: it returns true, and writes nothing that was there.
-/
import Derived.Test.YtijeeembfjladaaBounds
import Derived.Deep.CutBlock
import Derived.Deep.DeepCutAuto
namespace Go.Proofs.Ytijeeembfjladaa.Bnd
open Go.RowKit Base

/-- A block holds such a struct from a place on. -/
structure AtO (w : World) (g o : Nat) (x0 x1 x2 x3 x4 x5 x6 x7 : Int) (c d : Bool) : Prop where
  q0 : w.cell? ⟨g, o, none⟩ = some (.int .i64 x0)
  q1 : w.cell? ⟨g, o + 1, none⟩ = some (.int .i64 x1)
  q2 : w.cell? ⟨g, o + 2, none⟩ = some (.int .i64 x2)
  q3 : w.cell? ⟨g, o + 3, none⟩ = some (.int .i64 x3)
  q4 : w.cell? ⟨g, o + 4, none⟩ = some (.int .i64 x4)
  q5 : w.cell? ⟨g, o + 5, none⟩ = some (.int .i64 x5)
  q6 : w.cell? ⟨g, o + 6, none⟩ = some (.int .i64 x6)
  q7 : w.cell? ⟨g, o + 7, none⟩ = some (.int .i64 x7)
  q8 : w.cell? ⟨g, o + 8, none⟩ = some (.bool c)
  q9 : w.cell? ⟨g, o + 9, none⟩ = some (.bool d)
abbrev row (x0 x1 x2 x3 x4 x5 x6 x7 : Int) (c d : Bool) (y0 y1 y2 y3 y4 y5 y6 y7 : Int) (e f : Bool) (z0 z1 z2 z3 z4 z5 z6 z7 : Int) (i j : Bool) (s0 s1 s2 s3 s4 s5 s6 s7 : Int) (k l : Bool) : Array Value :=
  #[.int .i64 x0, .int .i64 x1, .int .i64 x2, .int .i64 x3, .int .i64 x4, .int .i64 x5, .int .i64 x6, .int .i64 x7, .bool c, .bool d, .int .i64 y0, .int .i64 y1, .int .i64 y2, .int .i64 y3, .int .i64 y4, .int .i64 y5, .int .i64 y6, .int .i64 y7, .bool e, .bool f,
    .int .i64 z0, .int .i64 z1, .int .i64 z2, .int .i64 z3, .int .i64 z4, .int .i64 z5, .int .i64 z6, .int .i64 z7, .bool i, .bool j, .int .i64 s0, .int .i64 s1, .int .i64 s2, .int .i64 s3, .int .i64 s4, .int .i64 s5, .int .i64 s6, .int .i64 s7, .bool k, .bool l]
section
variable {w w' : World} {g o : Nat} {x0 x1 x2 x3 x4 x5 x6 x7 : Int} {c d : Bool}
theorem AtO.below (h : AtO w g o x0 x1 x2 x3 x4 x5 x6 x7 c d) (hg : g < w.heap.size) (hb : Below w.heap.size w w') : AtO w' g o x0 x1 x2 x3 x4 x5 x6 x7 c d :=
  ⟨(hb.cell (p := ⟨g, o, none⟩) hg).trans h.q0, (hb.cell (p := ⟨g, o + 1, none⟩) hg).trans h.q1, (hb.cell (p := ⟨g, o + 2, none⟩) hg).trans h.q2, (hb.cell (p := ⟨g, o + 3, none⟩) hg).trans h.q3, (hb.cell (p := ⟨g, o + 4, none⟩) hg).trans h.q4,
   (hb.cell (p := ⟨g, o + 5, none⟩) hg).trans h.q5, (hb.cell (p := ⟨g, o + 6, none⟩) hg).trans h.q6, (hb.cell (p := ⟨g, o + 7, none⟩) hg).trans h.q7, (hb.cell (p := ⟨g, o + 8, none⟩) hg).trans h.q8, (hb.cell (p := ⟨g, o + 9, none⟩) hg).trans h.q9⟩
end
theorem AtO.row (w : World) (t : TypeId) (x0 x1 x2 x3 x4 x5 x6 x7 : Int) (c d : Bool) (y0 y1 y2 y3 y4 y5 y6 y7 : Int) (e f : Bool) (z0 z1 z2 z3 z4 z5 z6 z7 : Int) (i j : Bool) (s0 s1 s2 s3 s4 s5 s6 s7 : Int) (k l : Bool) : ∀ q, q < 4 → ∃ u0 u1 u2 u3 u4 u5 u6 u7 a b,
    AtO (w.alloc (.cells (Bnd.row x0 x1 x2 x3 x4 x5 x6 x7 c d y0 y1 y2 y3 y4 y5 y6 y7 e f z0 z1 z2 z3 z4 z5 z6 z7 i j s0 s1 s2 s3 s4 s5 s6 s7 k l) t)) w.heap.size (q * 10) u0 u1 u2 u3 u4 u5 u6 u7 a b := by
  have h : ∀ n v, (Bnd.row x0 x1 x2 x3 x4 x5 x6 x7 c d y0 y1 y2 y3 y4 y5 y6 y7 e f z0 z1 z2 z3 z4 z5 z6 z7 i j s0 s1 s2 s3 s4 s5 s6 s7 k l)[n]? = some v → (w.alloc (.cells (Bnd.row x0 x1 x2 x3 x4 x5 x6 x7 c d y0 y1 y2 y3 y4 y5 y6 y7 e f z0 z1 z2 z3 z4 z5 z6 z7 i j s0 s1 s2 s3 s4 s5 s6 s7 k l) t)).cell? ⟨w.heap.size, n, none⟩ = some v :=
    fun n v h => (cell_of_row (w.alloc _) w.heap.size n _ t (0, 0) (heap_alloc_new w _)).trans h
  intro q hq
  rcases (by omega : q = 0 ∨ q = 1 ∨ q = 2 ∨ q = 3) with rfl | rfl | rfl | rfl
  · exact ⟨_, _, _, _, _, _, _, _, _, _, h 0 _ rfl, h 1 _ rfl, h 2 _ rfl, h 3 _ rfl, h 4 _ rfl, h 5 _ rfl, h 6 _ rfl, h 7 _ rfl, h 8 _ rfl, h 9 _ rfl⟩
  · exact ⟨_, _, _, _, _, _, _, _, _, _, h 10 _ rfl, h 11 _ rfl, h 12 _ rfl, h 13 _ rfl, h 14 _ rfl, h 15 _ rfl, h 16 _ rfl, h 17 _ rfl, h 18 _ rfl, h 19 _ rfl⟩
  · exact ⟨_, _, _, _, _, _, _, _, _, _, h 20 _ rfl, h 21 _ rfl, h 22 _ rfl, h 23 _ rfl, h 24 _ rfl, h 25 _ rfl, h 26 _ rfl, h 27 _ rfl, h 28 _ rfl, h 29 _ rfl⟩
  · exact ⟨_, _, _, _, _, _, _, _, _, _, h 30 _ rfl, h 31 _ rfl, h 32 _ rfl, h 33 _ rfl, h 34 _ rfl, h 35 _ rfl, h 36 _ rfl, h 37 _ rfl, h 38 _ rfl, h 39 _ rfl⟩

section code
set_option maxHeartbeats 4000000
set_option maxRecDepth 10000
attribute [local go_sem] Base.some_undef
theorem boundsTell_any (x0 x1 x2 x3 x4 x5 x6 x7 : Int) (c d : Bool) (what v : Int) (w : World) (hw0 : 0 ≤ what) (hw1 : what ≤ 255) :
    Calls Try.prog 3 #[bnd x0 x1 x2 x3 x4 x5 x6 x7 c d, .int .u8 what, .int .i64 v] w fun e w' => e = .returned (.bool true) ∧ Below w.heap.size w w' := by
  go_enter Try.func3, Try.ntmps3
  go_upto_block 0 with (first
    | (go_at_call 5; with_reducible refine (known_any _).mono ?_; rintro e w1 ⟨rfl, hb⟩)
    | (go_at_call 6; with_reducible refine (rusual_any _).mono ?_; rintro e w2 ⟨rfl, hb2⟩))
  have hg0 : w.heap.size < w1.heap.size := Nat.lt_of_lt_of_le (by simp) hb.size
  have hA := (At.new w 23 x0 x1 x2 x3 x4 x5 x6 x7 c d).below (by simp) hb
  have hbw : Below w.heap.size w w1 := ((Below.refl _ _).alloc (Nat.le_refl _) _).trans (hb.mono (by simp))
  clear hb
  replace hA := hA.below hg0 hb2
  replace hg0 := Nat.lt_of_lt_of_le hg0 hb2.size
  replace hbw := Base.below_step hbw hb2
  clear hb2
  generalize hgw : w.heap.size = g at *
  have HG := Lib.hid hgw
  clear hgw
  go_cut [] from 16 to 45 (fun wx => ∃ y0 y1 y2 y3 y4 y5 y6 y7 : Int, At wx w2.heap.size y0 y1 y2 y3 y4 y5 y6 y7 true true ∧ w2.heap.size < wx.heap.size ∧ Below w2.heap.size w2 wx)
  case first =>
    go_wp2_with fail
    all_goals
      go_meet
      case rel => exact ⟨_, _, _, _, _, _, _, _, At.new w2 23 _ _ _ _ _ _ _ _ _ _, by simp, (Below.refl _ _).alloc (Nat.le_refl _) _⟩
  case rest =>
    obtain ⟨y0, y1, y2, y3, y4, y5, y6, y7, hY, hgY, hbY⟩ := hcut
    obtain ⟨q0, q1, q2, q3, q4, q5, q6, q7, q8, q9⟩ := hY
    rcases (by omega : what % 8 = 0 ∨ what % 8 = 3 ∨ (what % 8 ≠ 0 ∧ what % 8 ≠ 3)) with hr | hr | ⟨hr, hr'⟩
    all_goals go_upto_region 25 with fail
    generalize wrap64 (60 + bits BinOp.and IntKind.i64 v 7) = z0
    generalize y3 = z3
    rotate_left 1
    generalize y0 = z0
    generalize wrap64 (1048574 + bits BinOp.and IntKind.i64 v 3) = z3
    rotate_left 1
    generalize y0 = z0
    generalize y3 = z3
    clear hr'
    rotate_left 1
    all_goals
      clear hr
      have hY := (At.mk q0 q1 q2 q3 q4 q5 q6 q7 q8 q9)
      have hX := (hA.below hg0 hbY).below (Nat.lt_of_lt_of_le hg0 hbY.size) ((Below.refl _ _).alloc (Nat.le_refl _) (.cells #[.int .i64 z0, .int .i64 y1, .int .i64 y2, .int .i64 z3, .int .i64 y4, .int .i64 y5, .int .i64 y6, .int .i64 y7, .bool true, .bool true] 23))
      replace hY := hY.below hgY ((Below.refl _ _).alloc (Nat.le_refl _) (.cells #[.int .i64 z0, .int .i64 y1, .int .i64 y2, .int .i64 z3, .int .i64 y4, .int .i64 y5, .int .i64 y6, .int .i64 y7, .bool true, .bool true] 23))
      have hC := At.new wc 23 z0 y1 y2 z3 y4 y5 y6 y7 true true
      have hcw := hbw.trans (hbY.mono (Nat.le_of_lt hg0))
      replace hcw := hcw.alloc (Nat.le_of_lt (Nat.lt_of_lt_of_le hg0 hbY.size)) (.cells #[.int .i64 z0, .int .i64 y1, .int .i64 y2, .int .i64 z3, .int .i64 y4, .int .i64 y5, .int .i64 y6, .int .i64 y7, .bool true, .bool true] 23)
      have hgC : wc.heap.size < (wc.alloc (.cells #[.int .i64 z0, .int .i64 y1, .int .i64 y2, .int .i64 z3, .int .i64 y4, .int .i64 y5, .int .i64 y6, .int .i64 y7, .bool true, .bool true] 23)).heap.size := by simp
      have hgX : g < (wc.alloc (.cells #[.int .i64 z0, .int .i64 y1, .int .i64 y2, .int .i64 z3, .int .i64 y4, .int .i64 y5, .int .i64 y6, .int .i64 y7, .bool true, .bool true] 23)).heap.size := Nat.lt_trans (Nat.lt_of_lt_of_le hg0 hbY.size) hgC
      replace hgY : w2.heap.size < (wc.alloc (.cells #[.int .i64 z0, .int .i64 y1, .int .i64 y2, .int .i64 z3, .int .i64 y4, .int .i64 y5, .int .i64 y6, .int .i64 y7, .bool true, .bool true] 23)).heap.size := Nat.lt_trans hgY hgC
      clear q0 q1 q2 q3 q4 q5 q6 q7 q8 q9 hbY hbw hg0 hA
      generalize wc.alloc (.cells #[.int .i64 z0, .int .i64 y1, .int .i64 y2, .int .i64 z3, .int .i64 y4, .int .i64 y5, .int .i64 y6, .int .i64 y7, .bool true, .bool true] 23) = W at *
      generalize w2.heap.size = g7 at *
      generalize wc.heap.size = g8 at *
      refine Sched.region [(0, false), (1, false), (2, false), (6, false), (3, true), (4, true), (5, false)] (fun w' => Below W.heap.size W w') (by kernel_rfl) (by kernel_rfl) (fun _ _ d _ _ h => by cases d <;> exact h) (Base.below_drewN (Below.refl _ _) 1) ?_
      simp only [Sched.picked, List.filterMap_cons, List.filterMap_nil, List.getElem?_cons_zero, List.getElem?_cons_succ, Option.map_some]
      repeat (first
        | (refine Sched.move _ (by rfl) (by rfl) ?_; simp only [Act.put, Act.eval, List.setIfInBounds_toArray, List.set_cons_zero, List.set_cons_succ])
        | (refine Sched.quiet (by rfl) ?_ ?_ ?_; rotate_left 1; (· (intro w' hS; first | (obtain ⟨q0, q1, q2, q3, q4, q5, q6, q7, q8, q9⟩ := hX.below hgX hS; clear hS; go_simp; with_reducible rfl) | (obtain ⟨q0, q1, q2, q3, q4, q5, q6, q7, q8, q9⟩ := hY.below hgY hS; clear hS; go_simp; with_reducible rfl) | (obtain ⟨q0, q1, q2, q3, q4, q5, q6, q7, q8, q9⟩ := hC.below hgC hS; clear hS; go_simp; with_reducible rfl) | (go_simp; with_reducible rfl))); simp only [Act.put, List.setIfInBounds_toArray, List.set_cons_zero, List.set_cons_succ])
        | (refine Sched.change (by rfl) (fun K hK => ?_); go_simp
           first
             | (refine hK _ _ ?_ ?_; (exact hb.alloc hb.size _); clear hK K)
             | ((with_reducible refine (rwide_any _).mono ?_); rintro e w3 ⟨rfl, hb3⟩; have hb := Base.below_step (Base.below_drewN (Below.refl W.heap.size W) 1) hb3; dsimp only; refine hK _ _ hb ?_; clear hK K)))
      refine Sched.done ?_
      have hE : Hid (∀ q, q < 4 → ∃ u0 u1 u2 u3 u4 u5 u6 u7 a b, AtO (w3.alloc (.cells (row x0 x1 x2 x3 x4 x5 x6 x7 c d y0 y1 y2 y3 y4 y5 y6 y7 true true z0 y1 y2 z3 y4 y5 y6 y7 true true 4096 100 65536 1048576 256 100 16 1000 true true) 23)) w3.heap.size (q * 10) u0 u1 u2 u3 u4 u5 u6 u7 a b) := Lib.hid (AtO.row _ _ _ _ _ _ _ _ _ _ _ _ _ _ _ _ _ _ _ _ _ _ _ _ _ _ _ _ _ _ _ _ _ _ _ _ _ _ _ _ _ _)
      have hc4 : Below w.heap.size w (w3.alloc (.cells (row x0 x1 x2 x3 x4 x5 x6 x7 c d y0 y1 y2 y3 y4 y5 y6 y7 true true z0 y1 y2 z3 y4 y5 y6 y7 true true 4096 100 65536 1048576 256 100 16 1000 true true) 23)) := by
        obtain rfl := HG.out
        exact (Base.below_step hcw hb).alloc (Base.below_step hcw hb).size _
      have hg4 : w3.heap.size < (w3.alloc (.cells (row x0 x1 x2 x3 x4 x5 x6 x7 c d y0 y1 y2 y3 y4 y5 y6 y7 true true z0 y1 y2 z3 y4 y5 y6 y7 true true 4096 100 65536 1048576 256 100 16 1000 true true) 23)).heap.size := by simp
      unfold row at hE hc4 hg4
      generalize w3.alloc _ = V at *
      generalize w3.heap.size = gV at *
      have HC := Lib.hid hc4
      clear hX hY hC hcw hgC hgX hgY hb hb3 hc4
      go_wp2_with fail
      go_loopw [67] (fun i wq => ∃ q : Nat, q ≤ 4 ∧ i = .int .i64 q ∧ Hid (Below V.heap.size V wq)) (fun i _ => 4 - (intOf i).toNat)
      case atStart => exact ⟨0, Nat.zero_le _, rfl, Lib.hid (Below.refl _ _)⟩
      case round =>
        obtain ⟨q, hq, rfl, hbq⟩ := hrel
        rcases Nat.lt_or_ge q 4 with hlt | hge
        · have hq5 : (q : Int) < 4 := by omega
          obtain ⟨u0, u1, u2, u3, u4, u5, u6, u7, a, b, hU⟩ := hE.out q hlt
          replace hU := hU.below hg4 hbq.out
          obtain ⟨q0, q1, q2, q3, q4, q5, q6, q7, q8, q9⟩ := hU
          go_upto_region 28 with fail
          clear q0 q1 q2 q3 q4 q5 q6 q7 q8 q9
          have hU := At.new wr 23 u0 u1 u2 u3 u4 u5 u6 u7 a b
          have hgU : wr.heap.size < (wr.alloc (.cells #[.int .i64 u0, .int .i64 u1, .int .i64 u2, .int .i64 u3, .int .i64 u4, .int .i64 u5, .int .i64 u6, .int .i64 u7, .bool a, .bool b] 23)).heap.size := by simp
          have hcU := hbq.out.alloc hbq.out.size (.cells #[.int .i64 u0, .int .i64 u1, .int .i64 u2, .int .i64 u3, .int .i64 u4, .int .i64 u5, .int .i64 u6, .int .i64 u7, .bool a, .bool b] 23)
          clear hbq
          generalize wr.alloc (.cells #[.int .i64 u0, .int .i64 u1, .int .i64 u2, .int .i64 u3, .int .i64 u4, .int .i64 u5, .int .i64 u6, .int .i64 u7, .bool a, .bool b] 23) = U at *
          generalize wr.heap.size = gU at *
          have R1 := Lib.hid (right_any u0 u1 u2 u3 u4 u5 u6 u7 a b)
          have R2 := Lib.hid (rright_any u0 u1 u2 u3 u4 u5 u6 u7 a b)
          have R3 := Lib.hid (window_any u0 u1 u2 u3 u4 u5 u6 u7 a b)
          rw [show wrap64 (wrap64 (u0 + u2) + u3) = IntKind.i64.wrap (IntKind.i64.wrap (u0 + u2) + u3) from by rw [IntKind.wrap_i64, IntKind.wrap_i64]; unfold wrap64; omega] at R3
          generalize right u0 u1 u2 u3 u4 u5 u6 u7 = r at *
          have hb := Base.below_drewN (Below.refl U.heap.size U) 1
          refine Sched.region [(0, false), (2, false), (1, true), (3, true), (4, false), (5, false), (6, false), (7, true), (8, false), (9, false), (11, false), (12, false), (13, false), (14, false), (15, false), (16, false), (17, false), (18, false), (10, true), (19, false), (20, false), (21, false)] (fun w' => Below U.heap.size U w') (by kernel_rfl) (by kernel_rfl) (fun _ _ d _ _ h => by cases d <;> exact h) hb ?_
          simp only [Sched.picked, List.filterMap_cons, List.filterMap_nil, List.getElem?_cons_zero, List.getElem?_cons_succ, Option.map_some]
          cases r
          all_goals
            repeat (first
              | (refine Sched.skip rfl ?_; simp only [Act.put, List.setIfInBounds_toArray, List.set_cons_zero, List.set_cons_succ])
              | (refine Sched.move _ rfl rfl ?_; simp only [Act.put, Act.eval, Array.getD_eq_getD_getElem?, List.getElem?_toArray, List.getElem?_cons_zero, List.getElem?_cons_succ, Option.getD_some, List.setIfInBounds_toArray, List.set_cons_zero, List.set_cons_succ])
              | (refine Sched.quiet rfl ?_ ?_ ?_; rotate_left 1; (· (intro w' hS; obtain ⟨q0, q1, q2, q3, q4, q5, q6, q7, q8, q9⟩ := hU.below hgU hS; clear hS; go_simp; with_reducible rfl)); simp only [Act.put, List.setIfInBounds_toArray, List.set_cons_zero, List.set_cons_succ])
              | (refine Sched.change rfl (fun K hK => ?_); go_simp
                 first
                   | ((with_reducible refine (R1.out _).mono ?_); rintro e w5 ⟨rfl, hb5⟩; replace hb := Base.below_step hb hb5; dsimp only; refine hK _ _ hb ?_; clear hK K hb5)
                   | ((with_reducible refine (R2.out _).mono ?_); rintro e w6 ⟨rfl, hb5⟩; replace hb := Base.below_step hb hb5; dsimp only; refine hK _ _ hb ?_; clear hK K hb5)
                   | ((with_reducible refine (R3.out _).mono ?_); rintro e w7 ⟨rfl, hb5⟩; replace hb := Base.below_step hb hb5; dsimp only; refine hK _ _ hb ?_; clear hK K hb5)))
            refine Sched.done ?_
            go_wp2_with fail
            go_roundw
            case rel => exact ⟨q + 1, by omega, by go_num, Lib.hid (hcU.trans (hb.mono hcU.size))⟩
            case measure => simp [intOf]; omega
        · have hq5 : ¬ (q : Int) < 4 := by omega
          have hc := HC.out.trans (hbq.out.mono HC.out.size)
          go_wp2_with fail
          go_ret
          exact ⟨rfl, hc⟩
end code
end Go.Proofs.Ytijeeembfjladaa.Bnd
