/-
  Layer 13 (parser): contracts of the program's parser: New, Read. (Printed by tools/gen_pgnew.py.)
-/
import Derived.Test.YtibnobdbmojjhaaGreatDoorPgApi
namespace Go.Proofs.YtibnobdbmojjhaaGreatDoor.Pg
open Go.RowKit Base Txt Mem Par

theorem Keeps.step_low {L : List (Option Nat)} {w w' : World} {B : Nat} (h : Keeps L w w') (hB : B ≤ w.heap.size) (hL : ∀ k, some k ∈ L → B ≤ k) : Below B w w' := h.below hB hL
section code
set_option maxHeartbeats 4000000
set_option maxRecDepth 20000
attribute [local go_sem] Base.some_undef
variable {w : World} {B g q : Nat} {v f bd t o : Value} {p : Nat} {b : Bd} {s : T}
theorem enter_new (hp : p < 4294967296) (hrow : w.heap[g]? = some (.cells ([.int .i64 0, .int .i64 0, nil, .string E0, .string E0, .int .i64 0, .int .i64 0, .bool false, .int .i64 0, nil, .bool false, nil, .int .i64 0, .int .u32 (p : Int), .int .i64 b.x0, .int .i64 b.x1, .int .i64 b.x2, .int .i64 b.x3, .int .i64 b.x4, .int .i64 b.x5, .int .i64 b.x6, .int .i64 b.x7, .bool b.ch, .bool b.od, .int .i64 0, .pointer none, nil] : List Value).toArray 55 (0, 0))) (hB : B ≤ g) : Calls Tryz.prog 44 #[ptr g, .int .i64 1, .int .i64 b.x0] w fun r w' =>
    r = .returned (.tuple #[]) ∧ ∃ q1, PR w' B g q1 nil nil nil nil nil p b (T.new p b) ∧ Keeps [some g] w w' := by
  have hlt := Ln.row_lt hrow
  have HR1 := Lib.hid (row_setL hrow 24 (.int .i64 1))
  have HK1 := Lib.hid (Keeps.set (w := w) (L := [some g]) g 24 (.int .i64 1) (by simp))
  have HLT := Lib.hid (show g < (w.setCell ⟨g, 24, none⟩ (.int .i64 1)).heap.size by simpa using hlt)
  have HB := Lib.hid hB
  have c24 := row_cellL hrow (k := 24) rfl; have z24 := Ln.row_frozen hrow 24
  clear hrow hB hlt
  go_enter Tryz.func44, Tryz.ntmps44
  go_upto_region 1 with fail
  generalize w.setCell ⟨g, 24, none⟩ (.int .i64 1) = W1 at *
  clear c24 z24
  have c13 : W1.cell? ⟨g, 13, none⟩ = some (.int .u32 (p : Int)) := row_cellL HR1.out (k := 13) rfl
  have HNL := Lib.hid (line_new hp B b.x0 W1 (Nat.le_trans HB.out (Nat.le_of_lt HLT.out)))
  go_wp2_with
    (go_at_call 68; with_reducible refine HNL.out.mono ?_; rintro r w8 ⟨q1, rfl, hq1, hr1, hb8⟩
     have hrow8 := (hb8.block g HLT.out).trans HR1.out
     have d25 := row_cellL hrow8 (k := 25) rfl; have y25 := Ln.row_frozen hrow8 25
     have HR8 := Lib.hid hrow8; have HD8 := Lib.hid hr1; have HQ8 := Lib.hid hq1; have HB8 := Lib.hid hb8
     clear hb8 hr1 hq1 hrow8)
  go_end0
  have hgq : g ≠ q1 := by have := HLT.out; have := HQ8.out; omega
  have hk : Keeps [some g] w8 (w8.setCell ⟨g, 25, none⟩ (ptr q1)) := Keeps.set g 25 _ (by simp)
  refine ⟨rfl, q1, ⟨row_setL HR8.out 25 (ptr q1), ⟨⟨hk.row HD8.out.row (by simpa using fun e => hgq e.symm), hk.own HD8.out.own (by simp [Value.ownBlock]), HD8.out.ge, HD8.out.ne⟩, World.ownsRow_nil _ _ _ _, World.ownsRow_nil _ _ _ _, World.ownsRow_nil _ _ _ _, ⟨[], rfl, (by intro x hx; cases hx), World.ownsRow_nil _ _ _ _⟩, ?_, HB.out, by have := HLT.out; have := HB8.out.size; simp; omega⟩⟩, (HK1.out.trans (Keeps.of_below HB8.out) Of.refl).trans hk Of.refl⟩
  intro i j k hi hj
  rcases i with _ | _ | _ | _ | _ | _ | _ | i <;> rcases j with _ | _ | _ | _ | _ | _ | _ | j <;> simp [Value.ownBlock] at hi hj ⊢ <;> omega
theorem T.new_ok (p : Nat) (b : Bd) : (T.new p b).Ok :=
  ⟨Ln.M.new_ok _ _ _ (Ln.mid_le _), rfl, ⟨Nat.le_refl _, by show 1 ≤ 7; omega⟩, Nat.zero_le _, Nat.zero_le _, Nat.le_refl _, Nat.le_refl _, (by intro y hy; cases hy), (by intro y hy; cases hy), Nat.zero_le _, Nat.zero_le _, Nat.zero_le _, fun h => (by cases h), fun _ => rfl, Nat.zero_le _⟩
theorem Q.new_ok (p : Nat) (b : Bd) : (Q.new p b).Ok b := by
  unfold Q.new
  split
  · rename_i h
    simp only [Bool.and_eq_true] at h
    exact ⟨T.new_ok p b, h.1⟩
  · trivial
theorem dead_new {W : World} (hrow : W.heap[g]? = some (.cells ([.int .i64 20, .int .i64 0, nil, .string E0, .string E0, .int .i64 0, .int .i64 0, .bool false, .int .i64 0, nil, .bool false, nil, .int .i64 0, .int .u32 0, .int .i64 0, .int .i64 0, .int .i64 0, .int .i64 0, .int .i64 0, .int .i64 0, .int .i64 0, .int .i64 0, .bool false, .bool false, .int .i64 0, .pointer none, nil] : List Value).toArray 55 (0, 0))) (hB : B ≤ g) : At W B g p b [some g, none] (.dead 20 []) :=
  ⟨nil, rfl, ⟨hrow, ⟨[], rfl, (by intro x hx; cases hx), World.ownsRow_nil _ _ _ _⟩, by simp [Value.ownBlock], hB, Ln.row_lt hrow, by decide⟩⟩
theorem new_any (hp : p < 4294967296) (w : World) : Calls Tryz.prog 20 #[.int .u32 (p : Int), .agg #[.int .i64 b.x0, .int .i64 b.x1, .int .i64 b.x2, .int .i64 b.x3, .int .i64 b.x4, .int .i64 b.x5, .int .i64 b.x6, .int .i64 b.x7, .bool b.ch, .bool b.od]] w fun r w' =>
    ∃ g L', r = .returned (ptr g) ∧ w.heap.size ≤ g ∧ At w' w.heap.size g p b L' (Q.new p b) ∧ Below w.heap.size w w' := by
  have hqr := fun w => Qk.right_any p hp w
  have hbr := fun w => Bnd.right_any b.x0 b.x1 b.x2 b.x3 b.x4 b.x5 b.x6 b.x7 b.ch b.od w
  have HB0 := Lib.hid (((Below.refl _ _).alloc (Nat.le_refl _) (.cells #[.int .i64 b.x0, .int .i64 b.x1, .int .i64 b.x2, .int .i64 b.x3, .int .i64 b.x4, .int .i64 b.x5, .int .i64 b.x6, .int .i64 b.x7, .bool b.ch, .bool b.od] 29)) : Below w.heap.size w _)
  have HZ0 := Lib.hid (Rec.Bk.new w w.heap.size rfl 29 [.int .i64 b.x0, .int .i64 b.x1, .int .i64 b.x2, .int .i64 b.x3, .int .i64 b.x4, .int .i64 b.x5, .int .i64 b.x6, .int .i64 b.x7, .bool b.ch, .bool b.od])
  have HSZ := Lib.hid (show w.heap.size < (w.alloc (.cells #[.int .i64 b.x0, .int .i64 b.x1, .int .i64 b.x2, .int .i64 b.x3, .int .i64 b.x4, .int .i64 b.x5, .int .i64 b.x6, .int .i64 b.x7, .bool b.ch, .bool b.od] 29)).heap.size by simp)
  unfold Q.new
  by_cases hP : p < 1073741824
  · rw [decide_eq_true hP] at hqr ⊢
    rw [Bool.and_true]
    have HQR := Lib.hid hqr
    unfold Bd.right
    cases hb : Bnd.right b.x0 b.x1 b.x2 b.x3 b.x4 b.x5 b.x6 b.x7 with
    | true =>
      rw [hb] at hbr
      have HBR := Lib.hid hbr
      rw [if_pos rfl]
      clear hqr hbr hb hP
      go_enter Tryz.func20, Tryz.ntmps20
      go_upto_region 1 with fail
      generalize w.alloc (.cells #[.int .i64 b.x0, .int .i64 b.x1, .int .i64 b.x2, .int .i64 b.x3, .int .i64 b.x4, .int .i64 b.x5, .int .i64 b.x6, .int .i64 b.x7, .bool b.ch, .bool b.od] 29) = W0 at *
      have y0 := HZ0.out.c 0 _ rfl; have y1 := HZ0.out.c 1 _ rfl; have y2 := HZ0.out.c 2 _ rfl; have y3 := HZ0.out.c 3 _ rfl; have y4 := HZ0.out.c 4 _ rfl; have y5 := HZ0.out.c 5 _ rfl; have y6 := HZ0.out.c 6 _ rfl; have y7 := HZ0.out.c 7 _ rfl; have y8 := HZ0.out.c 8 _ rfl; have y9 := HZ0.out.c 9 _ rfl
      go_upto_region 4 with (first
        | (go_at_call 43; with_reducible refine (HBR.out _).mono ?_; rintro r w3 ⟨rfl, hb3⟩
           have HB3 := Lib.hid hb3; have HZ3 := Lib.hid (HZ0.out.below hb3)
           have x0 := HZ3.out.c 0 _ rfl; have x1 := HZ3.out.c 1 _ rfl; have x2 := HZ3.out.c 2 _ rfl; have x3 := HZ3.out.c 3 _ rfl; have x4 := HZ3.out.c 4 _ rfl; have x5 := HZ3.out.c 5 _ rfl; have x6 := HZ3.out.c 6 _ rfl; have x7 := HZ3.out.c 7 _ rfl; have x8 := HZ3.out.c 8 _ rfl; have x9 := HZ3.out.c 9 _ rfl
           clear hb3)
        | (go_at_call 42; with_reducible refine (HQR.out _).mono ?_; rintro r w2 ⟨rfl, hw⟩; rw [hw]; clear hw))
      have HB4 := Lib.hid (Base.below_step HB0.out HB3.out)
      have HR4 := Lib.hid (heap_alloc_new w3 (.cells ([.int .i64 0, .int .i64 0, nil, .string E0, .string E0, .int .i64 0, .int .i64 0, .bool false, .int .i64 0, nil, .bool false, nil, .int .i64 0, .int .u32 (p : Int), .int .i64 b.x0, .int .i64 b.x1, .int .i64 b.x2, .int .i64 b.x3, .int .i64 b.x4, .int .i64 b.x5, .int .i64 b.x6, .int .i64 b.x7, .bool b.ch, .bool b.od, .int .i64 0, .pointer none, nil] : List Value).toArray 55))
      have HG := Lib.hid (show w.heap.size ≤ w3.heap.size from Nat.le_trans (Nat.le_of_lt HSZ.out) HB3.out.size)
      have HBW := Lib.hid (HB4.out.alloc HG.out (.cells ([.int .i64 0, .int .i64 0, nil, .string E0, .string E0, .int .i64 0, .int .i64 0, .bool false, .int .i64 0, nil, .bool false, nil, .int .i64 0, .int .u32 (p : Int), .int .i64 b.x0, .int .i64 b.x1, .int .i64 b.x2, .int .i64 b.x3, .int .i64 b.x4, .int .i64 b.x5, .int .i64 b.x6, .int .i64 b.x7, .bool b.ch, .bool b.od, .int .i64 0, .pointer none, nil] : List Value).toArray 55))
      have HX4 := Lib.hid ((HZ3.out.alloc (.cells ([.int .i64 0, .int .i64 0, nil, .string E0, .string E0, .int .i64 0, .int .i64 0, .bool false, .int .i64 0, nil, .bool false, nil, .int .i64 0, .int .u32 (p : Int), .int .i64 b.x0, .int .i64 b.x1, .int .i64 b.x2, .int .i64 b.x3, .int .i64 b.x4, .int .i64 b.x5, .int .i64 b.x6, .int .i64 b.x7, .bool b.ch, .bool b.od, .int .i64 0, .pointer none, nil] : List Value).toArray 55)).c 0 _ rfl)
      have HE := Lib.hid (enter_new hp HR4.out HG.out)
      clear y0 y1 y2 y3 y4 y5 y6 y7 y8 y9 x0 x1 x2 x3 x4 x5 x6 x7 x8 x9 HR4
      have x0 := HX4.out
      go_wp2_with (go_at_call 44; with_reducible refine HE.out.mono ?_; rintro r w5 ⟨rfl, q1, hP, hK⟩)
      go_ret
      exact ⟨_, _, rfl, HG.out, ⟨_, _, _, _, _, _, rfl, hP⟩, HBW.out.trans (hK.below HBW.out.size (fun k hk => by rw [Option.some.inj (List.mem_singleton.1 hk)]; exact HG.out))⟩
    | false =>
      rw [hb] at hbr
      have HBR := Lib.hid hbr
      rw [if_neg (by decide)]
      clear hqr hbr hb hP
      go_enter Tryz.func20, Tryz.ntmps20
      go_upto_region 1 with fail
      generalize w.alloc (.cells #[.int .i64 b.x0, .int .i64 b.x1, .int .i64 b.x2, .int .i64 b.x3, .int .i64 b.x4, .int .i64 b.x5, .int .i64 b.x6, .int .i64 b.x7, .bool b.ch, .bool b.od] 29) = W0 at *
      have y0 := HZ0.out.c 0 _ rfl; have y1 := HZ0.out.c 1 _ rfl; have y2 := HZ0.out.c 2 _ rfl; have y3 := HZ0.out.c 3 _ rfl; have y4 := HZ0.out.c 4 _ rfl; have y5 := HZ0.out.c 5 _ rfl; have y6 := HZ0.out.c 6 _ rfl; have y7 := HZ0.out.c 7 _ rfl; have y8 := HZ0.out.c 8 _ rfl; have y9 := HZ0.out.c 9 _ rfl
      go_wp2_with (first
        | (go_at_call 43; with_reducible refine (HBR.out _).mono ?_; rintro r w3 ⟨rfl, hb3⟩
           have HB3 := Lib.hid hb3
           clear hb3)
        | (go_at_call 42; with_reducible refine (HQR.out _).mono ?_; rintro r w2 ⟨rfl, hw⟩; rw [hw]; clear hw))
      go_ret
      have hg := Nat.le_trans (Nat.le_of_lt HSZ.out) HB3.out.size
      exact ⟨_, _, rfl, hg, dead_new (heap_alloc_new w3 (.cells ([.int .i64 20, .int .i64 0, nil, .string E0, .string E0, .int .i64 0, .int .i64 0, .bool false, .int .i64 0, nil, .bool false, nil, .int .i64 0, .int .u32 0, .int .i64 0, .int .i64 0, .int .i64 0, .int .i64 0, .int .i64 0, .int .i64 0, .int .i64 0, .int .i64 0, .bool false, .bool false, .int .i64 0, .pointer none, nil] : List Value).toArray 55)) hg, (Base.below_step HB0.out HB3.out).alloc hg _⟩
  · rw [decide_eq_false hP] at hqr ⊢
    rw [Bool.and_false, if_neg (by decide)]
    have HQR := Lib.hid hqr
    clear hqr hbr hP
    go_enter Tryz.func20, Tryz.ntmps20
    go_upto_region 1 with fail
    generalize w.alloc (.cells #[.int .i64 b.x0, .int .i64 b.x1, .int .i64 b.x2, .int .i64 b.x3, .int .i64 b.x4, .int .i64 b.x5, .int .i64 b.x6, .int .i64 b.x7, .bool b.ch, .bool b.od] 29) = W0 at *
    go_wp2_with (go_at_call 42; with_reducible refine (HQR.out _).mono ?_; rintro r w2 ⟨rfl, hw⟩; rw [hw]; clear hw)
    go_ret
    have hg := Nat.le_of_lt HSZ.out
    exact ⟨_, _, rfl, hg, dead_new (heap_alloc_new W0 (.cells ([.int .i64 20, .int .i64 0, nil, .string E0, .string E0, .int .i64 0, .int .i64 0, .bool false, .int .i64 0, nil, .bool false, nil, .int .i64 0, .int .u32 0, .int .i64 0, .int .i64 0, .int .i64 0, .int .i64 0, .int .i64 0, .int .i64 0, .int .i64 0, .int .i64 0, .bool false, .bool false, .int .i64 0, .pointer none, nil] : List Value).toArray 55)) hg, HB0.out.alloc hg _⟩
end code
end Go.Proofs.YtibnobdbmojjhaaGreatDoor.Pg
