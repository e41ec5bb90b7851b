/-
  Layer 12 (record): the document's Same, Size, Closes, Expects: they answer the same as package record's. (Printed by tools/gen_recref.py.)
-/
import Derived.Test.YtechehbegiinpaaDoorRec
import Derived.Test.YtechehbegiinpaaDoorTextRef2
import Derived.Deep.CutBlock
import Derived.Deep.DeepCutAuto
namespace Go.Proofs.YtechehbegiinpaaDoor.Rec
open Go.RowKit Base Txt

section code
set_option maxHeartbeats 1000000
attribute [local go_sem] Base.some_undef
theorem rsame_any (V V' : Value) (r r' : R) (w : World) (h : Reads w V r) (h' : Reads w V' r') (hf : Fit r) (hf' : Fit r') : Calls Tryd.prog 11 #[V, V'] w fun e w' => e = .returned (.bool (same r r')) ∧ Below w.heap.size w w' := by
  obtain ⟨fa, fc, ba, bc, ta, tc, rfl, h1, h2, h3⟩ := h
  obtain ⟨fa', fc', ba', bc', ta', tc', rfl, h1', h2', h3'⟩ := h'
  have HF1 := Lib.hid (fun w2 (hb : Below w.heap.size w w2) => rfields_any fa _ fc _ fa' _ fc' _ w2 (h1.below hb) (h1'.below hb) (by have := hf.fs; omega) (by have := hf'.fs; omega))
  have HF2 := Lib.hid (fun w2 (hb : Below w.heap.size w w2) => rfields_any ta _ tc _ ta' _ tc' _ w2 (h3.below hb) (h3'.below hb) (by have := hf.ts; omega) (by have := hf'.ts; omega))
  have H2 := Lib.hid h2; have H2' := Lib.hid h2'
  clear h1 h2 h3 h1' h2' h3' hf hf'
  have HB0 := Lib.hid ((((Below.refl _ _).alloc (Nat.le_refl _) (.cells #[.string r.m, .string r.x, .int .i64 r.k, .slice fa r.fs.length fc, .bool r.ch, .slice ba r.body.length bc, .slice ta r.ts.length tc] 25)).alloc (by simp) (.cells #[.string r'.m, .string r'.x, .int .i64 r'.k, .slice fa' r'.fs.length fc', .bool r'.ch, .slice ba' r'.body.length bc', .slice ta' r'.ts.length tc'] 25)) : Below w.heap.size w _)
  have HA := Lib.hid ((Bk.new w w.heap.size rfl 25 [.string r.m, .string r.x, .int .i64 r.k, .slice fa r.fs.length fc, .bool r.ch, .slice ba r.body.length bc, .slice ta r.ts.length tc]).alloc (.cells #[.string r'.m, .string r'.x, .int .i64 r'.k, .slice fa' r'.fs.length fc', .bool r'.ch, .slice ba' r'.body.length bc', .slice ta' r'.ts.length tc'] 25))
  have HB := Lib.hid (Bk.new (w.alloc (.cells #[.string r.m, .string r.x, .int .i64 r.k, .slice fa r.fs.length fc, .bool r.ch, .slice ba r.body.length bc, .slice ta r.ts.length tc] 25)) (w.heap.size + 1) (by simp) 25 [.string r'.m, .string r'.x, .int .i64 r'.k, .slice fa' r'.fs.length fc', .bool r'.ch, .slice ba' r'.body.length bc', .slice ta' r'.ts.length tc'])
  by_cases g0 : r.m = r'.m
  rotate_left
  · have e : same r r' = false := by unfold same; simp [g0]
    rw [e]
    clear e
    have t0 : (r.m.toList == r'.m.toList) = false := by rw [ba_beq]; exact decide_eq_false g0
    have s0 : ¬ r.m.toList = r'.m.toList := fun h => g0 ((toList_iff _ _).1 h)
    clear g0
    go_enter Tryd.func11, Tryd.ntmps11
    go_upto_region 1 with fail
    generalize (w.alloc (.cells #[.string r.m, .string r.x, .int .i64 r.k, .slice fa r.fs.length fc, .bool r.ch, .slice ba r.body.length bc, .slice ta r.ts.length tc] 25)).alloc (.cells #[.string r'.m, .string r'.x, .int .i64 r'.k, .slice fa' r'.fs.length fc', .bool r'.ch, .slice ba' r'.body.length bc', .slice ta' r'.ts.length tc'] 25) = W at *
    have hA0 := HA.out; have hB0 := HB.out
    have q0 := hA0.c 0 _ rfl; have y0 := hB0.c 0 _ rfl; have q1 := hA0.c 1 _ rfl; have y1 := hB0.c 1 _ rfl; have q2 := hA0.c 2 _ rfl; have y2 := hB0.c 2 _ rfl; have q3 := hA0.c 3 _ rfl; have y3 := hB0.c 3 _ rfl; have q4 := hA0.c 4 _ rfl; have y4 := hB0.c 4 _ rfl; have q5 := hA0.c 5 _ rfl; have y5 := hB0.c 5 _ rfl; have q6 := hA0.c 6 _ rfl; have y6 := hB0.c 6 _ rfl
    clear hA0 hB0
    go_wp2
    go_ret
    exact ⟨rfl, HB0.out⟩
  by_cases g1 : r.x = r'.x
  rotate_left
  · have e : same r r' = false := by unfold same; simp [g0, g1]
    rw [e]
    clear e
    have t0 : (r.m.toList == r'.m.toList) = true := by rw [ba_beq]; exact decide_eq_true g0
    have s0 : r.m.toList = r'.m.toList := (toList_iff _ _).2 g0
    have t1 : (r.x.toList == r'.x.toList) = false := by rw [ba_beq]; exact decide_eq_false g1
    have s1 : ¬ r.x.toList = r'.x.toList := fun h => g1 ((toList_iff _ _).1 h)
    clear g0 g1
    go_enter Tryd.func11, Tryd.ntmps11
    go_upto_region 1 with fail
    generalize (w.alloc (.cells #[.string r.m, .string r.x, .int .i64 r.k, .slice fa r.fs.length fc, .bool r.ch, .slice ba r.body.length bc, .slice ta r.ts.length tc] 25)).alloc (.cells #[.string r'.m, .string r'.x, .int .i64 r'.k, .slice fa' r'.fs.length fc', .bool r'.ch, .slice ba' r'.body.length bc', .slice ta' r'.ts.length tc'] 25) = W at *
    have hA0 := HA.out; have hB0 := HB.out
    have q0 := hA0.c 0 _ rfl; have y0 := hB0.c 0 _ rfl; have q1 := hA0.c 1 _ rfl; have y1 := hB0.c 1 _ rfl; have q2 := hA0.c 2 _ rfl; have y2 := hB0.c 2 _ rfl; have q3 := hA0.c 3 _ rfl; have y3 := hB0.c 3 _ rfl; have q4 := hA0.c 4 _ rfl; have y4 := hB0.c 4 _ rfl; have q5 := hA0.c 5 _ rfl; have y5 := hB0.c 5 _ rfl; have q6 := hA0.c 6 _ rfl; have y6 := hB0.c 6 _ rfl
    clear hA0 hB0
    go_wp2
    go_ret
    exact ⟨rfl, HB0.out⟩
  by_cases g2 : r.k = r'.k
  rotate_left
  · have e : same r r' = false := by unfold same; simp [g0, g1, g2]
    rw [e]
    clear e
    have t0 : (r.m.toList == r'.m.toList) = true := by rw [ba_beq]; exact decide_eq_true g0
    have s0 : r.m.toList = r'.m.toList := (toList_iff _ _).2 g0
    have t1 : (r.x.toList == r'.x.toList) = true := by rw [ba_beq]; exact decide_eq_true g1
    have s1 : r.x.toList = r'.x.toList := (toList_iff _ _).2 g1
    have t2 : (r.k == r'.k) = false := beq_eq_false_iff_ne.2 g2
    clear g0 g1 g2
    go_enter Tryd.func11, Tryd.ntmps11
    go_upto_region 1 with fail
    generalize (w.alloc (.cells #[.string r.m, .string r.x, .int .i64 r.k, .slice fa r.fs.length fc, .bool r.ch, .slice ba r.body.length bc, .slice ta r.ts.length tc] 25)).alloc (.cells #[.string r'.m, .string r'.x, .int .i64 r'.k, .slice fa' r'.fs.length fc', .bool r'.ch, .slice ba' r'.body.length bc', .slice ta' r'.ts.length tc'] 25) = W at *
    have hA0 := HA.out; have hB0 := HB.out
    have q0 := hA0.c 0 _ rfl; have y0 := hB0.c 0 _ rfl; have q1 := hA0.c 1 _ rfl; have y1 := hB0.c 1 _ rfl; have q2 := hA0.c 2 _ rfl; have y2 := hB0.c 2 _ rfl; have q3 := hA0.c 3 _ rfl; have y3 := hB0.c 3 _ rfl; have q4 := hA0.c 4 _ rfl; have y4 := hB0.c 4 _ rfl; have q5 := hA0.c 5 _ rfl; have y5 := hB0.c 5 _ rfl; have q6 := hA0.c 6 _ rfl; have y6 := hB0.c 6 _ rfl
    clear hA0 hB0
    go_wp2
    go_ret
    exact ⟨rfl, HB0.out⟩
  by_cases g3 : r.fs = r'.fs
  rotate_left
  · have e : same r r' = false := by unfold same; simp [g0, g1, g2, g3]
    rw [e]
    clear e
    have t0 : (r.m.toList == r'.m.toList) = true := by rw [ba_beq]; exact decide_eq_true g0
    have s0 : r.m.toList = r'.m.toList := (toList_iff _ _).2 g0
    have t1 : (r.x.toList == r'.x.toList) = true := by rw [ba_beq]; exact decide_eq_true g1
    have s1 : r.x.toList = r'.x.toList := (toList_iff _ _).2 g1
    have t2 : (r.k == r'.k) = true := beq_iff_eq.2 g2
    rw [decide_eq_false g3] at HF1
    clear g0 g1 g2 g3
    go_enter Tryd.func11, Tryd.ntmps11
    go_upto_region 1 with fail
    generalize (w.alloc (.cells #[.string r.m, .string r.x, .int .i64 r.k, .slice fa r.fs.length fc, .bool r.ch, .slice ba r.body.length bc, .slice ta r.ts.length tc] 25)).alloc (.cells #[.string r'.m, .string r'.x, .int .i64 r'.k, .slice fa' r'.fs.length fc', .bool r'.ch, .slice ba' r'.body.length bc', .slice ta' r'.ts.length tc'] 25) = W at *
    have hA0 := HA.out; have hB0 := HB.out
    have q0 := hA0.c 0 _ rfl; have y0 := hB0.c 0 _ rfl; have q1 := hA0.c 1 _ rfl; have y1 := hB0.c 1 _ rfl; have q2 := hA0.c 2 _ rfl; have y2 := hB0.c 2 _ rfl; have q3 := hA0.c 3 _ rfl; have y3 := hB0.c 3 _ rfl; have q4 := hA0.c 4 _ rfl; have y4 := hB0.c 4 _ rfl; have q5 := hA0.c 5 _ rfl; have y5 := hB0.c 5 _ rfl; have q6 := hA0.c 6 _ rfl; have y6 := hB0.c 6 _ rfl
    clear hA0 hB0
    go_wp2_with (go_at_call 27; with_reducible refine (HF1.out _ HB0.out).mono ?_; rintro e w1 ⟨rfl, n1, hw1⟩
                 have hb1 : Below W.heap.size W w1 := by rw [hw1]; exact Base.below_drewN (Below.refl _ _) n1
                 have HB1 := Lib.hid (Base.below_step HB0.out hb1); have hA1 := HA.out.below hb1; have hB1 := HB.out.below hb1; have q3 := hA1.c 3 _ rfl; have y3 := hB1.c 3 _ rfl; have q4 := hA1.c 4 _ rfl; have y4 := hB1.c 4 _ rfl; have q5 := hA1.c 5 _ rfl; have y5 := hB1.c 5 _ rfl; have q6 := hA1.c 6 _ rfl; have y6 := hB1.c 6 _ rfl; have cv := conv_str w1 _ _ bc _ (H2.out.below HB1.out); have cv' := conv_str w1 _ _ bc' _ (H2'.out.below HB1.out); clear hA1 hB1 hb1 hw1)
    go_ret
    exact ⟨rfl, HB1.out⟩
  by_cases g4 : r.ch = r'.ch
  rotate_left
  · have e : same r r' = false := by unfold same; simp [g0, g1, g2, g3, g4]
    rw [e]
    clear e
    have t0 : (r.m.toList == r'.m.toList) = true := by rw [ba_beq]; exact decide_eq_true g0
    have s0 : r.m.toList = r'.m.toList := (toList_iff _ _).2 g0
    have t1 : (r.x.toList == r'.x.toList) = true := by rw [ba_beq]; exact decide_eq_true g1
    have s1 : r.x.toList = r'.x.toList := (toList_iff _ _).2 g1
    have t2 : (r.k == r'.k) = true := beq_iff_eq.2 g2
    rw [decide_eq_true g3] at HF1
    have t4 : (r.ch == r'.ch) = false := beq_eq_false_iff_ne.2 g4
    clear g0 g1 g2 g3 g4
    go_enter Tryd.func11, Tryd.ntmps11
    go_upto_region 1 with fail
    generalize (w.alloc (.cells #[.string r.m, .string r.x, .int .i64 r.k, .slice fa r.fs.length fc, .bool r.ch, .slice ba r.body.length bc, .slice ta r.ts.length tc] 25)).alloc (.cells #[.string r'.m, .string r'.x, .int .i64 r'.k, .slice fa' r'.fs.length fc', .bool r'.ch, .slice ba' r'.body.length bc', .slice ta' r'.ts.length tc'] 25) = W at *
    have hA0 := HA.out; have hB0 := HB.out
    have q0 := hA0.c 0 _ rfl; have y0 := hB0.c 0 _ rfl; have q1 := hA0.c 1 _ rfl; have y1 := hB0.c 1 _ rfl; have q2 := hA0.c 2 _ rfl; have y2 := hB0.c 2 _ rfl; have q3 := hA0.c 3 _ rfl; have y3 := hB0.c 3 _ rfl; have q4 := hA0.c 4 _ rfl; have y4 := hB0.c 4 _ rfl; have q5 := hA0.c 5 _ rfl; have y5 := hB0.c 5 _ rfl; have q6 := hA0.c 6 _ rfl; have y6 := hB0.c 6 _ rfl
    clear hA0 hB0
    go_wp2_with (go_at_call 27; with_reducible refine (HF1.out _ HB0.out).mono ?_; rintro e w1 ⟨rfl, n1, hw1⟩
                 have hb1 : Below W.heap.size W w1 := by rw [hw1]; exact Base.below_drewN (Below.refl _ _) n1
                 have HB1 := Lib.hid (Base.below_step HB0.out hb1); have hA1 := HA.out.below hb1; have hB1 := HB.out.below hb1; have q3 := hA1.c 3 _ rfl; have y3 := hB1.c 3 _ rfl; have q4 := hA1.c 4 _ rfl; have y4 := hB1.c 4 _ rfl; have q5 := hA1.c 5 _ rfl; have y5 := hB1.c 5 _ rfl; have q6 := hA1.c 6 _ rfl; have y6 := hB1.c 6 _ rfl; have cv := conv_str w1 _ _ bc _ (H2.out.below HB1.out); have cv' := conv_str w1 _ _ bc' _ (H2'.out.below HB1.out); clear hA1 hB1 hb1 hw1)
    go_ret
    exact ⟨rfl, HB1.out⟩
  by_cases g5 : r.body = r'.body
  rotate_left
  · have e : same r r' = false := by unfold same; simp [g0, g1, g2, g3, g4, g5]
    rw [e]
    clear e
    have t0 : (r.m.toList == r'.m.toList) = true := by rw [ba_beq]; exact decide_eq_true g0
    have s0 : r.m.toList = r'.m.toList := (toList_iff _ _).2 g0
    have t1 : (r.x.toList == r'.x.toList) = true := by rw [ba_beq]; exact decide_eq_true g1
    have s1 : r.x.toList = r'.x.toList := (toList_iff _ _).2 g1
    have t2 : (r.k == r'.k) = true := beq_iff_eq.2 g2
    rw [decide_eq_true g3] at HF1
    have t4 : (r.ch == r'.ch) = true := beq_iff_eq.2 g4
    have t5 : ((Txt.ba r.body).toList == (Txt.ba r'.body).toList) = false := by rw [ba_beq]; exact decide_eq_false (fun h => g5 (ba_list_inj.1 h))
    have s5 : ¬ (Txt.ba r.body).toList = (Txt.ba r'.body).toList := fun h => g5 (ba_list_inj.1 ((toList_iff _ _).1 h))
    clear g0 g1 g2 g3 g4 g5
    go_enter Tryd.func11, Tryd.ntmps11
    go_upto_region 1 with fail
    generalize (w.alloc (.cells #[.string r.m, .string r.x, .int .i64 r.k, .slice fa r.fs.length fc, .bool r.ch, .slice ba r.body.length bc, .slice ta r.ts.length tc] 25)).alloc (.cells #[.string r'.m, .string r'.x, .int .i64 r'.k, .slice fa' r'.fs.length fc', .bool r'.ch, .slice ba' r'.body.length bc', .slice ta' r'.ts.length tc'] 25) = W at *
    have hA0 := HA.out; have hB0 := HB.out
    have q0 := hA0.c 0 _ rfl; have y0 := hB0.c 0 _ rfl; have q1 := hA0.c 1 _ rfl; have y1 := hB0.c 1 _ rfl; have q2 := hA0.c 2 _ rfl; have y2 := hB0.c 2 _ rfl; have q3 := hA0.c 3 _ rfl; have y3 := hB0.c 3 _ rfl; have q4 := hA0.c 4 _ rfl; have y4 := hB0.c 4 _ rfl; have q5 := hA0.c 5 _ rfl; have y5 := hB0.c 5 _ rfl; have q6 := hA0.c 6 _ rfl; have y6 := hB0.c 6 _ rfl
    clear hA0 hB0
    go_wp2_with (go_at_call 27; with_reducible refine (HF1.out _ HB0.out).mono ?_; rintro e w1 ⟨rfl, n1, hw1⟩
                 have hb1 : Below W.heap.size W w1 := by rw [hw1]; exact Base.below_drewN (Below.refl _ _) n1
                 have HB1 := Lib.hid (Base.below_step HB0.out hb1); have hA1 := HA.out.below hb1; have hB1 := HB.out.below hb1; have q3 := hA1.c 3 _ rfl; have y3 := hB1.c 3 _ rfl; have q4 := hA1.c 4 _ rfl; have y4 := hB1.c 4 _ rfl; have q5 := hA1.c 5 _ rfl; have y5 := hB1.c 5 _ rfl; have q6 := hA1.c 6 _ rfl; have y6 := hB1.c 6 _ rfl; have cv := conv_str w1 _ _ bc _ (H2.out.below HB1.out); have cv' := conv_str w1 _ _ bc' _ (H2'.out.below HB1.out); clear hA1 hB1 hb1 hw1)
    go_ret
    exact ⟨rfl, HB1.out⟩
  by_cases g6 : r.ts = r'.ts
  rotate_left
  · have e : same r r' = false := by unfold same; simp [g0, g1, g2, g3, g4, g5, g6]
    rw [e]
    clear e
    have t0 : (r.m.toList == r'.m.toList) = true := by rw [ba_beq]; exact decide_eq_true g0
    have s0 : r.m.toList = r'.m.toList := (toList_iff _ _).2 g0
    have t1 : (r.x.toList == r'.x.toList) = true := by rw [ba_beq]; exact decide_eq_true g1
    have s1 : r.x.toList = r'.x.toList := (toList_iff _ _).2 g1
    have t2 : (r.k == r'.k) = true := beq_iff_eq.2 g2
    rw [decide_eq_true g3] at HF1
    have t4 : (r.ch == r'.ch) = true := beq_iff_eq.2 g4
    have t5 : ((Txt.ba r.body).toList == (Txt.ba r'.body).toList) = true := by rw [ba_beq]; exact decide_eq_true (by rw [g5])
    have s5 : (Txt.ba r.body).toList = (Txt.ba r'.body).toList := (toList_iff _ _).2 (by rw [g5])
    rw [decide_eq_false g6] at HF2
    clear g0 g1 g2 g3 g4 g5 g6
    go_enter Tryd.func11, Tryd.ntmps11
    go_upto_region 1 with fail
    generalize (w.alloc (.cells #[.string r.m, .string r.x, .int .i64 r.k, .slice fa r.fs.length fc, .bool r.ch, .slice ba r.body.length bc, .slice ta r.ts.length tc] 25)).alloc (.cells #[.string r'.m, .string r'.x, .int .i64 r'.k, .slice fa' r'.fs.length fc', .bool r'.ch, .slice ba' r'.body.length bc', .slice ta' r'.ts.length tc'] 25) = W at *
    have hA0 := HA.out; have hB0 := HB.out
    have q0 := hA0.c 0 _ rfl; have y0 := hB0.c 0 _ rfl; have q1 := hA0.c 1 _ rfl; have y1 := hB0.c 1 _ rfl; have q2 := hA0.c 2 _ rfl; have y2 := hB0.c 2 _ rfl; have q3 := hA0.c 3 _ rfl; have y3 := hB0.c 3 _ rfl; have q4 := hA0.c 4 _ rfl; have y4 := hB0.c 4 _ rfl; have q5 := hA0.c 5 _ rfl; have y5 := hB0.c 5 _ rfl; have q6 := hA0.c 6 _ rfl; have y6 := hB0.c 6 _ rfl
    clear hA0 hB0
    go_wp2_with (first
      | (go_at_call 27; with_reducible refine (HF2.out _ HB1.out).mono ?_; rintro e w2 ⟨rfl, n2, hw2⟩
         have hb2 : Below w1.heap.size w1 w2 := by rw [hw2]; exact Base.below_drewN (Below.refl _ _) n2
         have HB2 := Lib.hid (Base.below_step HB1.out hb2); clear hb2 hw2)
      | (go_at_call 27; with_reducible refine (HF1.out _ HB0.out).mono ?_; rintro e w1 ⟨rfl, n1, hw1⟩
         have hb1 : Below W.heap.size W w1 := by rw [hw1]; exact Base.below_drewN (Below.refl _ _) n1
         have HB1 := Lib.hid (Base.below_step HB0.out hb1); have hA1 := HA.out.below hb1; have hB1 := HB.out.below hb1; have q3 := hA1.c 3 _ rfl; have y3 := hB1.c 3 _ rfl; have q4 := hA1.c 4 _ rfl; have y4 := hB1.c 4 _ rfl; have q5 := hA1.c 5 _ rfl; have y5 := hB1.c 5 _ rfl; have q6 := hA1.c 6 _ rfl; have y6 := hB1.c 6 _ rfl; have cv := conv_str w1 _ _ bc _ (H2.out.below HB1.out); have cv' := conv_str w1 _ _ bc' _ (H2'.out.below HB1.out); clear hA1 hB1 hb1 hw1))
    go_ret
    exact ⟨rfl, HB2.out⟩
  have e : same r r' = true := by unfold same; simp [g0, g1, g2, g3, g4, g5, g6]
  rw [e]
  clear e
  have t0 : (r.m.toList == r'.m.toList) = true := by rw [ba_beq]; exact decide_eq_true g0
  have s0 : r.m.toList = r'.m.toList := (toList_iff _ _).2 g0
  have t1 : (r.x.toList == r'.x.toList) = true := by rw [ba_beq]; exact decide_eq_true g1
  have s1 : r.x.toList = r'.x.toList := (toList_iff _ _).2 g1
  have t2 : (r.k == r'.k) = true := beq_iff_eq.2 g2
  rw [decide_eq_true g3] at HF1
  have t4 : (r.ch == r'.ch) = true := beq_iff_eq.2 g4
  have t5 : ((Txt.ba r.body).toList == (Txt.ba r'.body).toList) = true := by rw [ba_beq]; exact decide_eq_true (by rw [g5])
  have s5 : (Txt.ba r.body).toList = (Txt.ba r'.body).toList := (toList_iff _ _).2 (by rw [g5])
  rw [decide_eq_true g6] at HF2
  clear g0 g1 g2 g3 g4 g5 g6
  go_enter Tryd.func11, Tryd.ntmps11
  go_upto_region 1 with fail
  generalize (w.alloc (.cells #[.string r.m, .string r.x, .int .i64 r.k, .slice fa r.fs.length fc, .bool r.ch, .slice ba r.body.length bc, .slice ta r.ts.length tc] 25)).alloc (.cells #[.string r'.m, .string r'.x, .int .i64 r'.k, .slice fa' r'.fs.length fc', .bool r'.ch, .slice ba' r'.body.length bc', .slice ta' r'.ts.length tc'] 25) = W at *
  have hA0 := HA.out; have hB0 := HB.out
  have q0 := hA0.c 0 _ rfl; have y0 := hB0.c 0 _ rfl; have q1 := hA0.c 1 _ rfl; have y1 := hB0.c 1 _ rfl; have q2 := hA0.c 2 _ rfl; have y2 := hB0.c 2 _ rfl; have q3 := hA0.c 3 _ rfl; have y3 := hB0.c 3 _ rfl; have q4 := hA0.c 4 _ rfl; have y4 := hB0.c 4 _ rfl; have q5 := hA0.c 5 _ rfl; have y5 := hB0.c 5 _ rfl; have q6 := hA0.c 6 _ rfl; have y6 := hB0.c 6 _ rfl
  clear hA0 hB0
  go_wp2_with (first
    | (go_at_call 27; with_reducible refine (HF2.out _ HB1.out).mono ?_; rintro e w2 ⟨rfl, n2, hw2⟩
       have hb2 : Below w1.heap.size w1 w2 := by rw [hw2]; exact Base.below_drewN (Below.refl _ _) n2
       have HB2 := Lib.hid (Base.below_step HB1.out hb2); clear hb2 hw2)
    | (go_at_call 27; with_reducible refine (HF1.out _ HB0.out).mono ?_; rintro e w1 ⟨rfl, n1, hw1⟩
       have hb1 : Below W.heap.size W w1 := by rw [hw1]; exact Base.below_drewN (Below.refl _ _) n1
       have HB1 := Lib.hid (Base.below_step HB0.out hb1); have hA1 := HA.out.below hb1; have hB1 := HB.out.below hb1; have q3 := hA1.c 3 _ rfl; have y3 := hB1.c 3 _ rfl; have q4 := hA1.c 4 _ rfl; have y4 := hB1.c 4 _ rfl; have q5 := hA1.c 5 _ rfl; have y5 := hB1.c 5 _ rfl; have q6 := hA1.c 6 _ rfl; have y6 := hB1.c 6 _ rfl; have cv := conv_str w1 _ _ bc _ (H2.out.below HB1.out); have cv' := conv_str w1 _ _ bc' _ (H2'.out.below HB1.out); clear hA1 hB1 hb1 hw1))
  go_ret
  exact ⟨rfl, HB2.out⟩
theorem rweigh_any (a : Option Addr) (n cap : Nat) (fs : List Fld) (w : World) (hv : Flds w a n fs) (hn : n ≤ 10000) (hz : ∀ f ∈ fs, f.1.size ≤ 10000 ∧ f.2.size ≤ 10000) :
    Calls Tryd.prog 29 #[.slice a n cap] w fun e w' => e = .returned (.int .i64 (weigh fs : Nat)) ∧ Below w.heap.size w w' := by
  have HV := Lib.hid hv
  have HL := Lib.hid hv.1
  have HZ := Lib.hid hz
  have HM := Lib.hid (weigh_le fs 10000 hz)
  clear hv hz
  go_enter Tryd.func29, Tryd.ntmps29
  go_wp2
  go_loopw [3, 4] (fun v i wr => ∃ k : Nat, k ≤ n ∧ i = .int .i64 k ∧ v = .int .i64 ((weigh (fs.take k) : Nat) : Int) ∧ Hid (Below w.heap.size w wr)) (fun _ i _ => n - (intOf i).toNat)
  case atStart => exact ⟨0, Nat.zero_le _, rfl, rfl, Lib.hid (Below.refl _ _)⟩
  case round =>
    obtain ⟨k, hk, rfl, rfl, hbr⟩ := hrel
    rcases Nat.lt_or_ge k n with hlt | hge
    · obtain ⟨bl, off, rfl, hbl, hc⟩ := (HV.out.below hbr.out).2 (by omega)
      obtain ⟨hc0, hc1⟩ := hc k hlt
      have hkl : k < fs.length := by rw [HL.out]; exact hlt
      have hin : fs[k]?.getD dflt ∈ fs := by rw [List.getElem?_eq_getElem hkl]; exact List.getElem_mem hkl
      obtain ⟨y0, y1⟩ := HZ.out _ hin
      have hsn := weigh_snoc fs k hkl
      have hle := weigh_take_le fs k
      have hm := HM.out
      rw [HL.out] at hm
      clear hc hin hkl
      generalize fs[k]?.getD dflt = f at *
      obtain ⟨f0, f1⟩ := f
      simp only at hc0 hc1 y0 y1 hsn
      generalize weigh (fs.take k) = S at *
      have i1 : (k : Int) < (n : Int) := by omega
      have Y := Lib.hid (show S + (f0.size + f1.size) ≤ 1000000000 by omega)
      have H1 : Hid ((((S + (f0.size + f1.size)) : Nat) : Int) = ((weigh (fs.take (k + 1)) : Nat) : Int)) := Lib.hid (by omega)
      clear hsn hle hm y0 y1
      go_wp2_with fail
      refine Each.region 15 [11, 12, 13, 14, 15, 16, 17, 18, 19, 20, 21, 22, 23, 24, 25]
          [fun v _ => v = .int .i64 ((S : Nat) : Int),
            fun v _ => v = .slice (some ⟨bl, off, none⟩) n cap,
            fun v _ => v = .int .i64 ((k : Nat) : Int),
            fun v _ => v = .pointer (some ⟨bl, off + k * 2, none⟩),
            fun v _ => v = .pointer (some ⟨bl, off + k * 2, none⟩),
            fun v _ => v = .string f0,
            fun v _ => v = .int .i64 ((f0.size : Nat) : Int),
            fun v _ => v = .slice (some ⟨bl, off, none⟩) n cap,
            fun v _ => v = .int .i64 ((k : Nat) : Int),
            fun v _ => v = .pointer (some ⟨bl, off + k * 2, none⟩),
            fun v _ => v = .pointer (some ⟨bl, off + k * 2 + 1, none⟩),
            fun v _ => v = .string f1,
            fun v _ => v = .int .i64 ((f1.size : Nat) : Int),
            fun v _ => v = .int .i64 (((f0.size + f1.size) : Nat) : Int),
            fun v _ => v = .int .i64 (((S + (f0.size + f1.size)) : Nat) : Int)]
          (.quiet 15 .done) (by kernel_rfl) (by kernel_rfl) (by kernel_rfl) (by kernel_rfl) (fun _ _ d _ _ h => by cases d <;> exact h) (by rfl) (by rfl)
          ⟨Each.Lasts.eq _, Each.Lasts.eq _, Each.Lasts.eq _, Each.Lasts.eq _, Each.Lasts.eq _, Each.Lasts.eq _, Each.Lasts.eq _, Each.Lasts.eq _, Each.Lasts.eq _, Each.Lasts.eq _, Each.Lasts.eq _, Each.Lasts.eq _, Each.Lasts.eq _, Each.Lasts.eq _, Each.Lasts.eq _, trivial⟩ ?_ ?_
      · refine ⟨?_, ?_, ?_, ?_, ?_, ?_, ?_, ?_, ?_, ?_, ?_, ?_, ?_, ?_, ?_, trivial⟩
        · refine Each.fine rfl (fun ev w1 hR hb hh => ?_)
          clear hh
          have e3 := hR.old 3 rfl
          simp only [Array.getD_eq_getD_getElem?, List.getElem?_toArray, List.getElem?_cons_succ, List.getElem?_cons_zero, Option.getD_some] at e3
          refine Each.Goes.same ?_
          go_simp
          try with_reducible rfl
        · refine Each.fine rfl (fun ev w1 hR hb hh => ?_)
          clear hh
          have e0 := hR.old 0 rfl
          simp only [Array.getD_eq_getD_getElem?, List.getElem?_toArray, List.getElem?_cons_zero, Option.getD_some] at e0
          refine Each.Goes.same ?_
          go_simp
          try with_reducible rfl
        · refine Each.fine rfl (fun ev w1 hR hb hh => ?_)
          clear hh
          have e4 := hR.old 4 rfl
          simp only [Array.getD_eq_getD_getElem?, List.getElem?_toArray, List.getElem?_cons_succ, List.getElem?_cons_zero, Option.getD_some] at e4
          refine Each.Goes.same ?_
          go_simp
          try with_reducible rfl
        · refine Each.fine rfl (fun ev w1 hR hb hh => ?_)
          have e12 : (ev (.tmp 12) = .slice (some ⟨bl, off, none⟩) n cap) := hh.at 0
          have e13 : (ev (.tmp 13) = .int .i64 ((k : Nat) : Int)) := hh.at 1
          clear hh
          refine Each.Goes.same ?_
          go_simp
          try with_reducible rfl
        · refine Each.fine rfl (fun ev w1 hR hb hh => ?_)
          have e14 : (ev (.tmp 14) = .pointer (some ⟨bl, off + k * 2, none⟩)) := hh.at 0
          clear hh
          refine Each.Goes.same ?_
          go_simp
          try with_reducible rfl
        · refine Each.fine rfl (fun ev w1 hR hb hh => ?_)
          have e15 : (ev (.tmp 15) = .pointer (some ⟨bl, off + k * 2, none⟩)) := hh.at 0
          clear hh
          have q0 := (hb.cell (p := ⟨bl, off + k * 2, none⟩) hbl).trans hc0
          refine Each.Goes.same ?_
          go_simp
          try with_reducible rfl
        · refine Each.fine rfl (fun ev w1 hR hb hh => ?_)
          have e16 : (ev (.tmp 16) = .string f0) := hh.at 0
          clear hh
          refine Each.Goes.same ?_
          go_simp
          try with_reducible rfl
        · refine Each.fine rfl (fun ev w1 hR hb hh => ?_)
          clear hh
          have e0 := hR.old 0 rfl
          simp only [Array.getD_eq_getD_getElem?, List.getElem?_toArray, List.getElem?_cons_zero, Option.getD_some] at e0
          refine Each.Goes.same ?_
          go_simp
          try with_reducible rfl
        · refine Each.fine rfl (fun ev w1 hR hb hh => ?_)
          clear hh
          have e4 := hR.old 4 rfl
          simp only [Array.getD_eq_getD_getElem?, List.getElem?_toArray, List.getElem?_cons_succ, List.getElem?_cons_zero, Option.getD_some] at e4
          refine Each.Goes.same ?_
          go_simp
          try with_reducible rfl
        · refine Each.fine rfl (fun ev w1 hR hb hh => ?_)
          have e18 : (ev (.tmp 18) = .slice (some ⟨bl, off, none⟩) n cap) := hh.at 0
          have e19 : (ev (.tmp 19) = .int .i64 ((k : Nat) : Int)) := hh.at 1
          clear hh
          refine Each.Goes.same ?_
          go_simp
          try with_reducible rfl
        · refine Each.fine rfl (fun ev w1 hR hb hh => ?_)
          have e20 : (ev (.tmp 20) = .pointer (some ⟨bl, off + k * 2, none⟩)) := hh.at 0
          clear hh
          refine Each.Goes.same ?_
          go_simp
          try with_reducible rfl
        · refine Each.fine rfl (fun ev w1 hR hb hh => ?_)
          have e21 : (ev (.tmp 21) = .pointer (some ⟨bl, off + k * 2 + 1, none⟩)) := hh.at 0
          clear hh
          have q1 := (hb.cell (p := ⟨bl, off + k * 2 + 1, none⟩) hbl).trans hc1
          refine Each.Goes.same ?_
          go_simp
          try with_reducible rfl
        · refine Each.fine rfl (fun ev w1 hR hb hh => ?_)
          have e22 : (ev (.tmp 22) = .string f1) := hh.at 0
          clear hh
          refine Each.Goes.same ?_
          go_simp
          try with_reducible rfl
        · refine Each.fine rfl (fun ev w1 hR hb hh => ?_)
          have e17 : (ev (.tmp 17) = .int .i64 ((f0.size : Nat) : Int)) := hh.at 0
          have e23 : (ev (.tmp 23) = .int .i64 ((f1.size : Nat) : Int)) := hh.at 1
          clear hh
          have b1 := Y.out
          refine Each.Goes.same ?_
          go_simp
          first | done | with_reducible rfl | exact wrap_in _ (by omega) (by omega)
        · refine Each.fine rfl (fun ev w1 hR hb hh => ?_)
          have e11 : (ev (.tmp 11) = .int .i64 ((S : Nat) : Int)) := hh.at 0
          have e24 : (ev (.tmp 24) = .int .i64 (((f0.size + f1.size) : Nat) : Int)) := hh.at 1
          clear hh
          have b1 := Y.out
          refine Each.Goes.same ?_
          go_simp
          first | done | with_reducible rfl | exact wrap_in _ (by omega) (by omega)
      intro g1 w2 hb hf
      have z25 : (g1 25 = .int .i64 (((S + (f0.size + f1.size)) : Nat) : Int)) := hf.at 14
      clear hf
      simp only [Each.putg, Act.put, List.setIfInBounds_toArray, List.set_cons_zero, List.set_cons_succ]
      rw [z25]
      simp only [Tree.grow, Tree.put1, List.getElem?_cons_zero, List.getElem?_cons_succ]
      refine Tree.assign _ (by rfl) (by rfl) ?_
      simp only [Act.put, Act.eval, Array.getD_eq_getD_getElem?, List.getElem?_toArray, List.getElem?_cons_zero, List.getElem?_cons_succ, Option.getD_some, List.setIfInBounds_toArray, List.set_cons_zero, List.set_cons_succ]
      refine Tree.done ?_
      have H3 := Lib.hid (Base.below_step hbr.out hb)
      clear hb
      go_wp2
      go_roundw
      case rel => exact ⟨k + 1, by omega, by go_num, by rw [← H1.out], H3⟩
      case measure => simp [intOf]; omega
    · obtain rfl : k = n := by omega
      have HT := Lib.hid (show fs.take k = fs from List.take_of_length_le (by rw [HL.out]; omega))
      go_wp2
      go_ret
      exact ⟨by first | rfl | (rw [HT.out]; rfl), hbr.out⟩
theorem rsize_any (V : Value) (r : R) (w : World) (h : Reads w V r) (hf : Fit r) : Calls Tryd.prog 13 #[V] w fun e w' => e = .returned (.int .i64 (size r : Nat)) ∧ Below w.heap.size w w' := by
  have HF := Lib.hid hf
  obtain ⟨fa, fc, ba, bc, ta, tc, rfl, h1, h2, h3⟩ := h
  have H1 := Lib.hid h1; have H3 := Lib.hid h3
  have M1 := Lib.hid (weigh_le r.fs 10000 hf.f); have M3 := Lib.hid (weigh_le r.ts 10000 hf.t)
  clear hf h1 h2 h3
  have hsz : size r = (((r.m.size + r.x.size) + weigh r.fs) + weigh r.ts) + r.body.length := by unfold size; omega
  rw [hsz]
  clear hsz
  go_enter Tryd.func13, Tryd.ntmps13
  go_wp2_with fail
  have hbw0 := Lib.hid (((Below.refl _ _).alloc (Nat.le_refl _) (.cells #[.string r.m, .string r.x, .int .i64 r.k, .slice fa r.fs.length fc, .bool r.ch, .slice ba r.body.length bc, .slice ta r.ts.length tc] 25)) : Below w.heap.size w _)
  have hbw := Lib.hid (Base.below_drewN hbw0.out 1)
  have HA := Lib.hid ((Bk.new w w.heap.size rfl 25 [.string r.m, .string r.x, .int .i64 r.k, .slice fa r.fs.length fc, .bool r.ch, .slice ba r.body.length bc, .slice ta r.ts.length tc]).drew 1)
  replace H1 := Lib.hid (H1.out.below hbw.out); replace H3 := Lib.hid (H3.out.below hbw.out)
  refine Each.region_all 20 [3, 4, 5, 6, 7, 8, 9, 10, 11, 12, 13, 14, 15, 16, 17, 18, 19, 20, 21, 2]
      [fun v _ => v = .pointer (some ⟨w.heap.size, 0, none⟩),
        fun v _ => v = .string r.m,
        fun v _ => v = .int .i64 ((r.m.size : Nat) : Int),
        fun v _ => v = .pointer (some ⟨w.heap.size, 1, none⟩),
        fun v _ => v = .string r.x,
        fun v _ => v = .int .i64 ((r.x.size : Nat) : Int),
        fun v _ => v = .int .i64 (((r.m.size + r.x.size) : Nat) : Int),
        fun v _ => v = .pointer (some ⟨w.heap.size, 3, none⟩),
        fun v _ => v = .slice fa r.fs.length fc,
        fun v _ => v = .int .i64 ((weigh r.fs : Nat) : Int),
        fun v _ => v = .int .i64 ((((r.m.size + r.x.size) + weigh r.fs) : Nat) : Int),
        fun v _ => v = .pointer (some ⟨w.heap.size, 6, none⟩),
        fun v _ => v = .slice ta r.ts.length tc,
        fun v _ => v = .int .i64 ((weigh r.ts : Nat) : Int),
        fun v _ => v = .int .i64 (((((r.m.size + r.x.size) + weigh r.fs) + weigh r.ts) : Nat) : Int),
        fun v _ => v = .pointer (some ⟨w.heap.size, 5, none⟩),
        fun v _ => v = .slice ba r.body.length bc,
        fun v _ => v = .int .i64 ((r.body.length : Nat) : Int),
        fun v _ => v = .int .i64 ((((((r.m.size + r.x.size) + weigh r.fs) + weigh r.ts) + r.body.length) : Nat) : Int),
        fun v _ => v = .int .i64 ((((((r.m.size + r.x.size) + weigh r.fs) + weigh r.ts) + r.body.length) : Nat) : Int)]
       (by kernel_rfl) (by kernel_rfl) (by kernel_rfl) (by kernel_rfl) (fun _ _ d _ _ h => by cases d <;> exact h) (by rfl) (by rfl)
      ⟨Each.Lasts.eq _, Each.Lasts.eq _, Each.Lasts.eq _, Each.Lasts.eq _, Each.Lasts.eq _, Each.Lasts.eq _, Each.Lasts.eq _, Each.Lasts.eq _, Each.Lasts.eq _, Each.Lasts.eq _, Each.Lasts.eq _, Each.Lasts.eq _, Each.Lasts.eq _, Each.Lasts.eq _, Each.Lasts.eq _, Each.Lasts.eq _, Each.Lasts.eq _, Each.Lasts.eq _, Each.Lasts.eq _, Each.Lasts.eq _, trivial⟩ ?_ ?_
  · refine ⟨?_, ?_, ?_, ?_, ?_, ?_, ?_, ?_, ?_, ?_, ?_, ?_, ?_, ?_, ?_, ?_, ?_, ?_, ?_, ?_, trivial⟩
    · refine Each.fine rfl (fun ev w1 hR hb hh => ?_)
      clear hh
      have e1 := hR.old 1 rfl
      simp only [Array.getD_eq_getD_getElem?, List.getElem?_toArray, List.getElem?_cons_succ, List.getElem?_cons_zero, Option.getD_some] at e1
      refine Each.Goes.same ?_
      go_simp
      try with_reducible rfl
    · refine Each.fine rfl (fun ev w1 hR hb hh => ?_)
      have e3 : (ev (.tmp 3) = .pointer (some ⟨w.heap.size, 0, none⟩)) := hh.at 0
      clear hh
      have q0 := (HA.out.below hb).c 0 _ rfl
      refine Each.Goes.same ?_
      go_simp
      try with_reducible rfl
    · refine Each.fine rfl (fun ev w1 hR hb hh => ?_)
      have e4 : (ev (.tmp 4) = .string r.m) := hh.at 0
      clear hh
      refine Each.Goes.same ?_
      go_simp
      try with_reducible rfl
    · refine Each.fine rfl (fun ev w1 hR hb hh => ?_)
      clear hh
      have e1 := hR.old 1 rfl
      simp only [Array.getD_eq_getD_getElem?, List.getElem?_toArray, List.getElem?_cons_succ, List.getElem?_cons_zero, Option.getD_some] at e1
      refine Each.Goes.same ?_
      go_simp
      try with_reducible rfl
    · refine Each.fine rfl (fun ev w1 hR hb hh => ?_)
      have e6 : (ev (.tmp 6) = .pointer (some ⟨w.heap.size, 1, none⟩)) := hh.at 0
      clear hh
      have q1 := (HA.out.below hb).c 1 _ rfl
      refine Each.Goes.same ?_
      go_simp
      try with_reducible rfl
    · refine Each.fine rfl (fun ev w1 hR hb hh => ?_)
      have e7 : (ev (.tmp 7) = .string r.x) := hh.at 0
      clear hh
      refine Each.Goes.same ?_
      go_simp
      try with_reducible rfl
    · refine Each.fine rfl (fun ev w1 hR hb hh => ?_)
      have e5 : (ev (.tmp 5) = .int .i64 ((r.m.size : Nat) : Int)) := hh.at 0
      have e8 : (ev (.tmp 8) = .int .i64 ((r.x.size : Nat) : Int)) := hh.at 1
      clear hh
      have b1 := HF.out.m; have b2 := HF.out.x; have b3 := HF.out.fs; have b4 := HF.out.ts; have b5 := HF.out.body; have b6 := M1.out; have b7 := M3.out
      refine Each.Goes.same ?_
      go_simp
      first | done | with_reducible rfl | exact wrap_in _ (by omega) (by omega)
    · refine Each.fine rfl (fun ev w1 hR hb hh => ?_)
      clear hh
      have e1 := hR.old 1 rfl
      simp only [Array.getD_eq_getD_getElem?, List.getElem?_toArray, List.getElem?_cons_succ, List.getElem?_cons_zero, Option.getD_some] at e1
      refine Each.Goes.same ?_
      go_simp
      try with_reducible rfl
    · refine Each.fine rfl (fun ev w1 hR hb hh => ?_)
      have e10 : (ev (.tmp 10) = .pointer (some ⟨w.heap.size, 3, none⟩)) := hh.at 0
      clear hh
      have q3 := (HA.out.below hb).c 3 _ rfl
      refine Each.Goes.same ?_
      go_simp
      try with_reducible rfl
    · refine Each.fine rfl (fun ev w1 hR hb hh => ?_)
      have e11 : (ev (.tmp 11) = .slice fa r.fs.length fc) := hh.at 0
      clear hh
      have ef := hR.func
      refine Each.Goes.enter 29 #[.slice fa r.fs.length fc] (by go_simp) (((rweigh_any fa _ fc _ w1 (H1.out.below hb) HF.out.fs HF.out.f)).mono ?_)
      rintro e w2 ⟨rfl, hb2⟩
      exact ⟨_, rfl, hb2, rfl⟩
    · refine Each.fine rfl (fun ev w1 hR hb hh => ?_)
      have e9 : (ev (.tmp 9) = .int .i64 (((r.m.size + r.x.size) : Nat) : Int)) := hh.at 0
      have e12 : (ev (.tmp 12) = .int .i64 ((weigh r.fs : Nat) : Int)) := hh.at 1
      clear hh
      have b1 := HF.out.m; have b2 := HF.out.x; have b3 := HF.out.fs; have b4 := HF.out.ts; have b5 := HF.out.body; have b6 := M1.out; have b7 := M3.out
      refine Each.Goes.same ?_
      go_simp
      first | done | with_reducible rfl | exact wrap_in _ (by omega) (by omega)
    · refine Each.fine rfl (fun ev w1 hR hb hh => ?_)
      clear hh
      have e1 := hR.old 1 rfl
      simp only [Array.getD_eq_getD_getElem?, List.getElem?_toArray, List.getElem?_cons_succ, List.getElem?_cons_zero, Option.getD_some] at e1
      refine Each.Goes.same ?_
      go_simp
      try with_reducible rfl
    · refine Each.fine rfl (fun ev w1 hR hb hh => ?_)
      have e14 : (ev (.tmp 14) = .pointer (some ⟨w.heap.size, 6, none⟩)) := hh.at 0
      clear hh
      have q6 := (HA.out.below hb).c 6 _ rfl
      refine Each.Goes.same ?_
      go_simp
      try with_reducible rfl
    · refine Each.fine rfl (fun ev w1 hR hb hh => ?_)
      have e15 : (ev (.tmp 15) = .slice ta r.ts.length tc) := hh.at 0
      clear hh
      have ef := hR.func
      refine Each.Goes.enter 29 #[.slice ta r.ts.length tc] (by go_simp) (((rweigh_any ta _ tc _ w1 (H3.out.below hb) HF.out.ts HF.out.t)).mono ?_)
      rintro e w2 ⟨rfl, hb2⟩
      exact ⟨_, rfl, hb2, rfl⟩
    · refine Each.fine rfl (fun ev w1 hR hb hh => ?_)
      have e13 : (ev (.tmp 13) = .int .i64 ((((r.m.size + r.x.size) + weigh r.fs) : Nat) : Int)) := hh.at 0
      have e16 : (ev (.tmp 16) = .int .i64 ((weigh r.ts : Nat) : Int)) := hh.at 1
      clear hh
      have b1 := HF.out.m; have b2 := HF.out.x; have b3 := HF.out.fs; have b4 := HF.out.ts; have b5 := HF.out.body; have b6 := M1.out; have b7 := M3.out
      refine Each.Goes.same ?_
      go_simp
      first | done | with_reducible rfl | exact wrap_in _ (by omega) (by omega)
    · refine Each.fine rfl (fun ev w1 hR hb hh => ?_)
      clear hh
      have e1 := hR.old 1 rfl
      simp only [Array.getD_eq_getD_getElem?, List.getElem?_toArray, List.getElem?_cons_succ, List.getElem?_cons_zero, Option.getD_some] at e1
      refine Each.Goes.same ?_
      go_simp
      try with_reducible rfl
    · refine Each.fine rfl (fun ev w1 hR hb hh => ?_)
      have e18 : (ev (.tmp 18) = .pointer (some ⟨w.heap.size, 5, none⟩)) := hh.at 0
      clear hh
      have q5 := (HA.out.below hb).c 5 _ rfl
      refine Each.Goes.same ?_
      go_simp
      try with_reducible rfl
    · refine Each.fine rfl (fun ev w1 hR hb hh => ?_)
      have e19 : (ev (.tmp 19) = .slice ba r.body.length bc) := hh.at 0
      clear hh
      refine Each.Goes.same ?_
      go_simp
      try with_reducible rfl
    · refine Each.fine rfl (fun ev w1 hR hb hh => ?_)
      have e17 : (ev (.tmp 17) = .int .i64 (((((r.m.size + r.x.size) + weigh r.fs) + weigh r.ts) : Nat) : Int)) := hh.at 0
      have e20 : (ev (.tmp 20) = .int .i64 ((r.body.length : Nat) : Int)) := hh.at 1
      clear hh
      have b1 := HF.out.m; have b2 := HF.out.x; have b3 := HF.out.fs; have b4 := HF.out.ts; have b5 := HF.out.body; have b6 := M1.out; have b7 := M3.out
      refine Each.Goes.same ?_
      go_simp
      first | done | with_reducible rfl | exact wrap_in _ (by omega) (by omega)
    · refine Each.fine rfl (fun ev w1 hR hb hh => ?_)
      have e21 : (ev (.tmp 21) = .int .i64 ((((((r.m.size + r.x.size) + weigh r.fs) + weigh r.ts) + r.body.length) : Nat) : Int)) := hh.at 0
      clear hh
      refine Each.Goes.same ?_
      go_simp
      try with_reducible rfl
  intro g1 w2 hb hf
  have z2 : (g1 2 = .int .i64 ((((((r.m.size + r.x.size) + weigh r.fs) + weigh r.ts) + r.body.length) : Nat) : Int)) := hf.at 19
  clear hf
  simp only [Each.putg, Act.put, List.setIfInBounds_toArray, List.set_cons_zero, List.set_cons_succ]
  rw [z2]
  go_wp2
  go_ret
  exact ⟨rfl, Base.below_step hbw0.out hb⟩
theorem rcloses_any (V : Value) (r : R) (w : World) (h : Reads w V r) (hf : Fit r) : Calls Tryd.prog 15 #[V] w fun e w' => e = .returned (.bool (closes r)) ∧ Below w.heap.size w w' := by
  obtain ⟨fa, fc, ba, bc, ta, tc, rfl, h1, h2, h3⟩ := h
  obtain ⟨l1, l2, l3⟩ := list_fit r.fs connN hf.fs hf.f
  have HFd := Lib.hid (fun w (hv : Flds w fa r.fs.length r.fs) => rfind_any fa r.fs.length fc r.fs connN w hv (Nat.le_trans hf.fs (by decide)) (fun f hh => Nat.le_trans (hf.f f hh).1 (by decide)) (by decide))
  have HV := Lib.hid h1
  unfold closes
  clear h1 h2 h3 hf
  generalize find r.fs connN = F at *
  have HLi := Lib.hid (fun w a c (hv : Strs w a F.length F) => rlist_any a F.length c F w hv l1)
  have HC := Lib.hid (fun w a c (hv : Strs w a (list F).length (list F)) => rone_any a (list F).length c (list F) closeW w hv l2 l3 (by decide))
  have HK := Lib.hid (fun w a c (hv : Strs w a (list F).length (list F)) => rone_any a (list F).length c (list F) keepW w hv l2 l3 (by decide))
  clear l1 l2 l3
  generalize list F = L at *
  generalize one L closeW = a1 at *
  generalize one L keepW = a2 at *
  have hbw := Lib.hid (((Below.refl _ _).alloc (Nat.le_refl _) (.cells #[.string r.m, .string r.x, .int .i64 r.k, .slice fa r.fs.length fc, .bool r.ch, .slice ba r.body.length bc, .slice ta r.ts.length tc] 25)) : Below w.heap.size w _)
  have HA := Lib.hid (Bk.new w w.heap.size rfl 25 [.string r.m, .string r.x, .int .i64 r.k, .slice fa r.fs.length fc, .bool r.ch, .slice ba r.body.length bc, .slice ta r.ts.length tc])
  obtain ⟨t0, ht0⟩ : ∃ t0, decide (r.k = 0) = t0 := ⟨_, rfl⟩
  have ht : (r.k == 0) = t0 := ht0
  rw [ht0]
  clear ht0
  cases a1 <;> cases t0 <;> cases a2
  all_goals
    go_enter Tryd.func15, Tryd.ntmps15
    go_wp2_with (first
      | (go_at_call 33; with_reducible refine (HK.out _ _ _ HS3.out).mono ?_; rintro e w4 ⟨rfl, hb4⟩
         have HB4 := Lib.hid (Base.below_step HB3.out hb4); clear hb4)
      | (go_at_call 33; with_reducible refine (HC.out _ _ _ HS2.out).mono ?_; rintro e w3 ⟨rfl, hb3⟩
         have HB3 := Lib.hid (Base.below_step HB2.out hb3); have q2 := (HA2.out.below hb3).c 2 _ rfl; have HS3 := Lib.hid (HS2.out.below hb3); clear hb3)
      | (go_at_call 31; with_reducible refine (HLi.out _ _ _ HS1.out).mono ?_; rintro e w2 ⟨b2, m2, c2, rfl, rfl, hS2, hb2⟩
         have HS2 := Lib.hid hS2; have HB2 := Lib.hid (Base.below_step HB1.out hb2); have HA2 := Lib.hid (HA1.out.below hb2); clear hS2 hb2)
      | (go_at_call 32; with_reducible refine (HFd.out _ (HV.out.below hbw.out)).mono ?_; rintro e w1 ⟨b1, m1, c1, rfl, rfl, hS1, hb1⟩
         have HS1 := Lib.hid hS1; have HB1 := Lib.hid (Base.below_step hbw.out hb1); have HA1 := Lib.hid (HA.out.below hb1); clear hS1 hb1))
    go_ret
    exact ⟨rfl, by first | exact HB4.out | exact HB3.out⟩
theorem rexpects_any (V : Value) (r : R) (w : World) (h : Reads w V r) (hf : Fit r) : Calls Tryd.prog 17 #[V] w fun e w' => e = .returned (.bool (expects r)) ∧ Below w.heap.size w w' := by
  obtain ⟨fa, fc, ba, bc, ta, tc, rfl, h1, h2, h3⟩ := h
  obtain ⟨l1, l2, l3⟩ := list_fit r.fs expectN hf.fs hf.f
  have HFd := Lib.hid (fun w (hv : Flds w fa r.fs.length r.fs) => rfind_any fa r.fs.length fc r.fs expectN w hv (Nat.le_trans hf.fs (by decide)) (fun f hh => Nat.le_trans (hf.f f hh).1 (by decide)) (by decide))
  have HV := Lib.hid h1
  unfold expects
  clear h1 h2 h3 hf
  generalize find r.fs expectN = F at *
  have HLi := Lib.hid (fun w a c (hv : Strs w a F.length F) => rlist_any a F.length c F w hv l1)
  have HC := Lib.hid (fun w a c (hv : Strs w a (list F).length (list F)) => rone_any a (list F).length c (list F) contW w hv l2 l3 (by decide))
  clear l1 l2 l3
  generalize list F = L at *
  generalize one L contW = a1 at *
  have hbw := Lib.hid (((Below.refl _ _).alloc (Nat.le_refl _) (.cells #[.string r.m, .string r.x, .int .i64 r.k, .slice fa r.fs.length fc, .bool r.ch, .slice ba r.body.length bc, .slice ta r.ts.length tc] 25)) : Below w.heap.size w _)
  obtain ⟨t0, ht0⟩ : ∃ t0, decide (r.k = 1) = t0 := ⟨_, rfl⟩
  have ht : (r.k == 1) = t0 := ht0
  rw [ht0]
  clear ht0
  cases t0
  all_goals
    go_enter Tryd.func17, Tryd.ntmps17
    go_wp2_with (first
      | (go_at_call 33; with_reducible refine (HC.out _ _ _ HS2.out).mono ?_; rintro e w3 ⟨rfl, hb3⟩
         have HB3 := Lib.hid (Base.below_step HB2.out hb3); clear hb3)
      | (go_at_call 31; with_reducible refine (HLi.out _ _ _ HS1.out).mono ?_; rintro e w2 ⟨b2, m2, c2, rfl, rfl, hS2, hb2⟩
         have HS2 := Lib.hid hS2; have HB2 := Lib.hid (Base.below_step HB1.out hb2); clear hS2 hb2)
      | (go_at_call 32; with_reducible refine (HFd.out _ (HV.out.below hbw.out)).mono ?_; rintro e w1 ⟨b1, m1, c1, rfl, rfl, hS1, hb1⟩
         have HS1 := Lib.hid hS1; have HB1 := Lib.hid (Base.below_step hbw.out hb1); clear hS1 hb1))
    go_ret
    exact ⟨rfl, by first | exact HB3.out | exact hbw.out⟩
end code
end Go.Proofs.YtechehbegiinpaaDoor.Rec
