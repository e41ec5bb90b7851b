/-
  What the proof reaches, part 4.
-/
import Derived.Test.YtbineebnhjifiaaGreatDoorEmc
/- PgLines -/
namespace Go.Proofs.YtbineebnhjifiaaGreatDoor.Pg
open Go.RowKit Base Txt Mem Par

theorem empty_of {x : ByteArray} (h : x.size = 0) : x = ⟨#[]⟩ := by
  have : x.data.size = 0 := h
  cases x with
  | mk d =>
    have e : d = #[] := Array.eq_empty_of_size_eq_zero this
    rw [e]
theorem list_ne {x : ByteArray} (h : 0 < x.size) : x.data.toList ≠ [] := fun e => by
  have : x.size = 0 := by rw [← len, e]; rfl
  omega
section code
set_option maxHeartbeats 4000000
set_option maxRecDepth 20000
attribute [local go_sem] Base.some_undef
variable {w : World} {B : Zone} {g q : Nat} {v f bd t o : Value} {p : Nat} {b : Bd} {s : T}
theorem firstLine_any (hp : p < 4294967296) (x : ByteArray) (hx : x.size ≤ 5000) (h : PR w B g q v f bd t o p b s) : Calls Tryz.prog 161 #[ptr g, .string x] w fun r w' =>
    r = .returned (.int .i64 (((s.first p b x.data.toList).1 : Nat) : Int)) ∧ ∃ q1 v1 f1 bd1 t1 o1, PR w' B g q1 v1 f1 bd1 t1 o1 p b (s.first p b x.data.toList).2 ∧ Step (blks g q v f bd t o) (blks g q1 v1 f1 bd1 t1 o1) w w' := by
  have H := Lib.hid h
  rcases Nat.eq_zero_or_pos x.size with h0 | h0
  · obtain rfl := empty_of h0
    have HE := Lib.hid (emptyLine_any (g := g) hp h.cs.c13)
    have e : s.first p b (⟨#[]⟩ : ByteArray).data.toList = (if Qk.has p 0 = true then 0 else 400, s) := rfl
    rw [e]
    obtain ⟨z, hz⟩ : ∃ z : Nat, (if Qk.has p 0 = true then 0 else 400) = z := ⟨_, rfl⟩
    rw [hz] at HE ⊢
    clear h h0 hx e hz
    go_enter Tryz.func161, Tryz.ntmps161
    go_wp2_with (go_at_call 181; with_reducible refine HE.out.mono ?_; rintro r w2 ⟨rfl, hw⟩; rw [hw]; clear hw)
    go_ret
    exact ⟨rfl, _, _, _, _, _, _, H.out, Step.refl⟩
  · have hne := list_ne h0
    have te := Fd.first_no x h0
    have HQ := Lib.hid ((h.drew 1).bk)
    have hz := fun w => Rq.parse_any x p hp b.x0 b.x1 b.x2 b.x3 b.x4 b.x5 b.x6 b.x7 b.ch b.od w (by omega)
    unfold T.first
    rw [if_neg hne]
    obtain ⟨⟨m1, t1, qk, qe⟩, hq⟩ : ∃ Q, Rq.request (Rq.clOf p) b.od x.data.toList = Q := ⟨_, rfl⟩
    rw [hq] at hz
    simp only [Rq.rv] at hz
    rw [hq]
    obtain ⟨qm, hqm⟩ : ∃ qm, ba m1 = qm := ⟨_, rfl⟩
    obtain ⟨qt, hqt⟩ : ∃ qt, ba t1 = qt := ⟨_, rfl⟩
    rw [hqm, hqt] at hz
    have HZ := Lib.hid hz
    simp only [hqm, hqt]
    clear hz hq hqm hqt hne h0 hx h
    by_cases hqe : qe = 0
    · subst hqe
      rw [if_pos rfl]
      have HZ := Lib.hid (show ∀ w, Calls Tryz.prog 182 #[.string x, .int .u32 (p : Int), .agg #[.int .i64 b.x0, .int .i64 b.x1, .int .i64 b.x2, .int .i64 b.x3, .int .i64 b.x4, .int .i64 b.x5, .int .i64 b.x6, .int .i64 b.x7, .bool b.ch, .bool b.od]] w fun e w' => e = .returned (.tuple #[.string qm, .string qt, .int .i64 (qk : Int), .int .i64 0]) ∧ Below w.heap.size w w' from fun w => HZ.out w)
      go_enter Tryz.func161, Tryz.ntmps161
      go_upto_region 3 with fail
      refine Each.region_all 19 [14, 15, 16, 17, 18, 19, 20, 21, 22, 23, 13, 24, 25, 26, 27, 5, 6, 7, 8]
          [fun v _ => v = .string x,
            fun v _ => v = .pointer (some ⟨g, 0, none⟩),
            fun v _ => v = .pointer (some ⟨g, 0, none⟩),
            fun v _ => v = .pointer (some ⟨g, 13, none⟩),
            fun v _ => v = .int .u32 (p : Int),
            fun v _ => v = .pointer (some ⟨g, 0, none⟩),
            fun v _ => v = .pointer (some ⟨g, 0, none⟩),
            fun v _ => v = .pointer (some ⟨g, 14, none⟩),
            fun v _ => v = .agg #[.int .i64 b.x0, .int .i64 b.x1, .int .i64 b.x2, .int .i64 b.x3, .int .i64 b.x4, .int .i64 b.x5, .int .i64 b.x6, .int .i64 b.x7, .bool b.ch, .bool b.od],
            fun v _ => v = .tuple #[.string qm, .string qt, .int .i64 (qk : Int), .int .i64 0],
            fun v _ => v = .tuple #[.string qm, .string qt, .int .i64 (qk : Int), .int .i64 0],
            fun v _ => v = .string qm,
            fun v _ => v = .string qt,
            fun v _ => v = .int .i64 (qk : Int),
            fun v _ => v = .int .i64 0,
            fun v _ => v = .string qm,
            fun v _ => v = .string qt,
            fun v _ => v = .int .i64 (qk : Int),
            fun v _ => v = .int .i64 0]
           (by kernel_rfl) (by kernel_rfl) (by kernel_rfl) (by kernel_rfl) (fun _ _ d _ _ h => by cases d <;> exact h) (by rfl) (by rfl)
          ⟨Each.Lasts.eq _, Each.Lasts.eq _, Each.Lasts.eq _, Each.Lasts.eq _, Each.Lasts.eq _, Each.Lasts.eq _, Each.Lasts.eq _, Each.Lasts.eq _, Each.Lasts.eq _, Each.Lasts.eq _, Each.Lasts.eq _, Each.Lasts.eq _, Each.Lasts.eq _, Each.Lasts.eq _, Each.Lasts.eq _, Each.Lasts.eq _, Each.Lasts.eq _, Each.Lasts.eq _, Each.Lasts.eq _, trivial⟩ ?_ ?_
      · refine ⟨?_, ?_, ?_, ?_, ?_, ?_, ?_, ?_, ?_, ?_, ?_, ?_, ?_, ?_, ?_, ?_, ?_, ?_, ?_, trivial⟩
        · refine Each.fine rfl (fun ev w1 hR hb hh => ?_)
          clear hh
          have e1 := hR.old 1 rfl
          simp only [Array.getD_eq_getD_getElem?, List.getElem?_toArray, List.getElem?_cons_succ, List.getElem?_cons_zero, Option.getD_some] at e1
          refine Each.Goes.same ?_
          go_simp
          try with_reducible rfl
        · refine Each.fine rfl (fun ev w1 hR hb hh => ?_)
          clear hh
          have e0 := hR.old 0 rfl
          simp only [Array.getD_eq_getD_getElem?, List.getElem?_toArray, List.getElem?_cons_zero, Option.getD_some] at e0
          refine Each.Goes.same ?_
          go_simp
          try with_reducible rfl
        · refine Each.fine rfl (fun ev w1 hR hb hh => ?_)
          have e15 : (ev (.tmp 15) = .pointer (some ⟨g, 0, none⟩)) := hh.at 0
          clear hh
          refine Each.Goes.same ?_
          go_simp
          try with_reducible rfl
        · refine Each.fine rfl (fun ev w1 hR hb hh => ?_)
          have e16 : (ev (.tmp 16) = .pointer (some ⟨g, 0, none⟩)) := hh.at 0
          clear hh
          refine Each.Goes.same ?_
          go_simp
          try with_reducible rfl
        · refine Each.fine rfl (fun ev w1 hR hb hh => ?_)
          have e17 : (ev (.tmp 17) = .pointer (some ⟨g, 13, none⟩)) := hh.at 0
          clear hh
          have q13 := (HQ.out.below hb).c 13 _ rfl
          refine Each.Goes.same ?_
          go_simp
          try with_reducible rfl
        · refine Each.fine rfl (fun ev w1 hR hb hh => ?_)
          clear hh
          have e0 := hR.old 0 rfl
          simp only [Array.getD_eq_getD_getElem?, List.getElem?_toArray, List.getElem?_cons_zero, Option.getD_some] at e0
          refine Each.Goes.same ?_
          go_simp
          try with_reducible rfl
        · refine Each.fine rfl (fun ev w1 hR hb hh => ?_)
          have e19 : (ev (.tmp 19) = .pointer (some ⟨g, 0, none⟩)) := hh.at 0
          clear hh
          refine Each.Goes.same ?_
          go_simp
          try with_reducible rfl
        · refine Each.fine rfl (fun ev w1 hR hb hh => ?_)
          have e20 : (ev (.tmp 20) = .pointer (some ⟨g, 0, none⟩)) := hh.at 0
          clear hh
          refine Each.Goes.same ?_
          go_simp
          try with_reducible rfl
        · refine Each.fine rfl (fun ev w1 hR hb hh => ?_)
          have e21 : (ev (.tmp 21) = .pointer (some ⟨g, 14, none⟩)) := hh.at 0
          clear hh
          have q14 := (HQ.out.below hb).c 14 _ rfl
          have q15 := (HQ.out.below hb).c 15 _ rfl
          have q16 := (HQ.out.below hb).c 16 _ rfl
          have q17 := (HQ.out.below hb).c 17 _ rfl
          have q18 := (HQ.out.below hb).c 18 _ rfl
          have q19 := (HQ.out.below hb).c 19 _ rfl
          have q20 := (HQ.out.below hb).c 20 _ rfl
          have q21 := (HQ.out.below hb).c 21 _ rfl
          have q22 := (HQ.out.below hb).c 22 _ rfl
          have q23 := (HQ.out.below hb).c 23 _ rfl
          refine Each.Goes.same ?_
          go_simp
          try with_reducible rfl
        · refine Each.fine rfl (fun ev w1 hR hb hh => ?_)
          have e14 : (ev (.tmp 14) = .string x) := hh.at 0
          have e18 : (ev (.tmp 18) = .int .u32 (p : Int)) := hh.at 1
          have e22 : (ev (.tmp 22) = .agg #[.int .i64 b.x0, .int .i64 b.x1, .int .i64 b.x2, .int .i64 b.x3, .int .i64 b.x4, .int .i64 b.x5, .int .i64 b.x6, .int .i64 b.x7, .bool b.ch, .bool b.od]) := hh.at 2
          clear hh
          have ef := hR.func
          refine Each.Goes.enter 182 #[.string x, .int .u32 (p : Int), .agg #[.int .i64 b.x0, .int .i64 b.x1, .int .i64 b.x2, .int .i64 b.x3, .int .i64 b.x4, .int .i64 b.x5, .int .i64 b.x6, .int .i64 b.x7, .bool b.ch, .bool b.od]] (by go_simp) ((HZ.out w1).mono ?_)
          rintro r w2 ⟨rfl, hb2⟩
          exact ⟨_, rfl, hb2, rfl⟩
        · refine Each.fine rfl (fun ev w1 hR hb hh => ?_)
          have e23 : (ev (.tmp 23) = .tuple #[.string qm, .string qt, .int .i64 (qk : Int), .int .i64 0]) := hh.at 0
          clear hh
          refine Each.Goes.same ?_
          go_simp
          try with_reducible rfl
        · refine Each.fine rfl (fun ev w1 hR hb hh => ?_)
          have e13 : (ev (.tmp 13) = .tuple #[.string qm, .string qt, .int .i64 (qk : Int), .int .i64 0]) := hh.at 0
          clear hh
          refine Each.Goes.same ?_
          go_simp
          try with_reducible rfl
        · refine Each.fine rfl (fun ev w1 hR hb hh => ?_)
          have e13 : (ev (.tmp 13) = .tuple #[.string qm, .string qt, .int .i64 (qk : Int), .int .i64 0]) := hh.at 0
          clear hh
          refine Each.Goes.same ?_
          go_simp
          try with_reducible rfl
        · refine Each.fine rfl (fun ev w1 hR hb hh => ?_)
          have e13 : (ev (.tmp 13) = .tuple #[.string qm, .string qt, .int .i64 (qk : Int), .int .i64 0]) := hh.at 0
          clear hh
          refine Each.Goes.same ?_
          go_simp
          try with_reducible rfl
        · refine Each.fine rfl (fun ev w1 hR hb hh => ?_)
          have e13 : (ev (.tmp 13) = .tuple #[.string qm, .string qt, .int .i64 (qk : Int), .int .i64 0]) := hh.at 0
          clear hh
          refine Each.Goes.same ?_
          go_simp
          try with_reducible rfl
        · refine Each.fine rfl (fun ev w1 hR hb hh => ?_)
          have e24 : (ev (.tmp 24) = .string qm) := hh.at 0
          clear hh
          refine Each.Goes.same ?_
          go_simp
          try with_reducible rfl
        · refine Each.fine rfl (fun ev w1 hR hb hh => ?_)
          have e25 : (ev (.tmp 25) = .string qt) := hh.at 0
          clear hh
          refine Each.Goes.same ?_
          go_simp
          try with_reducible rfl
        · refine Each.fine rfl (fun ev w1 hR hb hh => ?_)
          have e26 : (ev (.tmp 26) = .int .i64 (qk : Int)) := hh.at 0
          clear hh
          refine Each.Goes.same ?_
          go_simp
          try with_reducible rfl
        · refine Each.fine rfl (fun ev w1 hR hb hh => ?_)
          have e27 : (ev (.tmp 27) = .int .i64 0) := hh.at 0
          clear hh
          refine Each.Goes.same ?_
          go_simp
          try with_reducible rfl
      intro g1 w2 hb hf
      have z5 : (g1 5 = .string qm) := hf.at 15
      have z6 : (g1 6 = .string qt) := hf.at 16
      have z7 : (g1 7 = .int .i64 (qk : Int)) := hf.at 17
      have z8 : (g1 8 = .int .i64 0) := hf.at 18
      clear hf
      simp only [Each.putg, Act.put, List.setIfInBounds_toArray, List.set_cons_zero, List.set_cons_succ]
      rw [z5]
      rw [z6]
      rw [z7]
      rw [z8]
      have H1 := Lib.hid (H.out.below hb); have HS1 := Lib.hid (Step.of_below hb (L := blks g q v f bd t o))
      clear hb HQ
      have H2 := Lib.hid (((((H1.out).put 3 (.string qm) { s with r := { s.r with m := qm } } rfl rfl rfl rfl rfl rfl).put 4 (.string qt) { s with r := { s.r with m := qm, x := qt } } rfl rfl rfl rfl rfl rfl).put 5 (.int .i64 (qk : Int)) { s with r := { s.r with m := qm, x := qt, k := (qk : Int) } } rfl rfl rfl rfl rfl rfl).put 24 (.int .i64 2) { s with r := { s.r with m := qm, x := qt, k := (qk : Int) }, st := 2 } rfl rfl rfl rfl rfl rfl)
      have HS2 := Lib.hid (((((HS1.out).trans (Step.set g 3 (.string qm) (by simp))).trans (Step.set g 4 (.string qt) (by simp))).trans (Step.set g 5 (.int .i64 (qk : Int)) (by simp))).trans (Step.set g 24 (.int .i64 2) (by simp)))
      have c3 := H1.out.cs.c3; have z3 := H1.out.marks 3; have c4 := H1.out.cs.c4; have z4 := H1.out.marks 4; have c5 := H1.out.cs.c5; have z5 := H1.out.marks 5; have c24 := H1.out.cs.c24; have z24 := H1.out.marks 24
      go_wp2
      first | go_end0 | go_ret
      exact ⟨rfl, _, _, _, _, _, _, H2.out, HS2.out⟩
    · rw [if_neg hqe]
      have tz : ¬ (qe : Int) = 0 := by omega
      have tz' : ((qe : Int) == 0) = false := beq_eq_false_iff_ne.2 tz
      clear hqe
      go_enter Tryz.func161, Tryz.ntmps161
      go_upto_region 3 with fail
      refine Each.region_all 19 [14, 15, 16, 17, 18, 19, 20, 21, 22, 23, 13, 24, 25, 26, 27, 5, 6, 7, 8]
          [fun v _ => v = .string x,
            fun v _ => v = .pointer (some ⟨g, 0, none⟩),
            fun v _ => v = .pointer (some ⟨g, 0, none⟩),
            fun v _ => v = .pointer (some ⟨g, 13, none⟩),
            fun v _ => v = .int .u32 (p : Int),
            fun v _ => v = .pointer (some ⟨g, 0, none⟩),
            fun v _ => v = .pointer (some ⟨g, 0, none⟩),
            fun v _ => v = .pointer (some ⟨g, 14, none⟩),
            fun v _ => v = .agg #[.int .i64 b.x0, .int .i64 b.x1, .int .i64 b.x2, .int .i64 b.x3, .int .i64 b.x4, .int .i64 b.x5, .int .i64 b.x6, .int .i64 b.x7, .bool b.ch, .bool b.od],
            fun v _ => v = .tuple #[.string qm, .string qt, .int .i64 (qk : Int), .int .i64 (qe : Int)],
            fun v _ => v = .tuple #[.string qm, .string qt, .int .i64 (qk : Int), .int .i64 (qe : Int)],
            fun v _ => v = .string qm,
            fun v _ => v = .string qt,
            fun v _ => v = .int .i64 (qk : Int),
            fun v _ => v = .int .i64 (qe : Int),
            fun v _ => v = .string qm,
            fun v _ => v = .string qt,
            fun v _ => v = .int .i64 (qk : Int),
            fun v _ => v = .int .i64 (qe : Int)]
           (by kernel_rfl) (by kernel_rfl) (by kernel_rfl) (by kernel_rfl) (fun _ _ d _ _ h => by cases d <;> exact h) (by rfl) (by rfl)
          ⟨Each.Lasts.eq _, Each.Lasts.eq _, Each.Lasts.eq _, Each.Lasts.eq _, Each.Lasts.eq _, Each.Lasts.eq _, Each.Lasts.eq _, Each.Lasts.eq _, Each.Lasts.eq _, Each.Lasts.eq _, Each.Lasts.eq _, Each.Lasts.eq _, Each.Lasts.eq _, Each.Lasts.eq _, Each.Lasts.eq _, Each.Lasts.eq _, Each.Lasts.eq _, Each.Lasts.eq _, Each.Lasts.eq _, trivial⟩ ?_ ?_
      · refine ⟨?_, ?_, ?_, ?_, ?_, ?_, ?_, ?_, ?_, ?_, ?_, ?_, ?_, ?_, ?_, ?_, ?_, ?_, ?_, trivial⟩
        · refine Each.fine rfl (fun ev w1 hR hb hh => ?_)
          clear hh
          have e1 := hR.old 1 rfl
          simp only [Array.getD_eq_getD_getElem?, List.getElem?_toArray, List.getElem?_cons_succ, List.getElem?_cons_zero, Option.getD_some] at e1
          refine Each.Goes.same ?_
          go_simp
          try with_reducible rfl
        · refine Each.fine rfl (fun ev w1 hR hb hh => ?_)
          clear hh
          have e0 := hR.old 0 rfl
          simp only [Array.getD_eq_getD_getElem?, List.getElem?_toArray, List.getElem?_cons_zero, Option.getD_some] at e0
          refine Each.Goes.same ?_
          go_simp
          try with_reducible rfl
        · refine Each.fine rfl (fun ev w1 hR hb hh => ?_)
          have e15 : (ev (.tmp 15) = .pointer (some ⟨g, 0, none⟩)) := hh.at 0
          clear hh
          refine Each.Goes.same ?_
          go_simp
          try with_reducible rfl
        · refine Each.fine rfl (fun ev w1 hR hb hh => ?_)
          have e16 : (ev (.tmp 16) = .pointer (some ⟨g, 0, none⟩)) := hh.at 0
          clear hh
          refine Each.Goes.same ?_
          go_simp
          try with_reducible rfl
        · refine Each.fine rfl (fun ev w1 hR hb hh => ?_)
          have e17 : (ev (.tmp 17) = .pointer (some ⟨g, 13, none⟩)) := hh.at 0
          clear hh
          have q13 := (HQ.out.below hb).c 13 _ rfl
          refine Each.Goes.same ?_
          go_simp
          try with_reducible rfl
        · refine Each.fine rfl (fun ev w1 hR hb hh => ?_)
          clear hh
          have e0 := hR.old 0 rfl
          simp only [Array.getD_eq_getD_getElem?, List.getElem?_toArray, List.getElem?_cons_zero, Option.getD_some] at e0
          refine Each.Goes.same ?_
          go_simp
          try with_reducible rfl
        · refine Each.fine rfl (fun ev w1 hR hb hh => ?_)
          have e19 : (ev (.tmp 19) = .pointer (some ⟨g, 0, none⟩)) := hh.at 0
          clear hh
          refine Each.Goes.same ?_
          go_simp
          try with_reducible rfl
        · refine Each.fine rfl (fun ev w1 hR hb hh => ?_)
          have e20 : (ev (.tmp 20) = .pointer (some ⟨g, 0, none⟩)) := hh.at 0
          clear hh
          refine Each.Goes.same ?_
          go_simp
          try with_reducible rfl
        · refine Each.fine rfl (fun ev w1 hR hb hh => ?_)
          have e21 : (ev (.tmp 21) = .pointer (some ⟨g, 14, none⟩)) := hh.at 0
          clear hh
          have q14 := (HQ.out.below hb).c 14 _ rfl
          have q15 := (HQ.out.below hb).c 15 _ rfl
          have q16 := (HQ.out.below hb).c 16 _ rfl
          have q17 := (HQ.out.below hb).c 17 _ rfl
          have q18 := (HQ.out.below hb).c 18 _ rfl
          have q19 := (HQ.out.below hb).c 19 _ rfl
          have q20 := (HQ.out.below hb).c 20 _ rfl
          have q21 := (HQ.out.below hb).c 21 _ rfl
          have q22 := (HQ.out.below hb).c 22 _ rfl
          have q23 := (HQ.out.below hb).c 23 _ rfl
          refine Each.Goes.same ?_
          go_simp
          try with_reducible rfl
        · refine Each.fine rfl (fun ev w1 hR hb hh => ?_)
          have e14 : (ev (.tmp 14) = .string x) := hh.at 0
          have e18 : (ev (.tmp 18) = .int .u32 (p : Int)) := hh.at 1
          have e22 : (ev (.tmp 22) = .agg #[.int .i64 b.x0, .int .i64 b.x1, .int .i64 b.x2, .int .i64 b.x3, .int .i64 b.x4, .int .i64 b.x5, .int .i64 b.x6, .int .i64 b.x7, .bool b.ch, .bool b.od]) := hh.at 2
          clear hh
          have ef := hR.func
          refine Each.Goes.enter 182 #[.string x, .int .u32 (p : Int), .agg #[.int .i64 b.x0, .int .i64 b.x1, .int .i64 b.x2, .int .i64 b.x3, .int .i64 b.x4, .int .i64 b.x5, .int .i64 b.x6, .int .i64 b.x7, .bool b.ch, .bool b.od]] (by go_simp) ((HZ.out w1).mono ?_)
          rintro r w2 ⟨rfl, hb2⟩
          exact ⟨_, rfl, hb2, rfl⟩
        · refine Each.fine rfl (fun ev w1 hR hb hh => ?_)
          have e23 : (ev (.tmp 23) = .tuple #[.string qm, .string qt, .int .i64 (qk : Int), .int .i64 (qe : Int)]) := hh.at 0
          clear hh
          refine Each.Goes.same ?_
          go_simp
          try with_reducible rfl
        · refine Each.fine rfl (fun ev w1 hR hb hh => ?_)
          have e13 : (ev (.tmp 13) = .tuple #[.string qm, .string qt, .int .i64 (qk : Int), .int .i64 (qe : Int)]) := hh.at 0
          clear hh
          refine Each.Goes.same ?_
          go_simp
          try with_reducible rfl
        · refine Each.fine rfl (fun ev w1 hR hb hh => ?_)
          have e13 : (ev (.tmp 13) = .tuple #[.string qm, .string qt, .int .i64 (qk : Int), .int .i64 (qe : Int)]) := hh.at 0
          clear hh
          refine Each.Goes.same ?_
          go_simp
          try with_reducible rfl
        · refine Each.fine rfl (fun ev w1 hR hb hh => ?_)
          have e13 : (ev (.tmp 13) = .tuple #[.string qm, .string qt, .int .i64 (qk : Int), .int .i64 (qe : Int)]) := hh.at 0
          clear hh
          refine Each.Goes.same ?_
          go_simp
          try with_reducible rfl
        · refine Each.fine rfl (fun ev w1 hR hb hh => ?_)
          have e13 : (ev (.tmp 13) = .tuple #[.string qm, .string qt, .int .i64 (qk : Int), .int .i64 (qe : Int)]) := hh.at 0
          clear hh
          refine Each.Goes.same ?_
          go_simp
          try with_reducible rfl
        · refine Each.fine rfl (fun ev w1 hR hb hh => ?_)
          have e24 : (ev (.tmp 24) = .string qm) := hh.at 0
          clear hh
          refine Each.Goes.same ?_
          go_simp
          try with_reducible rfl
        · refine Each.fine rfl (fun ev w1 hR hb hh => ?_)
          have e25 : (ev (.tmp 25) = .string qt) := hh.at 0
          clear hh
          refine Each.Goes.same ?_
          go_simp
          try with_reducible rfl
        · refine Each.fine rfl (fun ev w1 hR hb hh => ?_)
          have e26 : (ev (.tmp 26) = .int .i64 (qk : Int)) := hh.at 0
          clear hh
          refine Each.Goes.same ?_
          go_simp
          try with_reducible rfl
        · refine Each.fine rfl (fun ev w1 hR hb hh => ?_)
          have e27 : (ev (.tmp 27) = .int .i64 (qe : Int)) := hh.at 0
          clear hh
          refine Each.Goes.same ?_
          go_simp
          try with_reducible rfl
      intro g1 w2 hb hf
      have z5 : (g1 5 = .string qm) := hf.at 15
      have z6 : (g1 6 = .string qt) := hf.at 16
      have z7 : (g1 7 = .int .i64 (qk : Int)) := hf.at 17
      have z8 : (g1 8 = .int .i64 (qe : Int)) := hf.at 18
      clear hf
      simp only [Each.putg, Act.put, List.setIfInBounds_toArray, List.set_cons_zero, List.set_cons_succ]
      rw [z5]
      rw [z6]
      rw [z7]
      rw [z8]
      have H1 := Lib.hid (H.out.below hb); have HS1 := Lib.hid (Step.of_below hb (L := blks g q v f bd t o))
      clear hb HQ
      go_wp2
      first | go_end0 | go_ret
      exact ⟨rfl, _, _, _, _, _, _, H1.out, HS1.out⟩
theorem sizeLine_any (hp : p < 4294967296) (h3 : 16 ≤ b.x3 ∧ b.x3 ≤ 1048576) (x : ByteArray) (hx : x.size ≤ 5000) (h : PR w B g q v f bd t o p b s) (hbl : s.r.body.length ≤ 2000000) : Calls Tryz.prog 163 #[ptr g, .string x] w fun r w' =>
    r = .returned (.int .i64 (((s.chunk p b x.data.toList).1 : Nat) : Int)) ∧ ∃ q1 v1 f1 bd1 t1 o1, PR w' B g q1 v1 f1 bd1 t1 o1 p b (s.chunk p b x.data.toList).2 ∧ Step (blks g q v f bd t o) (blks g q1 v1 f1 bd1 t1 o1) w w' := by
  have H := Lib.hid h
  have HQ := Lib.hid ((h.drew 1).bk)
  have hz := fun w => Chk.size_any x p hp b.x0 b.x1 b.x2 b.x3 b.x4 b.x5 b.x6 b.x7 b.ch b.od (by omega) w (by omega)
  have HF := chunk_facts (Qk.has p 27) (Qk.has p 28) b.x4 b.x3 x.data.toList
  obtain ⟨⟨z1, z2⟩, hZ⟩ : ∃ Z, Chk.sizeV (Qk.has p 27) (Qk.has p 28) b.x4 b.x3 x.data.toList = Z := ⟨_, rfl⟩
  rw [hZ] at HF
  clear h hx
  rcases HF with ⟨e2, h0, h1⟩ | e2 | e2
  · have e2 : z2 = 0 := e2
    subst e2
    obtain ⟨n, rfl⟩ : ∃ n : Nat, z1 = (n : Int) := ⟨z1.toNat, by have : 0 ≤ z1 := h0; omega⟩
    have h1 : (n : Int) ≤ max b.x3 0 := h1
    have HZ := Lib.hid (show ∀ w, Calls Tryz.prog 185 #[.string x, .int .u32 (p : Int), .agg #[.int .i64 b.x0, .int .i64 b.x1, .int .i64 b.x2, .int .i64 b.x3, .int .i64 b.x4, .int .i64 b.x5, .int .i64 b.x6, .int .i64 b.x7, .bool b.ch, .bool b.od]] w fun e w' => e = .returned (.tuple #[.int .i64 (n : Int), .int .i64 0]) ∧ Below w.heap.size w w' from fun w => by have := hz w; rw [hZ] at this; exact this)
    clear hz
    rcases Nat.eq_zero_or_pos n with hn | hn
    · subst hn
      have e : s.chunk p b x.data.toList = (0, { s with st := 7 }) := by unfold T.chunk; rw [hZ]; rfl
      rw [e]
      have HZ := Lib.hid (show ∀ w, Calls Tryz.prog 185 #[.string x, .int .u32 (p : Int), .agg #[.int .i64 b.x0, .int .i64 b.x1, .int .i64 b.x2, .int .i64 b.x3, .int .i64 b.x4, .int .i64 b.x5, .int .i64 b.x6, .int .i64 b.x7, .bool b.ch, .bool b.od]] w fun e w' => e = .returned (.tuple #[.int .i64 0, .int .i64 0]) ∧ Below w.heap.size w w' from fun w => HZ.out w)
      clear e hZ h0 h1
      go_enter Tryz.func163, Tryz.ntmps163
      go_upto_region 1 with fail
      refine Each.region_all 15 [8, 9, 10, 11, 12, 13, 14, 15, 16, 17, 7, 18, 19, 5, 6]
          [fun v _ => v = .string x,
            fun v _ => v = .pointer (some ⟨g, 0, none⟩),
            fun v _ => v = .pointer (some ⟨g, 0, none⟩),
            fun v _ => v = .pointer (some ⟨g, 13, none⟩),
            fun v _ => v = .int .u32 (p : Int),
            fun v _ => v = .pointer (some ⟨g, 0, none⟩),
            fun v _ => v = .pointer (some ⟨g, 0, none⟩),
            fun v _ => v = .pointer (some ⟨g, 14, none⟩),
            fun v _ => v = .agg #[.int .i64 b.x0, .int .i64 b.x1, .int .i64 b.x2, .int .i64 b.x3, .int .i64 b.x4, .int .i64 b.x5, .int .i64 b.x6, .int .i64 b.x7, .bool b.ch, .bool b.od],
            fun v _ => v = .tuple #[.int .i64 0, .int .i64 0],
            fun v _ => v = .tuple #[.int .i64 0, .int .i64 0],
            fun v _ => v = .int .i64 0,
            fun v _ => v = .int .i64 0,
            fun v _ => v = .int .i64 0,
            fun v _ => v = .int .i64 0]
           (by kernel_rfl) (by kernel_rfl) (by kernel_rfl) (by kernel_rfl) (fun _ _ d _ _ h => by cases d <;> exact h) (by rfl) (by rfl)
          ⟨Each.Lasts.eq _, Each.Lasts.eq _, Each.Lasts.eq _, Each.Lasts.eq _, Each.Lasts.eq _, Each.Lasts.eq _, Each.Lasts.eq _, Each.Lasts.eq _, Each.Lasts.eq _, Each.Lasts.eq _, Each.Lasts.eq _, Each.Lasts.eq _, Each.Lasts.eq _, Each.Lasts.eq _, Each.Lasts.eq _, trivial⟩ ?_ ?_
      · refine ⟨?_, ?_, ?_, ?_, ?_, ?_, ?_, ?_, ?_, ?_, ?_, ?_, ?_, ?_, ?_, trivial⟩
        · refine Each.fine rfl (fun ev w1 hR hb hh => ?_)
          clear hh
          have e1 := hR.old 1 rfl
          simp only [Array.getD_eq_getD_getElem?, List.getElem?_toArray, List.getElem?_cons_succ, List.getElem?_cons_zero, Option.getD_some] at e1
          refine Each.Goes.same ?_
          go_simp
          try with_reducible rfl
        · refine Each.fine rfl (fun ev w1 hR hb hh => ?_)
          clear hh
          have e0 := hR.old 0 rfl
          simp only [Array.getD_eq_getD_getElem?, List.getElem?_toArray, List.getElem?_cons_zero, Option.getD_some] at e0
          refine Each.Goes.same ?_
          go_simp
          try with_reducible rfl
        · refine Each.fine rfl (fun ev w1 hR hb hh => ?_)
          have e9 : (ev (.tmp 9) = .pointer (some ⟨g, 0, none⟩)) := hh.at 0
          clear hh
          refine Each.Goes.same ?_
          go_simp
          try with_reducible rfl
        · refine Each.fine rfl (fun ev w1 hR hb hh => ?_)
          have e10 : (ev (.tmp 10) = .pointer (some ⟨g, 0, none⟩)) := hh.at 0
          clear hh
          refine Each.Goes.same ?_
          go_simp
          try with_reducible rfl
        · refine Each.fine rfl (fun ev w1 hR hb hh => ?_)
          have e11 : (ev (.tmp 11) = .pointer (some ⟨g, 13, none⟩)) := hh.at 0
          clear hh
          have q13 := (HQ.out.below hb).c 13 _ rfl
          refine Each.Goes.same ?_
          go_simp
          try with_reducible rfl
        · refine Each.fine rfl (fun ev w1 hR hb hh => ?_)
          clear hh
          have e0 := hR.old 0 rfl
          simp only [Array.getD_eq_getD_getElem?, List.getElem?_toArray, List.getElem?_cons_zero, Option.getD_some] at e0
          refine Each.Goes.same ?_
          go_simp
          try with_reducible rfl
        · refine Each.fine rfl (fun ev w1 hR hb hh => ?_)
          have e13 : (ev (.tmp 13) = .pointer (some ⟨g, 0, none⟩)) := hh.at 0
          clear hh
          refine Each.Goes.same ?_
          go_simp
          try with_reducible rfl
        · refine Each.fine rfl (fun ev w1 hR hb hh => ?_)
          have e14 : (ev (.tmp 14) = .pointer (some ⟨g, 0, none⟩)) := hh.at 0
          clear hh
          refine Each.Goes.same ?_
          go_simp
          try with_reducible rfl
        · refine Each.fine rfl (fun ev w1 hR hb hh => ?_)
          have e15 : (ev (.tmp 15) = .pointer (some ⟨g, 14, none⟩)) := hh.at 0
          clear hh
          have q14 := (HQ.out.below hb).c 14 _ rfl
          have q15 := (HQ.out.below hb).c 15 _ rfl
          have q16 := (HQ.out.below hb).c 16 _ rfl
          have q17 := (HQ.out.below hb).c 17 _ rfl
          have q18 := (HQ.out.below hb).c 18 _ rfl
          have q19 := (HQ.out.below hb).c 19 _ rfl
          have q20 := (HQ.out.below hb).c 20 _ rfl
          have q21 := (HQ.out.below hb).c 21 _ rfl
          have q22 := (HQ.out.below hb).c 22 _ rfl
          have q23 := (HQ.out.below hb).c 23 _ rfl
          refine Each.Goes.same ?_
          go_simp
          try with_reducible rfl
        · refine Each.fine rfl (fun ev w1 hR hb hh => ?_)
          have e8 : (ev (.tmp 8) = .string x) := hh.at 0
          have e12 : (ev (.tmp 12) = .int .u32 (p : Int)) := hh.at 1
          have e16 : (ev (.tmp 16) = .agg #[.int .i64 b.x0, .int .i64 b.x1, .int .i64 b.x2, .int .i64 b.x3, .int .i64 b.x4, .int .i64 b.x5, .int .i64 b.x6, .int .i64 b.x7, .bool b.ch, .bool b.od]) := hh.at 2
          clear hh
          have ef := hR.func
          refine Each.Goes.enter 185 #[.string x, .int .u32 (p : Int), .agg #[.int .i64 b.x0, .int .i64 b.x1, .int .i64 b.x2, .int .i64 b.x3, .int .i64 b.x4, .int .i64 b.x5, .int .i64 b.x6, .int .i64 b.x7, .bool b.ch, .bool b.od]] (by go_simp) ((HZ.out w1).mono ?_)
          rintro r w2 ⟨rfl, hb2⟩
          exact ⟨_, rfl, hb2, rfl⟩
        · refine Each.fine rfl (fun ev w1 hR hb hh => ?_)
          have e17 : (ev (.tmp 17) = .tuple #[.int .i64 0, .int .i64 0]) := hh.at 0
          clear hh
          refine Each.Goes.same ?_
          go_simp
          try with_reducible rfl
        · refine Each.fine rfl (fun ev w1 hR hb hh => ?_)
          have e7 : (ev (.tmp 7) = .tuple #[.int .i64 0, .int .i64 0]) := hh.at 0
          clear hh
          refine Each.Goes.same ?_
          go_simp
          try with_reducible rfl
        · refine Each.fine rfl (fun ev w1 hR hb hh => ?_)
          have e7 : (ev (.tmp 7) = .tuple #[.int .i64 0, .int .i64 0]) := hh.at 0
          clear hh
          refine Each.Goes.same ?_
          go_simp
          try with_reducible rfl
        · refine Each.fine rfl (fun ev w1 hR hb hh => ?_)
          have e18 : (ev (.tmp 18) = .int .i64 0) := hh.at 0
          clear hh
          refine Each.Goes.same ?_
          go_simp
          try with_reducible rfl
        · refine Each.fine rfl (fun ev w1 hR hb hh => ?_)
          have e19 : (ev (.tmp 19) = .int .i64 0) := hh.at 0
          clear hh
          refine Each.Goes.same ?_
          go_simp
          try with_reducible rfl
      intro g1 w2 hb hf
      have z5 : (g1 5 = .int .i64 0) := hf.at 13
      have z6 : (g1 6 = .int .i64 0) := hf.at 14
      clear hf
      simp only [Each.putg, Act.put, List.setIfInBounds_toArray, List.set_cons_zero, List.set_cons_succ]
      rw [z5]
      rw [z6]
      have H1 := Lib.hid (H.out.below hb); have HB := Lib.hid hb
      clear HQ hb
      have H2 := Lib.hid (H1.out.put 24 (.int .i64 7) { s with st := 7 } rfl rfl rfl rfl rfl rfl)
      have HS2 := Lib.hid ((Step.of_below HB.out (L := blks g q v f bd t o)).trans (Step.set g 24 (.int .i64 7) (by simp)))
      have c24 := H1.out.cs.c24; have z24 := H1.out.marks 24
      go_wp2
      go_ret
      exact ⟨rfl, _, _, _, _, _, _, H2.out, HS2.out⟩
    · obtain ⟨bb, cb, eb, -⟩ := Ln.own_slice H.out.own.D
      subst eb
      have HD := Lib.hid (Base.wrap_in (b.x3 - (s.r.body.length : Int)) (by omega) (by omega))
      have tz : ¬ (n : Int) = 0 := by omega
      have tz' : ((n : Int) == 0) = false := beq_eq_false_iff_ne.2 tz
      by_cases hov : b.x3 - (s.r.body.length : Int) < (n : Int)
      · have e : s.chunk p b x.data.toList = (413, s) := by
          unfold T.chunk
          rw [hZ]
          show (if (0 : Int) ≠ 0 then _ else if (n : Int) = 0 then _ else if b.x3 - (s.r.body.length : Int) < (n : Int) then _ else _) = _
          rw [if_neg (by decide), if_neg tz, if_pos hov]
        rw [e]
        have HT := Lib.hid hov
        clear e hZ h0 h1 hn
        go_enter Tryz.func163, Tryz.ntmps163
        go_upto_region 1 with fail
        refine Each.region_all 15 [8, 9, 10, 11, 12, 13, 14, 15, 16, 17, 7, 18, 19, 5, 6]
            [fun v _ => v = .string x,
              fun v _ => v = .pointer (some ⟨g, 0, none⟩),
              fun v _ => v = .pointer (some ⟨g, 0, none⟩),
              fun v _ => v = .pointer (some ⟨g, 13, none⟩),
              fun v _ => v = .int .u32 (p : Int),
              fun v _ => v = .pointer (some ⟨g, 0, none⟩),
              fun v _ => v = .pointer (some ⟨g, 0, none⟩),
              fun v _ => v = .pointer (some ⟨g, 14, none⟩),
              fun v _ => v = .agg #[.int .i64 b.x0, .int .i64 b.x1, .int .i64 b.x2, .int .i64 b.x3, .int .i64 b.x4, .int .i64 b.x5, .int .i64 b.x6, .int .i64 b.x7, .bool b.ch, .bool b.od],
              fun v _ => v = .tuple #[.int .i64 (n : Int), .int .i64 0],
              fun v _ => v = .tuple #[.int .i64 (n : Int), .int .i64 0],
              fun v _ => v = .int .i64 (n : Int),
              fun v _ => v = .int .i64 0,
              fun v _ => v = .int .i64 (n : Int),
              fun v _ => v = .int .i64 0]
             (by kernel_rfl) (by kernel_rfl) (by kernel_rfl) (by kernel_rfl) (fun _ _ d _ _ h => by cases d <;> exact h) (by rfl) (by rfl)
            ⟨Each.Lasts.eq _, Each.Lasts.eq _, Each.Lasts.eq _, Each.Lasts.eq _, Each.Lasts.eq _, Each.Lasts.eq _, Each.Lasts.eq _, Each.Lasts.eq _, Each.Lasts.eq _, Each.Lasts.eq _, Each.Lasts.eq _, Each.Lasts.eq _, Each.Lasts.eq _, Each.Lasts.eq _, Each.Lasts.eq _, trivial⟩ ?_ ?_
        · refine ⟨?_, ?_, ?_, ?_, ?_, ?_, ?_, ?_, ?_, ?_, ?_, ?_, ?_, ?_, ?_, trivial⟩
          · refine Each.fine rfl (fun ev w1 hR hb hh => ?_)
            clear hh
            have e1 := hR.old 1 rfl
            simp only [Array.getD_eq_getD_getElem?, List.getElem?_toArray, List.getElem?_cons_succ, List.getElem?_cons_zero, Option.getD_some] at e1
            refine Each.Goes.same ?_
            go_simp
            try with_reducible rfl
          · refine Each.fine rfl (fun ev w1 hR hb hh => ?_)
            clear hh
            have e0 := hR.old 0 rfl
            simp only [Array.getD_eq_getD_getElem?, List.getElem?_toArray, List.getElem?_cons_zero, Option.getD_some] at e0
            refine Each.Goes.same ?_
            go_simp
            try with_reducible rfl
          · refine Each.fine rfl (fun ev w1 hR hb hh => ?_)
            have e9 : (ev (.tmp 9) = .pointer (some ⟨g, 0, none⟩)) := hh.at 0
            clear hh
            refine Each.Goes.same ?_
            go_simp
            try with_reducible rfl
          · refine Each.fine rfl (fun ev w1 hR hb hh => ?_)
            have e10 : (ev (.tmp 10) = .pointer (some ⟨g, 0, none⟩)) := hh.at 0
            clear hh
            refine Each.Goes.same ?_
            go_simp
            try with_reducible rfl
          · refine Each.fine rfl (fun ev w1 hR hb hh => ?_)
            have e11 : (ev (.tmp 11) = .pointer (some ⟨g, 13, none⟩)) := hh.at 0
            clear hh
            have q13 := (HQ.out.below hb).c 13 _ rfl
            refine Each.Goes.same ?_
            go_simp
            try with_reducible rfl
          · refine Each.fine rfl (fun ev w1 hR hb hh => ?_)
            clear hh
            have e0 := hR.old 0 rfl
            simp only [Array.getD_eq_getD_getElem?, List.getElem?_toArray, List.getElem?_cons_zero, Option.getD_some] at e0
            refine Each.Goes.same ?_
            go_simp
            try with_reducible rfl
          · refine Each.fine rfl (fun ev w1 hR hb hh => ?_)
            have e13 : (ev (.tmp 13) = .pointer (some ⟨g, 0, none⟩)) := hh.at 0
            clear hh
            refine Each.Goes.same ?_
            go_simp
            try with_reducible rfl
          · refine Each.fine rfl (fun ev w1 hR hb hh => ?_)
            have e14 : (ev (.tmp 14) = .pointer (some ⟨g, 0, none⟩)) := hh.at 0
            clear hh
            refine Each.Goes.same ?_
            go_simp
            try with_reducible rfl
          · refine Each.fine rfl (fun ev w1 hR hb hh => ?_)
            have e15 : (ev (.tmp 15) = .pointer (some ⟨g, 14, none⟩)) := hh.at 0
            clear hh
            have q14 := (HQ.out.below hb).c 14 _ rfl
            have q15 := (HQ.out.below hb).c 15 _ rfl
            have q16 := (HQ.out.below hb).c 16 _ rfl
            have q17 := (HQ.out.below hb).c 17 _ rfl
            have q18 := (HQ.out.below hb).c 18 _ rfl
            have q19 := (HQ.out.below hb).c 19 _ rfl
            have q20 := (HQ.out.below hb).c 20 _ rfl
            have q21 := (HQ.out.below hb).c 21 _ rfl
            have q22 := (HQ.out.below hb).c 22 _ rfl
            have q23 := (HQ.out.below hb).c 23 _ rfl
            refine Each.Goes.same ?_
            go_simp
            try with_reducible rfl
          · refine Each.fine rfl (fun ev w1 hR hb hh => ?_)
            have e8 : (ev (.tmp 8) = .string x) := hh.at 0
            have e12 : (ev (.tmp 12) = .int .u32 (p : Int)) := hh.at 1
            have e16 : (ev (.tmp 16) = .agg #[.int .i64 b.x0, .int .i64 b.x1, .int .i64 b.x2, .int .i64 b.x3, .int .i64 b.x4, .int .i64 b.x5, .int .i64 b.x6, .int .i64 b.x7, .bool b.ch, .bool b.od]) := hh.at 2
            clear hh
            have ef := hR.func
            refine Each.Goes.enter 185 #[.string x, .int .u32 (p : Int), .agg #[.int .i64 b.x0, .int .i64 b.x1, .int .i64 b.x2, .int .i64 b.x3, .int .i64 b.x4, .int .i64 b.x5, .int .i64 b.x6, .int .i64 b.x7, .bool b.ch, .bool b.od]] (by go_simp) ((HZ.out w1).mono ?_)
            rintro r w2 ⟨rfl, hb2⟩
            exact ⟨_, rfl, hb2, rfl⟩
          · refine Each.fine rfl (fun ev w1 hR hb hh => ?_)
            have e17 : (ev (.tmp 17) = .tuple #[.int .i64 (n : Int), .int .i64 0]) := hh.at 0
            clear hh
            refine Each.Goes.same ?_
            go_simp
            try with_reducible rfl
          · refine Each.fine rfl (fun ev w1 hR hb hh => ?_)
            have e7 : (ev (.tmp 7) = .tuple #[.int .i64 (n : Int), .int .i64 0]) := hh.at 0
            clear hh
            refine Each.Goes.same ?_
            go_simp
            try with_reducible rfl
          · refine Each.fine rfl (fun ev w1 hR hb hh => ?_)
            have e7 : (ev (.tmp 7) = .tuple #[.int .i64 (n : Int), .int .i64 0]) := hh.at 0
            clear hh
            refine Each.Goes.same ?_
            go_simp
            try with_reducible rfl
          · refine Each.fine rfl (fun ev w1 hR hb hh => ?_)
            have e18 : (ev (.tmp 18) = .int .i64 (n : Int)) := hh.at 0
            clear hh
            refine Each.Goes.same ?_
            go_simp
            try with_reducible rfl
          · refine Each.fine rfl (fun ev w1 hR hb hh => ?_)
            have e19 : (ev (.tmp 19) = .int .i64 0) := hh.at 0
            clear hh
            refine Each.Goes.same ?_
            go_simp
            try with_reducible rfl
        intro g1 w2 hb hf
        have z5 : (g1 5 = .int .i64 (n : Int)) := hf.at 13
        have z6 : (g1 6 = .int .i64 0) := hf.at 14
        clear hf
        simp only [Each.putg, Act.put, List.setIfInBounds_toArray, List.set_cons_zero, List.set_cons_succ]
        rw [z5]
        rw [z6]
        have H1 := Lib.hid (H.out.below hb); have HB := Lib.hid hb
        clear HQ hb
        go_upto_region 8 with fail
        have HQ := Lib.hid ((H1.out.drew 1).bk)
        refine Each.region_all 15 [39, 40, 41, 42, 43, 44, 45, 46, 47, 48, 49, 50, 51, 52, 38]
            [fun v _ => v = .int .i64 ((n : Nat) : Int),
              fun v _ => v = .pointer (some ⟨g, 0, none⟩),
              fun v _ => v = .pointer (some ⟨g, 0, none⟩),
              fun v _ => v = .pointer (some ⟨g, 14, none⟩),
              fun v _ => v = .pointer (some ⟨g, 17, none⟩),
              fun v _ => v = .int .i64 b.x3,
              fun v _ => v = .pointer (some ⟨g, 0, none⟩),
              fun v _ => v = .pointer (some ⟨g, 0, none⟩),
              fun v _ => v = .pointer (some ⟨g, 8, none⟩),
              fun v _ => v = .pointer (some ⟨g, 11, none⟩),
              fun v _ => v = .slice bb s.r.body.length cb,
              fun v _ => v = .int .i64 ((s.r.body.length : Nat) : Int),
              fun v _ => v = .int .i64 (b.x3 - (s.r.body.length : Int)),
              fun v _ => v = .bool true,
              fun v _ => v = .bool true]
             (by kernel_rfl) (by kernel_rfl) (by kernel_rfl) (by kernel_rfl) (fun _ _ d _ _ h => by cases d <;> exact h) (by rfl) (by rfl)
            ⟨Each.Lasts.eq _, Each.Lasts.eq _, Each.Lasts.eq _, Each.Lasts.eq _, Each.Lasts.eq _, Each.Lasts.eq _, Each.Lasts.eq _, Each.Lasts.eq _, Each.Lasts.eq _, Each.Lasts.eq _, Each.Lasts.eq _, Each.Lasts.eq _, Each.Lasts.eq _, Each.Lasts.eq _, Each.Lasts.eq _, trivial⟩ ?_ ?_
        · refine ⟨?_, ?_, ?_, ?_, ?_, ?_, ?_, ?_, ?_, ?_, ?_, ?_, ?_, ?_, ?_, trivial⟩
          · refine Each.fine rfl (fun ev w1 hR hb hh => ?_)
            clear hh
            have e5 := hR.old 5 rfl
            simp only [Array.getD_eq_getD_getElem?, List.getElem?_toArray, List.getElem?_cons_succ, List.getElem?_cons_zero, Option.getD_some] at e5
            refine Each.Goes.same ?_
            go_simp
            try with_reducible rfl
          · refine Each.fine rfl (fun ev w1 hR hb hh => ?_)
            clear hh
            have e0 := hR.old 0 rfl
            simp only [Array.getD_eq_getD_getElem?, List.getElem?_toArray, List.getElem?_cons_zero, Option.getD_some] at e0
            refine Each.Goes.same ?_
            go_simp
            try with_reducible rfl
          · refine Each.fine rfl (fun ev w1 hR hb hh => ?_)
            have e40 : (ev (.tmp 40) = .pointer (some ⟨g, 0, none⟩)) := hh.at 0
            clear hh
            refine Each.Goes.same ?_
            go_simp
            try with_reducible rfl
          · refine Each.fine rfl (fun ev w1 hR hb hh => ?_)
            have e41 : (ev (.tmp 41) = .pointer (some ⟨g, 0, none⟩)) := hh.at 0
            clear hh
            refine Each.Goes.same ?_
            go_simp
            try with_reducible rfl
          · refine Each.fine rfl (fun ev w1 hR hb hh => ?_)
            have e42 : (ev (.tmp 42) = .pointer (some ⟨g, 14, none⟩)) := hh.at 0
            clear hh
            refine Each.Goes.same ?_
            go_simp
            try with_reducible rfl
          · refine Each.fine rfl (fun ev w1 hR hb hh => ?_)
            have e43 : (ev (.tmp 43) = .pointer (some ⟨g, 17, none⟩)) := hh.at 0
            clear hh
            have q17 := (HQ.out.below hb).c 17 _ rfl
            refine Each.Goes.same ?_
            go_simp
            try with_reducible rfl
          · refine Each.fine rfl (fun ev w1 hR hb hh => ?_)
            clear hh
            have e0 := hR.old 0 rfl
            simp only [Array.getD_eq_getD_getElem?, List.getElem?_toArray, List.getElem?_cons_zero, Option.getD_some] at e0
            refine Each.Goes.same ?_
            go_simp
            try with_reducible rfl
          · refine Each.fine rfl (fun ev w1 hR hb hh => ?_)
            have e45 : (ev (.tmp 45) = .pointer (some ⟨g, 0, none⟩)) := hh.at 0
            clear hh
            refine Each.Goes.same ?_
            go_simp
            try with_reducible rfl
          · refine Each.fine rfl (fun ev w1 hR hb hh => ?_)
            have e46 : (ev (.tmp 46) = .pointer (some ⟨g, 0, none⟩)) := hh.at 0
            clear hh
            refine Each.Goes.same ?_
            go_simp
            try with_reducible rfl
          · refine Each.fine rfl (fun ev w1 hR hb hh => ?_)
            have e47 : (ev (.tmp 47) = .pointer (some ⟨g, 8, none⟩)) := hh.at 0
            clear hh
            refine Each.Goes.same ?_
            go_simp
            try with_reducible rfl
          · refine Each.fine rfl (fun ev w1 hR hb hh => ?_)
            have e48 : (ev (.tmp 48) = .pointer (some ⟨g, 11, none⟩)) := hh.at 0
            clear hh
            have q11 := (HQ.out.below hb).c 11 _ rfl
            refine Each.Goes.same ?_
            go_simp
            try with_reducible rfl
          · refine Each.fine rfl (fun ev w1 hR hb hh => ?_)
            have e49 : (ev (.tmp 49) = .slice bb s.r.body.length cb) := hh.at 0
            clear hh
            refine Each.Goes.same ?_
            go_simp
            try with_reducible rfl
          · refine Each.fine rfl (fun ev w1 hR hb hh => ?_)
            have e44 : (ev (.tmp 44) = .int .i64 b.x3) := hh.at 0
            have e50 : (ev (.tmp 50) = .int .i64 ((s.r.body.length : Nat) : Int)) := hh.at 1
            clear hh
            have d1 := HD.out
            refine Each.Goes.same ?_
            go_simp
            try with_reducible rfl
          · refine Each.fine rfl (fun ev w1 hR hb hh => ?_)
            have e39 : (ev (.tmp 39) = .int .i64 ((n : Nat) : Int)) := hh.at 0
            have e51 : (ev (.tmp 51) = .int .i64 (b.x3 - (s.r.body.length : Int))) := hh.at 1
            clear hh
            have d2 := HT.out
            refine Each.Goes.same ?_
            go_simp
            try with_reducible rfl
          · refine Each.fine rfl (fun ev w1 hR hb hh => ?_)
            have e52 : (ev (.tmp 52) = .bool true) := hh.at 0
            clear hh
            refine Each.Goes.same ?_
            go_simp
            try with_reducible rfl
        intro g1 w3 hb hf
        have z38 : (g1 38 = .bool true) := hf.at 14
        clear hf
        simp only [Each.putg, Act.put, List.setIfInBounds_toArray, List.set_cons_zero, List.set_cons_succ]
        rw [z38]
        have H2 := Lib.hid (H1.out.below hb); have HS2 := Lib.hid ((Step.of_below HB.out (L := blks g q v f (.slice bb s.r.body.length cb) t o)).trans (Step.of_below hb))
        clear H1 HB hb HQ
        go_wp2
        go_ret
        exact ⟨rfl, _, _, _, _, _, _, H2.out, HS2.out⟩
      · have e : s.chunk p b x.data.toList = (0, { s with st := 5, left := n }) := by
          unfold T.chunk
          rw [hZ]
          show (if (0 : Int) ≠ 0 then _ else if (n : Int) = 0 then _ else if b.x3 - (s.r.body.length : Int) < (n : Int) then _ else (0, ({ s with left := (n : Int).toNat, st := 5 } : T))) = _
          rw [if_neg (by decide), if_neg tz, if_neg hov, Int.toNat_natCast]
        rw [e]
        have HT := Lib.hid hov
        clear e hZ h0 h1 hn
        go_enter Tryz.func163, Tryz.ntmps163
        go_upto_region 1 with fail
        refine Each.region_all 15 [8, 9, 10, 11, 12, 13, 14, 15, 16, 17, 7, 18, 19, 5, 6]
            [fun v _ => v = .string x,
              fun v _ => v = .pointer (some ⟨g, 0, none⟩),
              fun v _ => v = .pointer (some ⟨g, 0, none⟩),
              fun v _ => v = .pointer (some ⟨g, 13, none⟩),
              fun v _ => v = .int .u32 (p : Int),
              fun v _ => v = .pointer (some ⟨g, 0, none⟩),
              fun v _ => v = .pointer (some ⟨g, 0, none⟩),
              fun v _ => v = .pointer (some ⟨g, 14, none⟩),
              fun v _ => v = .agg #[.int .i64 b.x0, .int .i64 b.x1, .int .i64 b.x2, .int .i64 b.x3, .int .i64 b.x4, .int .i64 b.x5, .int .i64 b.x6, .int .i64 b.x7, .bool b.ch, .bool b.od],
              fun v _ => v = .tuple #[.int .i64 (n : Int), .int .i64 0],
              fun v _ => v = .tuple #[.int .i64 (n : Int), .int .i64 0],
              fun v _ => v = .int .i64 (n : Int),
              fun v _ => v = .int .i64 0,
              fun v _ => v = .int .i64 (n : Int),
              fun v _ => v = .int .i64 0]
             (by kernel_rfl) (by kernel_rfl) (by kernel_rfl) (by kernel_rfl) (fun _ _ d _ _ h => by cases d <;> exact h) (by rfl) (by rfl)
            ⟨Each.Lasts.eq _, Each.Lasts.eq _, Each.Lasts.eq _, Each.Lasts.eq _, Each.Lasts.eq _, Each.Lasts.eq _, Each.Lasts.eq _, Each.Lasts.eq _, Each.Lasts.eq _, Each.Lasts.eq _, Each.Lasts.eq _, Each.Lasts.eq _, Each.Lasts.eq _, Each.Lasts.eq _, Each.Lasts.eq _, trivial⟩ ?_ ?_
        · refine ⟨?_, ?_, ?_, ?_, ?_, ?_, ?_, ?_, ?_, ?_, ?_, ?_, ?_, ?_, ?_, trivial⟩
          · refine Each.fine rfl (fun ev w1 hR hb hh => ?_)
            clear hh
            have e1 := hR.old 1 rfl
            simp only [Array.getD_eq_getD_getElem?, List.getElem?_toArray, List.getElem?_cons_succ, List.getElem?_cons_zero, Option.getD_some] at e1
            refine Each.Goes.same ?_
            go_simp
            try with_reducible rfl
          · refine Each.fine rfl (fun ev w1 hR hb hh => ?_)
            clear hh
            have e0 := hR.old 0 rfl
            simp only [Array.getD_eq_getD_getElem?, List.getElem?_toArray, List.getElem?_cons_zero, Option.getD_some] at e0
            refine Each.Goes.same ?_
            go_simp
            try with_reducible rfl
          · refine Each.fine rfl (fun ev w1 hR hb hh => ?_)
            have e9 : (ev (.tmp 9) = .pointer (some ⟨g, 0, none⟩)) := hh.at 0
            clear hh
            refine Each.Goes.same ?_
            go_simp
            try with_reducible rfl
          · refine Each.fine rfl (fun ev w1 hR hb hh => ?_)
            have e10 : (ev (.tmp 10) = .pointer (some ⟨g, 0, none⟩)) := hh.at 0
            clear hh
            refine Each.Goes.same ?_
            go_simp
            try with_reducible rfl
          · refine Each.fine rfl (fun ev w1 hR hb hh => ?_)
            have e11 : (ev (.tmp 11) = .pointer (some ⟨g, 13, none⟩)) := hh.at 0
            clear hh
            have q13 := (HQ.out.below hb).c 13 _ rfl
            refine Each.Goes.same ?_
            go_simp
            try with_reducible rfl
          · refine Each.fine rfl (fun ev w1 hR hb hh => ?_)
            clear hh
            have e0 := hR.old 0 rfl
            simp only [Array.getD_eq_getD_getElem?, List.getElem?_toArray, List.getElem?_cons_zero, Option.getD_some] at e0
            refine Each.Goes.same ?_
            go_simp
            try with_reducible rfl
          · refine Each.fine rfl (fun ev w1 hR hb hh => ?_)
            have e13 : (ev (.tmp 13) = .pointer (some ⟨g, 0, none⟩)) := hh.at 0
            clear hh
            refine Each.Goes.same ?_
            go_simp
            try with_reducible rfl
          · refine Each.fine rfl (fun ev w1 hR hb hh => ?_)
            have e14 : (ev (.tmp 14) = .pointer (some ⟨g, 0, none⟩)) := hh.at 0
            clear hh
            refine Each.Goes.same ?_
            go_simp
            try with_reducible rfl
          · refine Each.fine rfl (fun ev w1 hR hb hh => ?_)
            have e15 : (ev (.tmp 15) = .pointer (some ⟨g, 14, none⟩)) := hh.at 0
            clear hh
            have q14 := (HQ.out.below hb).c 14 _ rfl
            have q15 := (HQ.out.below hb).c 15 _ rfl
            have q16 := (HQ.out.below hb).c 16 _ rfl
            have q17 := (HQ.out.below hb).c 17 _ rfl
            have q18 := (HQ.out.below hb).c 18 _ rfl
            have q19 := (HQ.out.below hb).c 19 _ rfl
            have q20 := (HQ.out.below hb).c 20 _ rfl
            have q21 := (HQ.out.below hb).c 21 _ rfl
            have q22 := (HQ.out.below hb).c 22 _ rfl
            have q23 := (HQ.out.below hb).c 23 _ rfl
            refine Each.Goes.same ?_
            go_simp
            try with_reducible rfl
          · refine Each.fine rfl (fun ev w1 hR hb hh => ?_)
            have e8 : (ev (.tmp 8) = .string x) := hh.at 0
            have e12 : (ev (.tmp 12) = .int .u32 (p : Int)) := hh.at 1
            have e16 : (ev (.tmp 16) = .agg #[.int .i64 b.x0, .int .i64 b.x1, .int .i64 b.x2, .int .i64 b.x3, .int .i64 b.x4, .int .i64 b.x5, .int .i64 b.x6, .int .i64 b.x7, .bool b.ch, .bool b.od]) := hh.at 2
            clear hh
            have ef := hR.func
            refine Each.Goes.enter 185 #[.string x, .int .u32 (p : Int), .agg #[.int .i64 b.x0, .int .i64 b.x1, .int .i64 b.x2, .int .i64 b.x3, .int .i64 b.x4, .int .i64 b.x5, .int .i64 b.x6, .int .i64 b.x7, .bool b.ch, .bool b.od]] (by go_simp) ((HZ.out w1).mono ?_)
            rintro r w2 ⟨rfl, hb2⟩
            exact ⟨_, rfl, hb2, rfl⟩
          · refine Each.fine rfl (fun ev w1 hR hb hh => ?_)
            have e17 : (ev (.tmp 17) = .tuple #[.int .i64 (n : Int), .int .i64 0]) := hh.at 0
            clear hh
            refine Each.Goes.same ?_
            go_simp
            try with_reducible rfl
          · refine Each.fine rfl (fun ev w1 hR hb hh => ?_)
            have e7 : (ev (.tmp 7) = .tuple #[.int .i64 (n : Int), .int .i64 0]) := hh.at 0
            clear hh
            refine Each.Goes.same ?_
            go_simp
            try with_reducible rfl
          · refine Each.fine rfl (fun ev w1 hR hb hh => ?_)
            have e7 : (ev (.tmp 7) = .tuple #[.int .i64 (n : Int), .int .i64 0]) := hh.at 0
            clear hh
            refine Each.Goes.same ?_
            go_simp
            try with_reducible rfl
          · refine Each.fine rfl (fun ev w1 hR hb hh => ?_)
            have e18 : (ev (.tmp 18) = .int .i64 (n : Int)) := hh.at 0
            clear hh
            refine Each.Goes.same ?_
            go_simp
            try with_reducible rfl
          · refine Each.fine rfl (fun ev w1 hR hb hh => ?_)
            have e19 : (ev (.tmp 19) = .int .i64 0) := hh.at 0
            clear hh
            refine Each.Goes.same ?_
            go_simp
            try with_reducible rfl
        intro g1 w2 hb hf
        have z5 : (g1 5 = .int .i64 (n : Int)) := hf.at 13
        have z6 : (g1 6 = .int .i64 0) := hf.at 14
        clear hf
        simp only [Each.putg, Act.put, List.setIfInBounds_toArray, List.set_cons_zero, List.set_cons_succ]
        rw [z5]
        rw [z6]
        have H1 := Lib.hid (H.out.below hb); have HB := Lib.hid hb
        clear HQ hb
        go_upto_region 8 with fail
        have HQ := Lib.hid ((H1.out.drew 1).bk)
        refine Each.region_all 15 [39, 40, 41, 42, 43, 44, 45, 46, 47, 48, 49, 50, 51, 52, 38]
            [fun v _ => v = .int .i64 ((n : Nat) : Int),
              fun v _ => v = .pointer (some ⟨g, 0, none⟩),
              fun v _ => v = .pointer (some ⟨g, 0, none⟩),
              fun v _ => v = .pointer (some ⟨g, 14, none⟩),
              fun v _ => v = .pointer (some ⟨g, 17, none⟩),
              fun v _ => v = .int .i64 b.x3,
              fun v _ => v = .pointer (some ⟨g, 0, none⟩),
              fun v _ => v = .pointer (some ⟨g, 0, none⟩),
              fun v _ => v = .pointer (some ⟨g, 8, none⟩),
              fun v _ => v = .pointer (some ⟨g, 11, none⟩),
              fun v _ => v = .slice bb s.r.body.length cb,
              fun v _ => v = .int .i64 ((s.r.body.length : Nat) : Int),
              fun v _ => v = .int .i64 (b.x3 - (s.r.body.length : Int)),
              fun v _ => v = .bool false,
              fun v _ => v = .bool false]
             (by kernel_rfl) (by kernel_rfl) (by kernel_rfl) (by kernel_rfl) (fun _ _ d _ _ h => by cases d <;> exact h) (by rfl) (by rfl)
            ⟨Each.Lasts.eq _, Each.Lasts.eq _, Each.Lasts.eq _, Each.Lasts.eq _, Each.Lasts.eq _, Each.Lasts.eq _, Each.Lasts.eq _, Each.Lasts.eq _, Each.Lasts.eq _, Each.Lasts.eq _, Each.Lasts.eq _, Each.Lasts.eq _, Each.Lasts.eq _, Each.Lasts.eq _, Each.Lasts.eq _, trivial⟩ ?_ ?_
        · refine ⟨?_, ?_, ?_, ?_, ?_, ?_, ?_, ?_, ?_, ?_, ?_, ?_, ?_, ?_, ?_, trivial⟩
          · refine Each.fine rfl (fun ev w1 hR hb hh => ?_)
            clear hh
            have e5 := hR.old 5 rfl
            simp only [Array.getD_eq_getD_getElem?, List.getElem?_toArray, List.getElem?_cons_succ, List.getElem?_cons_zero, Option.getD_some] at e5
            refine Each.Goes.same ?_
            go_simp
            try with_reducible rfl
          · refine Each.fine rfl (fun ev w1 hR hb hh => ?_)
            clear hh
            have e0 := hR.old 0 rfl
            simp only [Array.getD_eq_getD_getElem?, List.getElem?_toArray, List.getElem?_cons_zero, Option.getD_some] at e0
            refine Each.Goes.same ?_
            go_simp
            try with_reducible rfl
          · refine Each.fine rfl (fun ev w1 hR hb hh => ?_)
            have e40 : (ev (.tmp 40) = .pointer (some ⟨g, 0, none⟩)) := hh.at 0
            clear hh
            refine Each.Goes.same ?_
            go_simp
            try with_reducible rfl
          · refine Each.fine rfl (fun ev w1 hR hb hh => ?_)
            have e41 : (ev (.tmp 41) = .pointer (some ⟨g, 0, none⟩)) := hh.at 0
            clear hh
            refine Each.Goes.same ?_
            go_simp
            try with_reducible rfl
          · refine Each.fine rfl (fun ev w1 hR hb hh => ?_)
            have e42 : (ev (.tmp 42) = .pointer (some ⟨g, 14, none⟩)) := hh.at 0
            clear hh
            refine Each.Goes.same ?_
            go_simp
            try with_reducible rfl
          · refine Each.fine rfl (fun ev w1 hR hb hh => ?_)
            have e43 : (ev (.tmp 43) = .pointer (some ⟨g, 17, none⟩)) := hh.at 0
            clear hh
            have q17 := (HQ.out.below hb).c 17 _ rfl
            refine Each.Goes.same ?_
            go_simp
            try with_reducible rfl
          · refine Each.fine rfl (fun ev w1 hR hb hh => ?_)
            clear hh
            have e0 := hR.old 0 rfl
            simp only [Array.getD_eq_getD_getElem?, List.getElem?_toArray, List.getElem?_cons_zero, Option.getD_some] at e0
            refine Each.Goes.same ?_
            go_simp
            try with_reducible rfl
          · refine Each.fine rfl (fun ev w1 hR hb hh => ?_)
            have e45 : (ev (.tmp 45) = .pointer (some ⟨g, 0, none⟩)) := hh.at 0
            clear hh
            refine Each.Goes.same ?_
            go_simp
            try with_reducible rfl
          · refine Each.fine rfl (fun ev w1 hR hb hh => ?_)
            have e46 : (ev (.tmp 46) = .pointer (some ⟨g, 0, none⟩)) := hh.at 0
            clear hh
            refine Each.Goes.same ?_
            go_simp
            try with_reducible rfl
          · refine Each.fine rfl (fun ev w1 hR hb hh => ?_)
            have e47 : (ev (.tmp 47) = .pointer (some ⟨g, 8, none⟩)) := hh.at 0
            clear hh
            refine Each.Goes.same ?_
            go_simp
            try with_reducible rfl
          · refine Each.fine rfl (fun ev w1 hR hb hh => ?_)
            have e48 : (ev (.tmp 48) = .pointer (some ⟨g, 11, none⟩)) := hh.at 0
            clear hh
            have q11 := (HQ.out.below hb).c 11 _ rfl
            refine Each.Goes.same ?_
            go_simp
            try with_reducible rfl
          · refine Each.fine rfl (fun ev w1 hR hb hh => ?_)
            have e49 : (ev (.tmp 49) = .slice bb s.r.body.length cb) := hh.at 0
            clear hh
            refine Each.Goes.same ?_
            go_simp
            try with_reducible rfl
          · refine Each.fine rfl (fun ev w1 hR hb hh => ?_)
            have e44 : (ev (.tmp 44) = .int .i64 b.x3) := hh.at 0
            have e50 : (ev (.tmp 50) = .int .i64 ((s.r.body.length : Nat) : Int)) := hh.at 1
            clear hh
            have d1 := HD.out
            refine Each.Goes.same ?_
            go_simp
            try with_reducible rfl
          · refine Each.fine rfl (fun ev w1 hR hb hh => ?_)
            have e39 : (ev (.tmp 39) = .int .i64 ((n : Nat) : Int)) := hh.at 0
            have e51 : (ev (.tmp 51) = .int .i64 (b.x3 - (s.r.body.length : Int))) := hh.at 1
            clear hh
            have d2 := HT.out
            refine Each.Goes.same ?_
            go_simp
            try with_reducible rfl
          · refine Each.fine rfl (fun ev w1 hR hb hh => ?_)
            have e52 : (ev (.tmp 52) = .bool false) := hh.at 0
            clear hh
            refine Each.Goes.same ?_
            go_simp
            try with_reducible rfl
        intro g1 w3 hb hf
        have z38 : (g1 38 = .bool false) := hf.at 14
        clear hf
        simp only [Each.putg, Act.put, List.setIfInBounds_toArray, List.set_cons_zero, List.set_cons_succ]
        rw [z38]
        have H2 := Lib.hid (H1.out.below hb); have HS2 := Lib.hid ((Step.of_below HB.out (L := blks g q v f (.slice bb s.r.body.length cb) t o)).trans (Step.of_below hb))
        clear H1 HB hb HQ
        have H3 := Lib.hid ((H2.out.put 12 (.int .i64 (n : Int)) { s with left := n } rfl rfl rfl rfl rfl rfl).put 24 (.int .i64 5) { s with left := n, st := 5 } rfl rfl rfl rfl rfl rfl)
        have HS3 := Lib.hid (HS2.out.trans ((Step.set g 12 (.int .i64 (n : Int)) (by simp)).trans (Step.set g 24 (.int .i64 5) (by simp))))
        have c12 := H2.out.cs.c12; have z12 := H2.out.marks 12; have c24 := H2.out.cs.c24; have z24 := H2.out.marks 24
        go_wp2
        go_ret
        exact ⟨rfl, _, _, _, _, _, _, H3.out, HS3.out⟩
  · have e2 : z2 = 400 := e2
    subst e2
    have HZ := Lib.hid (show ∀ w, Calls Tryz.prog 185 #[.string x, .int .u32 (p : Int), .agg #[.int .i64 b.x0, .int .i64 b.x1, .int .i64 b.x2, .int .i64 b.x3, .int .i64 b.x4, .int .i64 b.x5, .int .i64 b.x6, .int .i64 b.x7, .bool b.ch, .bool b.od]] w fun e w' => e = .returned (.tuple #[.int .i64 z1, .int .i64 400]) ∧ Below w.heap.size w w' from fun w => by have := hz w; rw [hZ] at this; exact this)
    have e : s.chunk p b x.data.toList = (400, s) := by unfold T.chunk; rw [hZ]; rfl
    rw [e]
    clear hz hZ e
    go_enter Tryz.func163, Tryz.ntmps163
    go_upto_region 1 with fail
    refine Each.region_all 15 [8, 9, 10, 11, 12, 13, 14, 15, 16, 17, 7, 18, 19, 5, 6]
        [fun v _ => v = .string x,
          fun v _ => v = .pointer (some ⟨g, 0, none⟩),
          fun v _ => v = .pointer (some ⟨g, 0, none⟩),
          fun v _ => v = .pointer (some ⟨g, 13, none⟩),
          fun v _ => v = .int .u32 (p : Int),
          fun v _ => v = .pointer (some ⟨g, 0, none⟩),
          fun v _ => v = .pointer (some ⟨g, 0, none⟩),
          fun v _ => v = .pointer (some ⟨g, 14, none⟩),
          fun v _ => v = .agg #[.int .i64 b.x0, .int .i64 b.x1, .int .i64 b.x2, .int .i64 b.x3, .int .i64 b.x4, .int .i64 b.x5, .int .i64 b.x6, .int .i64 b.x7, .bool b.ch, .bool b.od],
          fun v _ => v = .tuple #[.int .i64 z1, .int .i64 400],
          fun v _ => v = .tuple #[.int .i64 z1, .int .i64 400],
          fun v _ => v = .int .i64 z1,
          fun v _ => v = .int .i64 400,
          fun v _ => v = .int .i64 z1,
          fun v _ => v = .int .i64 400]
         (by kernel_rfl) (by kernel_rfl) (by kernel_rfl) (by kernel_rfl) (fun _ _ d _ _ h => by cases d <;> exact h) (by rfl) (by rfl)
        ⟨Each.Lasts.eq _, Each.Lasts.eq _, Each.Lasts.eq _, Each.Lasts.eq _, Each.Lasts.eq _, Each.Lasts.eq _, Each.Lasts.eq _, Each.Lasts.eq _, Each.Lasts.eq _, Each.Lasts.eq _, Each.Lasts.eq _, Each.Lasts.eq _, Each.Lasts.eq _, Each.Lasts.eq _, Each.Lasts.eq _, trivial⟩ ?_ ?_
    · refine ⟨?_, ?_, ?_, ?_, ?_, ?_, ?_, ?_, ?_, ?_, ?_, ?_, ?_, ?_, ?_, trivial⟩
      · refine Each.fine rfl (fun ev w1 hR hb hh => ?_)
        clear hh
        have e1 := hR.old 1 rfl
        simp only [Array.getD_eq_getD_getElem?, List.getElem?_toArray, List.getElem?_cons_succ, List.getElem?_cons_zero, Option.getD_some] at e1
        refine Each.Goes.same ?_
        go_simp
        try with_reducible rfl
      · refine Each.fine rfl (fun ev w1 hR hb hh => ?_)
        clear hh
        have e0 := hR.old 0 rfl
        simp only [Array.getD_eq_getD_getElem?, List.getElem?_toArray, List.getElem?_cons_zero, Option.getD_some] at e0
        refine Each.Goes.same ?_
        go_simp
        try with_reducible rfl
      · refine Each.fine rfl (fun ev w1 hR hb hh => ?_)
        have e9 : (ev (.tmp 9) = .pointer (some ⟨g, 0, none⟩)) := hh.at 0
        clear hh
        refine Each.Goes.same ?_
        go_simp
        try with_reducible rfl
      · refine Each.fine rfl (fun ev w1 hR hb hh => ?_)
        have e10 : (ev (.tmp 10) = .pointer (some ⟨g, 0, none⟩)) := hh.at 0
        clear hh
        refine Each.Goes.same ?_
        go_simp
        try with_reducible rfl
      · refine Each.fine rfl (fun ev w1 hR hb hh => ?_)
        have e11 : (ev (.tmp 11) = .pointer (some ⟨g, 13, none⟩)) := hh.at 0
        clear hh
        have q13 := (HQ.out.below hb).c 13 _ rfl
        refine Each.Goes.same ?_
        go_simp
        try with_reducible rfl
      · refine Each.fine rfl (fun ev w1 hR hb hh => ?_)
        clear hh
        have e0 := hR.old 0 rfl
        simp only [Array.getD_eq_getD_getElem?, List.getElem?_toArray, List.getElem?_cons_zero, Option.getD_some] at e0
        refine Each.Goes.same ?_
        go_simp
        try with_reducible rfl
      · refine Each.fine rfl (fun ev w1 hR hb hh => ?_)
        have e13 : (ev (.tmp 13) = .pointer (some ⟨g, 0, none⟩)) := hh.at 0
        clear hh
        refine Each.Goes.same ?_
        go_simp
        try with_reducible rfl
      · refine Each.fine rfl (fun ev w1 hR hb hh => ?_)
        have e14 : (ev (.tmp 14) = .pointer (some ⟨g, 0, none⟩)) := hh.at 0
        clear hh
        refine Each.Goes.same ?_
        go_simp
        try with_reducible rfl
      · refine Each.fine rfl (fun ev w1 hR hb hh => ?_)
        have e15 : (ev (.tmp 15) = .pointer (some ⟨g, 14, none⟩)) := hh.at 0
        clear hh
        have q14 := (HQ.out.below hb).c 14 _ rfl
        have q15 := (HQ.out.below hb).c 15 _ rfl
        have q16 := (HQ.out.below hb).c 16 _ rfl
        have q17 := (HQ.out.below hb).c 17 _ rfl
        have q18 := (HQ.out.below hb).c 18 _ rfl
        have q19 := (HQ.out.below hb).c 19 _ rfl
        have q20 := (HQ.out.below hb).c 20 _ rfl
        have q21 := (HQ.out.below hb).c 21 _ rfl
        have q22 := (HQ.out.below hb).c 22 _ rfl
        have q23 := (HQ.out.below hb).c 23 _ rfl
        refine Each.Goes.same ?_
        go_simp
        try with_reducible rfl
      · refine Each.fine rfl (fun ev w1 hR hb hh => ?_)
        have e8 : (ev (.tmp 8) = .string x) := hh.at 0
        have e12 : (ev (.tmp 12) = .int .u32 (p : Int)) := hh.at 1
        have e16 : (ev (.tmp 16) = .agg #[.int .i64 b.x0, .int .i64 b.x1, .int .i64 b.x2, .int .i64 b.x3, .int .i64 b.x4, .int .i64 b.x5, .int .i64 b.x6, .int .i64 b.x7, .bool b.ch, .bool b.od]) := hh.at 2
        clear hh
        have ef := hR.func
        refine Each.Goes.enter 185 #[.string x, .int .u32 (p : Int), .agg #[.int .i64 b.x0, .int .i64 b.x1, .int .i64 b.x2, .int .i64 b.x3, .int .i64 b.x4, .int .i64 b.x5, .int .i64 b.x6, .int .i64 b.x7, .bool b.ch, .bool b.od]] (by go_simp) ((HZ.out w1).mono ?_)
        rintro r w2 ⟨rfl, hb2⟩
        exact ⟨_, rfl, hb2, rfl⟩
      · refine Each.fine rfl (fun ev w1 hR hb hh => ?_)
        have e17 : (ev (.tmp 17) = .tuple #[.int .i64 z1, .int .i64 400]) := hh.at 0
        clear hh
        refine Each.Goes.same ?_
        go_simp
        try with_reducible rfl
      · refine Each.fine rfl (fun ev w1 hR hb hh => ?_)
        have e7 : (ev (.tmp 7) = .tuple #[.int .i64 z1, .int .i64 400]) := hh.at 0
        clear hh
        refine Each.Goes.same ?_
        go_simp
        try with_reducible rfl
      · refine Each.fine rfl (fun ev w1 hR hb hh => ?_)
        have e7 : (ev (.tmp 7) = .tuple #[.int .i64 z1, .int .i64 400]) := hh.at 0
        clear hh
        refine Each.Goes.same ?_
        go_simp
        try with_reducible rfl
      · refine Each.fine rfl (fun ev w1 hR hb hh => ?_)
        have e18 : (ev (.tmp 18) = .int .i64 z1) := hh.at 0
        clear hh
        refine Each.Goes.same ?_
        go_simp
        try with_reducible rfl
      · refine Each.fine rfl (fun ev w1 hR hb hh => ?_)
        have e19 : (ev (.tmp 19) = .int .i64 400) := hh.at 0
        clear hh
        refine Each.Goes.same ?_
        go_simp
        try with_reducible rfl
    intro g1 w2 hb hf
    have z5 : (g1 5 = .int .i64 z1) := hf.at 13
    have z6 : (g1 6 = .int .i64 400) := hf.at 14
    clear hf
    simp only [Each.putg, Act.put, List.setIfInBounds_toArray, List.set_cons_zero, List.set_cons_succ]
    rw [z5]
    rw [z6]
    have H1 := Lib.hid (H.out.below hb); have HB := Lib.hid hb
    clear HQ hb
    go_wp2
    go_ret
    exact ⟨rfl, _, _, _, _, _, _, H1.out, Step.of_below HB.out⟩
  · have e2 : z2 = 413 := e2
    subst e2
    have HZ := Lib.hid (show ∀ w, Calls Tryz.prog 185 #[.string x, .int .u32 (p : Int), .agg #[.int .i64 b.x0, .int .i64 b.x1, .int .i64 b.x2, .int .i64 b.x3, .int .i64 b.x4, .int .i64 b.x5, .int .i64 b.x6, .int .i64 b.x7, .bool b.ch, .bool b.od]] w fun e w' => e = .returned (.tuple #[.int .i64 z1, .int .i64 413]) ∧ Below w.heap.size w w' from fun w => by have := hz w; rw [hZ] at this; exact this)
    have e : s.chunk p b x.data.toList = (413, s) := by unfold T.chunk; rw [hZ]; rfl
    rw [e]
    clear hz hZ e
    go_enter Tryz.func163, Tryz.ntmps163
    go_upto_region 1 with fail
    refine Each.region_all 15 [8, 9, 10, 11, 12, 13, 14, 15, 16, 17, 7, 18, 19, 5, 6]
        [fun v _ => v = .string x,
          fun v _ => v = .pointer (some ⟨g, 0, none⟩),
          fun v _ => v = .pointer (some ⟨g, 0, none⟩),
          fun v _ => v = .pointer (some ⟨g, 13, none⟩),
          fun v _ => v = .int .u32 (p : Int),
          fun v _ => v = .pointer (some ⟨g, 0, none⟩),
          fun v _ => v = .pointer (some ⟨g, 0, none⟩),
          fun v _ => v = .pointer (some ⟨g, 14, none⟩),
          fun v _ => v = .agg #[.int .i64 b.x0, .int .i64 b.x1, .int .i64 b.x2, .int .i64 b.x3, .int .i64 b.x4, .int .i64 b.x5, .int .i64 b.x6, .int .i64 b.x7, .bool b.ch, .bool b.od],
          fun v _ => v = .tuple #[.int .i64 z1, .int .i64 413],
          fun v _ => v = .tuple #[.int .i64 z1, .int .i64 413],
          fun v _ => v = .int .i64 z1,
          fun v _ => v = .int .i64 413,
          fun v _ => v = .int .i64 z1,
          fun v _ => v = .int .i64 413]
         (by kernel_rfl) (by kernel_rfl) (by kernel_rfl) (by kernel_rfl) (fun _ _ d _ _ h => by cases d <;> exact h) (by rfl) (by rfl)
        ⟨Each.Lasts.eq _, Each.Lasts.eq _, Each.Lasts.eq _, Each.Lasts.eq _, Each.Lasts.eq _, Each.Lasts.eq _, Each.Lasts.eq _, Each.Lasts.eq _, Each.Lasts.eq _, Each.Lasts.eq _, Each.Lasts.eq _, Each.Lasts.eq _, Each.Lasts.eq _, Each.Lasts.eq _, Each.Lasts.eq _, trivial⟩ ?_ ?_
    · refine ⟨?_, ?_, ?_, ?_, ?_, ?_, ?_, ?_, ?_, ?_, ?_, ?_, ?_, ?_, ?_, trivial⟩
      · refine Each.fine rfl (fun ev w1 hR hb hh => ?_)
        clear hh
        have e1 := hR.old 1 rfl
        simp only [Array.getD_eq_getD_getElem?, List.getElem?_toArray, List.getElem?_cons_succ, List.getElem?_cons_zero, Option.getD_some] at e1
        refine Each.Goes.same ?_
        go_simp
        try with_reducible rfl
      · refine Each.fine rfl (fun ev w1 hR hb hh => ?_)
        clear hh
        have e0 := hR.old 0 rfl
        simp only [Array.getD_eq_getD_getElem?, List.getElem?_toArray, List.getElem?_cons_zero, Option.getD_some] at e0
        refine Each.Goes.same ?_
        go_simp
        try with_reducible rfl
      · refine Each.fine rfl (fun ev w1 hR hb hh => ?_)
        have e9 : (ev (.tmp 9) = .pointer (some ⟨g, 0, none⟩)) := hh.at 0
        clear hh
        refine Each.Goes.same ?_
        go_simp
        try with_reducible rfl
      · refine Each.fine rfl (fun ev w1 hR hb hh => ?_)
        have e10 : (ev (.tmp 10) = .pointer (some ⟨g, 0, none⟩)) := hh.at 0
        clear hh
        refine Each.Goes.same ?_
        go_simp
        try with_reducible rfl
      · refine Each.fine rfl (fun ev w1 hR hb hh => ?_)
        have e11 : (ev (.tmp 11) = .pointer (some ⟨g, 13, none⟩)) := hh.at 0
        clear hh
        have q13 := (HQ.out.below hb).c 13 _ rfl
        refine Each.Goes.same ?_
        go_simp
        try with_reducible rfl
      · refine Each.fine rfl (fun ev w1 hR hb hh => ?_)
        clear hh
        have e0 := hR.old 0 rfl
        simp only [Array.getD_eq_getD_getElem?, List.getElem?_toArray, List.getElem?_cons_zero, Option.getD_some] at e0
        refine Each.Goes.same ?_
        go_simp
        try with_reducible rfl
      · refine Each.fine rfl (fun ev w1 hR hb hh => ?_)
        have e13 : (ev (.tmp 13) = .pointer (some ⟨g, 0, none⟩)) := hh.at 0
        clear hh
        refine Each.Goes.same ?_
        go_simp
        try with_reducible rfl
      · refine Each.fine rfl (fun ev w1 hR hb hh => ?_)
        have e14 : (ev (.tmp 14) = .pointer (some ⟨g, 0, none⟩)) := hh.at 0
        clear hh
        refine Each.Goes.same ?_
        go_simp
        try with_reducible rfl
      · refine Each.fine rfl (fun ev w1 hR hb hh => ?_)
        have e15 : (ev (.tmp 15) = .pointer (some ⟨g, 14, none⟩)) := hh.at 0
        clear hh
        have q14 := (HQ.out.below hb).c 14 _ rfl
        have q15 := (HQ.out.below hb).c 15 _ rfl
        have q16 := (HQ.out.below hb).c 16 _ rfl
        have q17 := (HQ.out.below hb).c 17 _ rfl
        have q18 := (HQ.out.below hb).c 18 _ rfl
        have q19 := (HQ.out.below hb).c 19 _ rfl
        have q20 := (HQ.out.below hb).c 20 _ rfl
        have q21 := (HQ.out.below hb).c 21 _ rfl
        have q22 := (HQ.out.below hb).c 22 _ rfl
        have q23 := (HQ.out.below hb).c 23 _ rfl
        refine Each.Goes.same ?_
        go_simp
        try with_reducible rfl
      · refine Each.fine rfl (fun ev w1 hR hb hh => ?_)
        have e8 : (ev (.tmp 8) = .string x) := hh.at 0
        have e12 : (ev (.tmp 12) = .int .u32 (p : Int)) := hh.at 1
        have e16 : (ev (.tmp 16) = .agg #[.int .i64 b.x0, .int .i64 b.x1, .int .i64 b.x2, .int .i64 b.x3, .int .i64 b.x4, .int .i64 b.x5, .int .i64 b.x6, .int .i64 b.x7, .bool b.ch, .bool b.od]) := hh.at 2
        clear hh
        have ef := hR.func
        refine Each.Goes.enter 185 #[.string x, .int .u32 (p : Int), .agg #[.int .i64 b.x0, .int .i64 b.x1, .int .i64 b.x2, .int .i64 b.x3, .int .i64 b.x4, .int .i64 b.x5, .int .i64 b.x6, .int .i64 b.x7, .bool b.ch, .bool b.od]] (by go_simp) ((HZ.out w1).mono ?_)
        rintro r w2 ⟨rfl, hb2⟩
        exact ⟨_, rfl, hb2, rfl⟩
      · refine Each.fine rfl (fun ev w1 hR hb hh => ?_)
        have e17 : (ev (.tmp 17) = .tuple #[.int .i64 z1, .int .i64 413]) := hh.at 0
        clear hh
        refine Each.Goes.same ?_
        go_simp
        try with_reducible rfl
      · refine Each.fine rfl (fun ev w1 hR hb hh => ?_)
        have e7 : (ev (.tmp 7) = .tuple #[.int .i64 z1, .int .i64 413]) := hh.at 0
        clear hh
        refine Each.Goes.same ?_
        go_simp
        try with_reducible rfl
      · refine Each.fine rfl (fun ev w1 hR hb hh => ?_)
        have e7 : (ev (.tmp 7) = .tuple #[.int .i64 z1, .int .i64 413]) := hh.at 0
        clear hh
        refine Each.Goes.same ?_
        go_simp
        try with_reducible rfl
      · refine Each.fine rfl (fun ev w1 hR hb hh => ?_)
        have e18 : (ev (.tmp 18) = .int .i64 z1) := hh.at 0
        clear hh
        refine Each.Goes.same ?_
        go_simp
        try with_reducible rfl
      · refine Each.fine rfl (fun ev w1 hR hb hh => ?_)
        have e19 : (ev (.tmp 19) = .int .i64 413) := hh.at 0
        clear hh
        refine Each.Goes.same ?_
        go_simp
        try with_reducible rfl
    intro g1 w2 hb hf
    have z5 : (g1 5 = .int .i64 z1) := hf.at 13
    have z6 : (g1 6 = .int .i64 413) := hf.at 14
    clear hf
    simp only [Each.putg, Act.put, List.setIfInBounds_toArray, List.set_cons_zero, List.set_cons_succ]
    rw [z5]
    rw [z6]
    have H1 := Lib.hid (H.out.below hb); have HB := Lib.hid hb
    clear HQ hb
    go_wp2
    go_ret
    exact ⟨rfl, _, _, _, _, _, _, H1.out, Step.of_below HB.out⟩
theorem endHead_any (hp : p < 4294967296) (h3 : 16 ≤ b.x3 ∧ b.x3 ≤ 1048576) (h : PR w B g q v f bd t o p b s) (hn : s.r.fs.length ≤ 500) (hs : ∀ y ∈ s.r.fs, y.1.size ≤ 1000000 ∧ y.2.size ≤ 1000000) (hout : s.out.length ≤ 1000000000) : Calls Tryz.prog 183 #[ptr g] w fun r w' =>
    r = .returned (.int .i64 (((s.endHead p b).1 : Nat) : Int)) ∧ ∃ q1 v1 f1 bd1 t1 o1, PR w' B g q1 v1 f1 bd1 t1 o1 p b (s.endHead p b).2 ∧ Step (blks g q v f bd t o) (blks g q1 v1 f1 bd1 t1 o1) w w' := by
  obtain ⟨A, c, e, hv⟩ := Flds.of_own h.own.F
  obtain ⟨bf, cf, eb, -⟩ := Ln.own_slice h.own.F
  subst eb
  simp only [Value.slice.injEq, true_and] at e
  obtain ⟨rfl, rfl⟩ := e
  have H := Lib.hid h
  have HQ := Lib.hid ((h.drew 1).bk)
  have hvd := hv.below (Base.below_drewN (Below.refl w.heap.size w) 1)
  have hz := fun w2 (hb : Below (w.drewN 1).heap.size (w.drewN 1) w2) => Frm.decide_any p hp b.x0 b.x1 b.x2 b.x3 b.x4 b.x5 b.x6 b.x7 b.ch b.od (by omega) s.r.k _ _ cf s.r.fs w2 (hvd.below hb) hn hs
  have HO := Lib.hid hout
  clear h hn hs hout hv
  rcases decide_facts (Frm.clOf p) b.ch b.x3 s.r.k s.r.fs with hD | ⟨n, hle, hD⟩ | ⟨e, he, hD⟩
  · have HZ := Lib.hid (show ∀ w2, Below (w.drewN 1).heap.size (w.drewN 1) w2 → Calls Tryz.prog 202 #[.int .u32 (p : Int), .agg #[.int .i64 b.x0, .int .i64 b.x1, .int .i64 b.x2, .int .i64 b.x3, .int .i64 b.x4, .int .i64 b.x5, .int .i64 b.x6, .int .i64 b.x7, .bool b.ch, .bool b.od], .int .i64 s.r.k, .slice bf s.r.fs.length cf] w2 fun r w' => r = .returned (.tuple #[.agg #[.int .i64 2, .int .i64 0], .int .i64 0]) ∧ Below w2.heap.size w2 w' from fun w2 hb => by have := hz w2 hb; rw [hD] at this; exact this)
    have e : s.endHead p b = (0, { s with r := { s.r with ch := true }, st := 4 }) := by unfold T.endHead; rw [hD]; rfl
    rw [e]
    clear hz hD e hvd
    go_enter Tryz.func183, Tryz.ntmps183
    go_upto_region 1 with fail
    go_cut [3, 4] from 5 to 27 (fun u c wx => ∃ g2, u = ptr g2 ∧ c = .int .i64 0 ∧ Hid (Below w.heap.size w wx) ∧ Hid (Rec.Bk wx g2 [.int .i64 2, .int .i64 0]) ∧ Hid (w.heap.size ≤ g2))
    case first =>
      refine Each.region_float 24 [6, 7, 8, 9, 10, 11, 12, 13, 14, 15, 16, 17, 18, 19, 20, 21, 22, 23, 24, 25, 5, 26, 27, 3]
          [fun v _ => v = .pointer (some ⟨g, 0, none⟩),
            fun v _ => v = .pointer (some ⟨g, 0, none⟩),
            fun v _ => v = .pointer (some ⟨g, 13, none⟩),
            fun v _ => v = .int .u32 (p : Int),
            fun v _ => v = .pointer (some ⟨g, 0, none⟩),
            fun v _ => v = .pointer (some ⟨g, 0, none⟩),
            fun v _ => v = .pointer (some ⟨g, 14, none⟩),
            fun v _ => v = .agg #[.int .i64 b.x0, .int .i64 b.x1, .int .i64 b.x2, .int .i64 b.x3, .int .i64 b.x4, .int .i64 b.x5, .int .i64 b.x6, .int .i64 b.x7, .bool b.ch, .bool b.od],
            fun v _ => v = .pointer (some ⟨g, 0, none⟩),
            fun v _ => v = .pointer (some ⟨g, 0, none⟩),
            fun v _ => v = .pointer (some ⟨g, 1, none⟩),
            fun v _ => v = .pointer (some ⟨g, 5, none⟩),
            fun v _ => v = .int .i64 s.r.k,
            fun v _ => v = .pointer (some ⟨g, 0, none⟩),
            fun v _ => v = .pointer (some ⟨g, 0, none⟩),
            fun v _ => v = .pointer (some ⟨g, 1, none⟩),
            fun v _ => v = .pointer (some ⟨g, 1, none⟩),
            fun v _ => v = .pointer (some ⟨g, 2, none⟩),
            fun v _ => v = .slice bf s.r.fs.length cf,
            fun v _ => v = .tuple #[.agg #[.int .i64 2, .int .i64 0], .int .i64 0],
            fun v _ => v = .tuple #[.agg #[.int .i64 2, .int .i64 0], .int .i64 0],
            fun v _ => v = .agg #[.int .i64 2, .int .i64 0],
            fun v _ => v = .int .i64 0,
            fun v u => ∃ g2, v = ptr g2 ∧ w.heap.size ≤ g2 ∧ Rec.Bk u g2 [.int .i64 0, .int .i64 0]]
          [] 2 (some 22) (.act 24 (.quiet 25 .done)) (.quiet 22 (.act 24 (.quiet 25 .done))) (by kernel_rfl) (by kernel_rfl) (by kernel_rfl) (by kernel_rfl) (fun k0 h => by cases h; kernel_rfl) (fun _ _ d _ _ h => by cases d <;> exact h) (by rfl) (by rfl)
          ⟨Each.Lasts.eq _, Each.Lasts.eq _, Each.Lasts.eq _, Each.Lasts.eq _, Each.Lasts.eq _, Each.Lasts.eq _, Each.Lasts.eq _, Each.Lasts.eq _, Each.Lasts.eq _, Each.Lasts.eq _, Each.Lasts.eq _, Each.Lasts.eq _, Each.Lasts.eq _, Each.Lasts.eq _, Each.Lasts.eq _, Each.Lasts.eq _, Each.Lasts.eq _, Each.Lasts.eq _, Each.Lasts.eq _, Each.Lasts.eq _, Each.Lasts.eq _, Each.Lasts.eq _, Each.Lasts.eq _, ((fun _ _ _ hb h => by obtain ⟨g2, e1, h1, hB⟩ := h; exact ⟨g2, e1, h1, hB.below hb⟩)), trivial⟩ trivial (by rfl) ?_ ?_ ?_
      · refine ⟨?_, ?_, ?_, ?_, ?_, ?_, ?_, ?_, ?_, ?_, ?_, ?_, ?_, ?_, ?_, ?_, ?_, ?_, ?_, ?_, ?_, ?_, ?_, ?_, trivial⟩
        · refine Each.fine rfl (fun ev w1 hR hb hh => ?_)
          clear hh
          have e0 := hR.old 0 rfl
          simp only [Array.getD_eq_getD_getElem?, List.getElem?_toArray, List.getElem?_cons_zero, Option.getD_some] at e0
          refine Each.Goes.same ?_
          go_simp
          try with_reducible rfl
        · refine Each.fine rfl (fun ev w1 hR hb hh => ?_)
          have e6 : (ev (.tmp 6) = .pointer (some ⟨g, 0, none⟩)) := hh.at 0
          clear hh
          refine Each.Goes.same ?_
          go_simp
          try with_reducible rfl
        · refine Each.fine rfl (fun ev w1 hR hb hh => ?_)
          have e7 : (ev (.tmp 7) = .pointer (some ⟨g, 0, none⟩)) := hh.at 0
          clear hh
          refine Each.Goes.same ?_
          go_simp
          try with_reducible rfl
        · refine Each.fine rfl (fun ev w1 hR hb hh => ?_)
          have e8 : (ev (.tmp 8) = .pointer (some ⟨g, 13, none⟩)) := hh.at 0
          clear hh
          have q13 := (HQ.out.below hb).c 13 _ rfl
          refine Each.Goes.same ?_
          go_simp
          try with_reducible rfl
        · refine Each.fine rfl (fun ev w1 hR hb hh => ?_)
          clear hh
          have e0 := hR.old 0 rfl
          simp only [Array.getD_eq_getD_getElem?, List.getElem?_toArray, List.getElem?_cons_zero, Option.getD_some] at e0
          refine Each.Goes.same ?_
          go_simp
          try with_reducible rfl
        · refine Each.fine rfl (fun ev w1 hR hb hh => ?_)
          have e10 : (ev (.tmp 10) = .pointer (some ⟨g, 0, none⟩)) := hh.at 0
          clear hh
          refine Each.Goes.same ?_
          go_simp
          try with_reducible rfl
        · refine Each.fine rfl (fun ev w1 hR hb hh => ?_)
          have e11 : (ev (.tmp 11) = .pointer (some ⟨g, 0, none⟩)) := hh.at 0
          clear hh
          refine Each.Goes.same ?_
          go_simp
          try with_reducible rfl
        · refine Each.fine rfl (fun ev w1 hR hb hh => ?_)
          have e12 : (ev (.tmp 12) = .pointer (some ⟨g, 14, none⟩)) := hh.at 0
          clear hh
          have q14 := (HQ.out.below hb).c 14 _ rfl
          have q15 := (HQ.out.below hb).c 15 _ rfl
          have q16 := (HQ.out.below hb).c 16 _ rfl
          have q17 := (HQ.out.below hb).c 17 _ rfl
          have q18 := (HQ.out.below hb).c 18 _ rfl
          have q19 := (HQ.out.below hb).c 19 _ rfl
          have q20 := (HQ.out.below hb).c 20 _ rfl
          have q21 := (HQ.out.below hb).c 21 _ rfl
          have q22 := (HQ.out.below hb).c 22 _ rfl
          have q23 := (HQ.out.below hb).c 23 _ rfl
          refine Each.Goes.same ?_
          go_simp
          try with_reducible rfl
        · refine Each.fine rfl (fun ev w1 hR hb hh => ?_)
          clear hh
          have e0 := hR.old 0 rfl
          simp only [Array.getD_eq_getD_getElem?, List.getElem?_toArray, List.getElem?_cons_zero, Option.getD_some] at e0
          refine Each.Goes.same ?_
          go_simp
          try with_reducible rfl
        · refine Each.fine rfl (fun ev w1 hR hb hh => ?_)
          have e14 : (ev (.tmp 14) = .pointer (some ⟨g, 0, none⟩)) := hh.at 0
          clear hh
          refine Each.Goes.same ?_
          go_simp
          try with_reducible rfl
        · refine Each.fine rfl (fun ev w1 hR hb hh => ?_)
          have e15 : (ev (.tmp 15) = .pointer (some ⟨g, 0, none⟩)) := hh.at 0
          clear hh
          refine Each.Goes.same ?_
          go_simp
          try with_reducible rfl
        · refine Each.fine rfl (fun ev w1 hR hb hh => ?_)
          have e16 : (ev (.tmp 16) = .pointer (some ⟨g, 1, none⟩)) := hh.at 0
          clear hh
          refine Each.Goes.same ?_
          go_simp
          try with_reducible rfl
        · refine Each.fine rfl (fun ev w1 hR hb hh => ?_)
          have e17 : (ev (.tmp 17) = .pointer (some ⟨g, 5, none⟩)) := hh.at 0
          clear hh
          have q5 := (HQ.out.below hb).c 5 _ rfl
          refine Each.Goes.same ?_
          go_simp
          try with_reducible rfl
        · refine Each.fine rfl (fun ev w1 hR hb hh => ?_)
          clear hh
          have e0 := hR.old 0 rfl
          simp only [Array.getD_eq_getD_getElem?, List.getElem?_toArray, List.getElem?_cons_zero, Option.getD_some] at e0
          refine Each.Goes.same ?_
          go_simp
          try with_reducible rfl
        · refine Each.fine rfl (fun ev w1 hR hb hh => ?_)
          have e19 : (ev (.tmp 19) = .pointer (some ⟨g, 0, none⟩)) := hh.at 0
          clear hh
          refine Each.Goes.same ?_
          go_simp
          try with_reducible rfl
        · refine Each.fine rfl (fun ev w1 hR hb hh => ?_)
          have e20 : (ev (.tmp 20) = .pointer (some ⟨g, 0, none⟩)) := hh.at 0
          clear hh
          refine Each.Goes.same ?_
          go_simp
          try with_reducible rfl
        · refine Each.fine rfl (fun ev w1 hR hb hh => ?_)
          have e21 : (ev (.tmp 21) = .pointer (some ⟨g, 1, none⟩)) := hh.at 0
          clear hh
          refine Each.Goes.same ?_
          go_simp
          try with_reducible rfl
        · refine Each.fine rfl (fun ev w1 hR hb hh => ?_)
          have e22 : (ev (.tmp 22) = .pointer (some ⟨g, 1, none⟩)) := hh.at 0
          clear hh
          refine Each.Goes.same ?_
          go_simp
          try with_reducible rfl
        · refine Each.fine rfl (fun ev w1 hR hb hh => ?_)
          have e23 : (ev (.tmp 23) = .pointer (some ⟨g, 2, none⟩)) := hh.at 0
          clear hh
          have q2 := (HQ.out.below hb).c 2 _ rfl
          refine Each.Goes.same ?_
          go_simp
          try with_reducible rfl
        · refine Each.fine rfl (fun ev w1 hR hb hh => ?_)
          have e9 : (ev (.tmp 9) = .int .u32 (p : Int)) := hh.at 0
          have e13 : (ev (.tmp 13) = .agg #[.int .i64 b.x0, .int .i64 b.x1, .int .i64 b.x2, .int .i64 b.x3, .int .i64 b.x4, .int .i64 b.x5, .int .i64 b.x6, .int .i64 b.x7, .bool b.ch, .bool b.od]) := hh.at 1
          have e18 : (ev (.tmp 18) = .int .i64 s.r.k) := hh.at 2
          have e24 : (ev (.tmp 24) = .slice bf s.r.fs.length cf) := hh.at 3
          clear hh
          have ef := hR.func
          refine Each.Goes.enter 202 #[.int .u32 (p : Int), .agg #[.int .i64 b.x0, .int .i64 b.x1, .int .i64 b.x2, .int .i64 b.x3, .int .i64 b.x4, .int .i64 b.x5, .int .i64 b.x6, .int .i64 b.x7, .bool b.ch, .bool b.od], .int .i64 s.r.k, .slice bf s.r.fs.length cf] (by go_simp) ((HZ.out w1 hb).mono ?_)
          rintro r w2 ⟨rfl, hb2⟩
          exact ⟨_, rfl, hb2, rfl⟩
        · refine Each.fine rfl (fun ev w1 hR hb hh => ?_)
          have e25 : (ev (.tmp 25) = .tuple #[.agg #[.int .i64 2, .int .i64 0], .int .i64 0]) := hh.at 0
          clear hh
          refine Each.Goes.same ?_
          go_simp
          try with_reducible rfl
        · refine Each.fine rfl (fun ev w1 hR hb hh => ?_)
          have e5 : (ev (.tmp 5) = .tuple #[.agg #[.int .i64 2, .int .i64 0], .int .i64 0]) := hh.at 0
          clear hh
          refine Each.Goes.same ?_
          go_simp
          try with_reducible rfl
        · refine Each.fine rfl (fun ev w1 hR hb hh => ?_)
          have e5 : (ev (.tmp 5) = .tuple #[.agg #[.int .i64 2, .int .i64 0], .int .i64 0]) := hh.at 0
          clear hh
          refine Each.Goes.same ?_
          go_simp
          try with_reducible rfl
        · refine Each.fine rfl (fun ev w1 hR hb hh => ?_)
          clear hh
          exact Each.Goes.value (ptr w1.heap.size) (w1.alloc (.cells #[.int .i64 0, .int .i64 0] 189)) (by go_simp) ((Below.refl _ _).alloc (Nat.le_refl _) _) ⟨_, rfl, hb.size, Rec.Bk.new w1 _ rfl 189 [.int .i64 0, .int .i64 0]⟩
      · intro g1 w2 hb hf
        have z5 : (g1 5 = .tuple #[.agg #[.int .i64 2, .int .i64 0], .int .i64 0]) := hf.at 20
        have z26 : (g1 26 = .agg #[.int .i64 2, .int .i64 0]) := hf.at 21
        have z27 : (g1 27 = .int .i64 0) := hf.at 22
        have z3 : ((fun v u => ∃ g2, v = ptr g2 ∧ w.heap.size ≤ g2 ∧ Rec.Bk u g2 [.int .i64 0, .int .i64 0]) (g1 3) w2) := hf.at 23
        clear hf
        obtain ⟨g2, e2, hg2, hB2⟩ := z3
        simp only [Each.putg, Act.put, List.setIfInBounds_toArray, List.set_cons_zero, List.set_cons_succ]
        rw [z5, z26, z27, e2]
        simp only [Tree.grow, Tree.put1, List.getElem?_cons_zero, List.getElem?_cons_succ]
        have y0 := hB2.c 0 _ rfl; have y1 := hB2.c 1 _ rfl; have x0 := hB2.z 0 (by simp); have x1 := hB2.z 1 (by simp)
        refine Tree.change (by rfl) (fun K hK => ?_)
        go_simp
        refine hK _ _ trivial ?_
        clear hK K y0 y1 x0 x1
        refine Tree.assign _ (by rfl) (by rfl) ?_
        simp only [Act.put, Act.eval, Array.getD_eq_getD_getElem?, List.getElem?_toArray, List.getElem?_cons_zero, List.getElem?_cons_succ, Option.getD_some, List.setIfInBounds_toArray, List.set_cons_zero, List.set_cons_succ]
        refine Tree.done ?_
        go_wp2_with fail
        go_meet
        case rel => exact ⟨g2, rfl, rfl, Lib.hid ((hb.setCell hg2 _).setCell hg2 _), Lib.hid ((hB2.set 0 (.int .i64 2) (by simp)).set 1 (.int .i64 0) (by simp)), Lib.hid hg2⟩
      · intro k0 hk0 g1 w2 hb hf
        cases hk0
        have z5 : (g1 5 = .tuple #[.agg #[.int .i64 2, .int .i64 0], .int .i64 0]) := hf.at 20
        have z26 : (g1 26 = .agg #[.int .i64 2, .int .i64 0]) := hf.at 21
        have z3 : ((fun v u => ∃ g2, v = ptr g2 ∧ w.heap.size ≤ g2 ∧ Rec.Bk u g2 [.int .i64 0, .int .i64 0]) (g1 3) w2) := hf.at 23
        clear hf
        obtain ⟨g2, e2, hg2, hB2⟩ := z3
        simp only [Each.putg, Act.put, List.setIfInBounds_toArray, List.set_cons_zero, List.set_cons_succ]
        rw [z5, z26, e2]
        simp only [Tree.grow, Tree.put1, List.getElem?_cons_zero, List.getElem?_cons_succ]
        refine Tree.quiet (by rfl) (.int .i64 0) (fun _ _ => by go_simp) ?_
        simp only [Act.put, List.setIfInBounds_toArray, List.set_cons_zero, List.set_cons_succ]
        have y0 := hB2.c 0 _ rfl; have y1 := hB2.c 1 _ rfl; have x0 := hB2.z 0 (by simp); have x1 := hB2.z 1 (by simp)
        refine Tree.change (by rfl) (fun K hK => ?_)
        go_simp
        refine hK _ _ trivial ?_
        clear hK K y0 y1 x0 x1
        refine Tree.assign _ (by rfl) (by rfl) ?_
        simp only [Act.put, Act.eval, Array.getD_eq_getD_getElem?, List.getElem?_toArray, List.getElem?_cons_zero, List.getElem?_cons_succ, Option.getD_some, List.setIfInBounds_toArray, List.set_cons_zero, List.set_cons_succ]
        refine Tree.done ?_
        go_wp2_with fail
        go_meet
        case rel => exact ⟨g2, rfl, rfl, Lib.hid ((hb.setCell hg2 _).setCell hg2 _), Lib.hid ((hB2.set 0 (.int .i64 2) (by simp)).set 1 (.int .i64 0) (by simp)), Lib.hid hg2⟩
    case rest =>
    obtain ⟨g2, rfl, rfl, HB, HG, HG2⟩ := hcut
    have H1 := Lib.hid (H.out.below HB.out)
    clear HQ
    obtain ⟨W0, hW0⟩ : ∃ x, x = wc := ⟨_, rfl⟩
    subst hW0
    have y0 := HG.out.c 0 _ rfl; have y1 := HG.out.c 1 _ rfl
    have H2 := Lib.hid ((H1.out.put 10 (.bool true) { s with r := { s.r with ch := true } } rfl rfl rfl rfl rfl rfl).put 24 (.int .i64 4) { s with r := { s.r with ch := true }, st := 4 } rfl rfl rfl rfl rfl rfl)
    have HS2 := Lib.hid ((Step.of_below HB.out (L := blks g q v (.slice bf s.r.fs.length cf) bd t o)).trans ((Step.set g 10 (.bool true) (by simp)).trans (Step.set g 24 (.int .i64 4) (by simp))))
    have c10 := H1.out.cs.c10; have z10 := H1.out.marks 10; have c24 := H1.out.cs.c24; have z24 := H1.out.marks 24
    go_wp2
    go_ret
    exact ⟨rfl, _, _, _, _, _, _, H2.out, HS2.out⟩
  · have HZ := Lib.hid (show ∀ w2, Below (w.drewN 1).heap.size (w.drewN 1) w2 → Calls Tryz.prog 202 #[.int .u32 (p : Int), .agg #[.int .i64 b.x0, .int .i64 b.x1, .int .i64 b.x2, .int .i64 b.x3, .int .i64 b.x4, .int .i64 b.x5, .int .i64 b.x6, .int .i64 b.x7, .bool b.ch, .bool b.od], .int .i64 s.r.k, .slice bf s.r.fs.length cf] w2 fun r w' => r = .returned (.tuple #[.agg #[.int .i64 1, .int .i64 (n : Int)], .int .i64 0]) ∧ Below w2.heap.size w2 w' from fun w2 hb => by have := hz w2 hb; rw [hD] at this; exact this)
    rcases Nat.eq_zero_or_pos n with hn | hn
    · subst hn
      have HZ := Lib.hid (show ∀ w2, Below (w.drewN 1).heap.size (w.drewN 1) w2 → Calls Tryz.prog 202 #[.int .u32 (p : Int), .agg #[.int .i64 b.x0, .int .i64 b.x1, .int .i64 b.x2, .int .i64 b.x3, .int .i64 b.x4, .int .i64 b.x5, .int .i64 b.x6, .int .i64 b.x7, .bool b.ch, .bool b.od], .int .i64 s.r.k, .slice bf s.r.fs.length cf] w2 fun e w' => e = .returned (.tuple #[.agg #[.int .i64 1, .int .i64 0], .int .i64 0]) ∧ Below w2.heap.size w2 w' from fun w2 hb => HZ.out w2 hb)
      have e : s.endHead p b = (0, s.fin) := by unfold T.endHead; rw [hD]; rfl
      rw [e]
      clear hz hD e hvd hle
      go_enter Tryz.func183, Tryz.ntmps183
      go_upto_region 1 with fail
      go_cut [3, 4] from 5 to 27 (fun u c wx => ∃ g2, u = ptr g2 ∧ c = .int .i64 0 ∧ Hid (Below w.heap.size w wx) ∧ Hid (Rec.Bk wx g2 [.int .i64 1, .int .i64 0]) ∧ Hid (w.heap.size ≤ g2))
      case first =>
        refine Each.region_float 24 [6, 7, 8, 9, 10, 11, 12, 13, 14, 15, 16, 17, 18, 19, 20, 21, 22, 23, 24, 25, 5, 26, 27, 3]
            [fun v _ => v = .pointer (some ⟨g, 0, none⟩),
              fun v _ => v = .pointer (some ⟨g, 0, none⟩),
              fun v _ => v = .pointer (some ⟨g, 13, none⟩),
              fun v _ => v = .int .u32 (p : Int),
              fun v _ => v = .pointer (some ⟨g, 0, none⟩),
              fun v _ => v = .pointer (some ⟨g, 0, none⟩),
              fun v _ => v = .pointer (some ⟨g, 14, none⟩),
              fun v _ => v = .agg #[.int .i64 b.x0, .int .i64 b.x1, .int .i64 b.x2, .int .i64 b.x3, .int .i64 b.x4, .int .i64 b.x5, .int .i64 b.x6, .int .i64 b.x7, .bool b.ch, .bool b.od],
              fun v _ => v = .pointer (some ⟨g, 0, none⟩),
              fun v _ => v = .pointer (some ⟨g, 0, none⟩),
              fun v _ => v = .pointer (some ⟨g, 1, none⟩),
              fun v _ => v = .pointer (some ⟨g, 5, none⟩),
              fun v _ => v = .int .i64 s.r.k,
              fun v _ => v = .pointer (some ⟨g, 0, none⟩),
              fun v _ => v = .pointer (some ⟨g, 0, none⟩),
              fun v _ => v = .pointer (some ⟨g, 1, none⟩),
              fun v _ => v = .pointer (some ⟨g, 1, none⟩),
              fun v _ => v = .pointer (some ⟨g, 2, none⟩),
              fun v _ => v = .slice bf s.r.fs.length cf,
              fun v _ => v = .tuple #[.agg #[.int .i64 1, .int .i64 0], .int .i64 0],
              fun v _ => v = .tuple #[.agg #[.int .i64 1, .int .i64 0], .int .i64 0],
              fun v _ => v = .agg #[.int .i64 1, .int .i64 0],
              fun v _ => v = .int .i64 0,
              fun v u => ∃ g2, v = ptr g2 ∧ w.heap.size ≤ g2 ∧ Rec.Bk u g2 [.int .i64 0, .int .i64 0]]
            [] 2 (some 22) (.act 24 (.quiet 25 .done)) (.quiet 22 (.act 24 (.quiet 25 .done))) (by kernel_rfl) (by kernel_rfl) (by kernel_rfl) (by kernel_rfl) (fun k0 h => by cases h; kernel_rfl) (fun _ _ d _ _ h => by cases d <;> exact h) (by rfl) (by rfl)
            ⟨Each.Lasts.eq _, Each.Lasts.eq _, Each.Lasts.eq _, Each.Lasts.eq _, Each.Lasts.eq _, Each.Lasts.eq _, Each.Lasts.eq _, Each.Lasts.eq _, Each.Lasts.eq _, Each.Lasts.eq _, Each.Lasts.eq _, Each.Lasts.eq _, Each.Lasts.eq _, Each.Lasts.eq _, Each.Lasts.eq _, Each.Lasts.eq _, Each.Lasts.eq _, Each.Lasts.eq _, Each.Lasts.eq _, Each.Lasts.eq _, Each.Lasts.eq _, Each.Lasts.eq _, Each.Lasts.eq _, ((fun _ _ _ hb h => by obtain ⟨g2, e1, h1, hB⟩ := h; exact ⟨g2, e1, h1, hB.below hb⟩)), trivial⟩ trivial (by rfl) ?_ ?_ ?_
        · refine ⟨?_, ?_, ?_, ?_, ?_, ?_, ?_, ?_, ?_, ?_, ?_, ?_, ?_, ?_, ?_, ?_, ?_, ?_, ?_, ?_, ?_, ?_, ?_, ?_, trivial⟩
          · refine Each.fine rfl (fun ev w1 hR hb hh => ?_)
            clear hh
            have e0 := hR.old 0 rfl
            simp only [Array.getD_eq_getD_getElem?, List.getElem?_toArray, List.getElem?_cons_zero, Option.getD_some] at e0
            refine Each.Goes.same ?_
            go_simp
            try with_reducible rfl
          · refine Each.fine rfl (fun ev w1 hR hb hh => ?_)
            have e6 : (ev (.tmp 6) = .pointer (some ⟨g, 0, none⟩)) := hh.at 0
            clear hh
            refine Each.Goes.same ?_
            go_simp
            try with_reducible rfl
          · refine Each.fine rfl (fun ev w1 hR hb hh => ?_)
            have e7 : (ev (.tmp 7) = .pointer (some ⟨g, 0, none⟩)) := hh.at 0
            clear hh
            refine Each.Goes.same ?_
            go_simp
            try with_reducible rfl
          · refine Each.fine rfl (fun ev w1 hR hb hh => ?_)
            have e8 : (ev (.tmp 8) = .pointer (some ⟨g, 13, none⟩)) := hh.at 0
            clear hh
            have q13 := (HQ.out.below hb).c 13 _ rfl
            refine Each.Goes.same ?_
            go_simp
            try with_reducible rfl
          · refine Each.fine rfl (fun ev w1 hR hb hh => ?_)
            clear hh
            have e0 := hR.old 0 rfl
            simp only [Array.getD_eq_getD_getElem?, List.getElem?_toArray, List.getElem?_cons_zero, Option.getD_some] at e0
            refine Each.Goes.same ?_
            go_simp
            try with_reducible rfl
          · refine Each.fine rfl (fun ev w1 hR hb hh => ?_)
            have e10 : (ev (.tmp 10) = .pointer (some ⟨g, 0, none⟩)) := hh.at 0
            clear hh
            refine Each.Goes.same ?_
            go_simp
            try with_reducible rfl
          · refine Each.fine rfl (fun ev w1 hR hb hh => ?_)
            have e11 : (ev (.tmp 11) = .pointer (some ⟨g, 0, none⟩)) := hh.at 0
            clear hh
            refine Each.Goes.same ?_
            go_simp
            try with_reducible rfl
          · refine Each.fine rfl (fun ev w1 hR hb hh => ?_)
            have e12 : (ev (.tmp 12) = .pointer (some ⟨g, 14, none⟩)) := hh.at 0
            clear hh
            have q14 := (HQ.out.below hb).c 14 _ rfl
            have q15 := (HQ.out.below hb).c 15 _ rfl
            have q16 := (HQ.out.below hb).c 16 _ rfl
            have q17 := (HQ.out.below hb).c 17 _ rfl
            have q18 := (HQ.out.below hb).c 18 _ rfl
            have q19 := (HQ.out.below hb).c 19 _ rfl
            have q20 := (HQ.out.below hb).c 20 _ rfl
            have q21 := (HQ.out.below hb).c 21 _ rfl
            have q22 := (HQ.out.below hb).c 22 _ rfl
            have q23 := (HQ.out.below hb).c 23 _ rfl
            refine Each.Goes.same ?_
            go_simp
            try with_reducible rfl
          · refine Each.fine rfl (fun ev w1 hR hb hh => ?_)
            clear hh
            have e0 := hR.old 0 rfl
            simp only [Array.getD_eq_getD_getElem?, List.getElem?_toArray, List.getElem?_cons_zero, Option.getD_some] at e0
            refine Each.Goes.same ?_
            go_simp
            try with_reducible rfl
          · refine Each.fine rfl (fun ev w1 hR hb hh => ?_)
            have e14 : (ev (.tmp 14) = .pointer (some ⟨g, 0, none⟩)) := hh.at 0
            clear hh
            refine Each.Goes.same ?_
            go_simp
            try with_reducible rfl
          · refine Each.fine rfl (fun ev w1 hR hb hh => ?_)
            have e15 : (ev (.tmp 15) = .pointer (some ⟨g, 0, none⟩)) := hh.at 0
            clear hh
            refine Each.Goes.same ?_
            go_simp
            try with_reducible rfl
          · refine Each.fine rfl (fun ev w1 hR hb hh => ?_)
            have e16 : (ev (.tmp 16) = .pointer (some ⟨g, 1, none⟩)) := hh.at 0
            clear hh
            refine Each.Goes.same ?_
            go_simp
            try with_reducible rfl
          · refine Each.fine rfl (fun ev w1 hR hb hh => ?_)
            have e17 : (ev (.tmp 17) = .pointer (some ⟨g, 5, none⟩)) := hh.at 0
            clear hh
            have q5 := (HQ.out.below hb).c 5 _ rfl
            refine Each.Goes.same ?_
            go_simp
            try with_reducible rfl
          · refine Each.fine rfl (fun ev w1 hR hb hh => ?_)
            clear hh
            have e0 := hR.old 0 rfl
            simp only [Array.getD_eq_getD_getElem?, List.getElem?_toArray, List.getElem?_cons_zero, Option.getD_some] at e0
            refine Each.Goes.same ?_
            go_simp
            try with_reducible rfl
          · refine Each.fine rfl (fun ev w1 hR hb hh => ?_)
            have e19 : (ev (.tmp 19) = .pointer (some ⟨g, 0, none⟩)) := hh.at 0
            clear hh
            refine Each.Goes.same ?_
            go_simp
            try with_reducible rfl
          · refine Each.fine rfl (fun ev w1 hR hb hh => ?_)
            have e20 : (ev (.tmp 20) = .pointer (some ⟨g, 0, none⟩)) := hh.at 0
            clear hh
            refine Each.Goes.same ?_
            go_simp
            try with_reducible rfl
          · refine Each.fine rfl (fun ev w1 hR hb hh => ?_)
            have e21 : (ev (.tmp 21) = .pointer (some ⟨g, 1, none⟩)) := hh.at 0
            clear hh
            refine Each.Goes.same ?_
            go_simp
            try with_reducible rfl
          · refine Each.fine rfl (fun ev w1 hR hb hh => ?_)
            have e22 : (ev (.tmp 22) = .pointer (some ⟨g, 1, none⟩)) := hh.at 0
            clear hh
            refine Each.Goes.same ?_
            go_simp
            try with_reducible rfl
          · refine Each.fine rfl (fun ev w1 hR hb hh => ?_)
            have e23 : (ev (.tmp 23) = .pointer (some ⟨g, 2, none⟩)) := hh.at 0
            clear hh
            have q2 := (HQ.out.below hb).c 2 _ rfl
            refine Each.Goes.same ?_
            go_simp
            try with_reducible rfl
          · refine Each.fine rfl (fun ev w1 hR hb hh => ?_)
            have e9 : (ev (.tmp 9) = .int .u32 (p : Int)) := hh.at 0
            have e13 : (ev (.tmp 13) = .agg #[.int .i64 b.x0, .int .i64 b.x1, .int .i64 b.x2, .int .i64 b.x3, .int .i64 b.x4, .int .i64 b.x5, .int .i64 b.x6, .int .i64 b.x7, .bool b.ch, .bool b.od]) := hh.at 1
            have e18 : (ev (.tmp 18) = .int .i64 s.r.k) := hh.at 2
            have e24 : (ev (.tmp 24) = .slice bf s.r.fs.length cf) := hh.at 3
            clear hh
            have ef := hR.func
            refine Each.Goes.enter 202 #[.int .u32 (p : Int), .agg #[.int .i64 b.x0, .int .i64 b.x1, .int .i64 b.x2, .int .i64 b.x3, .int .i64 b.x4, .int .i64 b.x5, .int .i64 b.x6, .int .i64 b.x7, .bool b.ch, .bool b.od], .int .i64 s.r.k, .slice bf s.r.fs.length cf] (by go_simp) ((HZ.out w1 hb).mono ?_)
            rintro r w2 ⟨rfl, hb2⟩
            exact ⟨_, rfl, hb2, rfl⟩
          · refine Each.fine rfl (fun ev w1 hR hb hh => ?_)
            have e25 : (ev (.tmp 25) = .tuple #[.agg #[.int .i64 1, .int .i64 0], .int .i64 0]) := hh.at 0
            clear hh
            refine Each.Goes.same ?_
            go_simp
            try with_reducible rfl
          · refine Each.fine rfl (fun ev w1 hR hb hh => ?_)
            have e5 : (ev (.tmp 5) = .tuple #[.agg #[.int .i64 1, .int .i64 0], .int .i64 0]) := hh.at 0
            clear hh
            refine Each.Goes.same ?_
            go_simp
            try with_reducible rfl
          · refine Each.fine rfl (fun ev w1 hR hb hh => ?_)
            have e5 : (ev (.tmp 5) = .tuple #[.agg #[.int .i64 1, .int .i64 0], .int .i64 0]) := hh.at 0
            clear hh
            refine Each.Goes.same ?_
            go_simp
            try with_reducible rfl
          · refine Each.fine rfl (fun ev w1 hR hb hh => ?_)
            clear hh
            exact Each.Goes.value (ptr w1.heap.size) (w1.alloc (.cells #[.int .i64 0, .int .i64 0] 189)) (by go_simp) ((Below.refl _ _).alloc (Nat.le_refl _) _) ⟨_, rfl, hb.size, Rec.Bk.new w1 _ rfl 189 [.int .i64 0, .int .i64 0]⟩
        · intro g1 w2 hb hf
          have z5 : (g1 5 = .tuple #[.agg #[.int .i64 1, .int .i64 0], .int .i64 0]) := hf.at 20
          have z26 : (g1 26 = .agg #[.int .i64 1, .int .i64 0]) := hf.at 21
          have z27 : (g1 27 = .int .i64 0) := hf.at 22
          have z3 : ((fun v u => ∃ g2, v = ptr g2 ∧ w.heap.size ≤ g2 ∧ Rec.Bk u g2 [.int .i64 0, .int .i64 0]) (g1 3) w2) := hf.at 23
          clear hf
          obtain ⟨g2, e2, hg2, hB2⟩ := z3
          simp only [Each.putg, Act.put, List.setIfInBounds_toArray, List.set_cons_zero, List.set_cons_succ]
          rw [z5, z26, z27, e2]
          simp only [Tree.grow, Tree.put1, List.getElem?_cons_zero, List.getElem?_cons_succ]
          have y0 := hB2.c 0 _ rfl; have y1 := hB2.c 1 _ rfl; have x0 := hB2.z 0 (by simp); have x1 := hB2.z 1 (by simp)
          refine Tree.change (by rfl) (fun K hK => ?_)
          go_simp
          refine hK _ _ trivial ?_
          clear hK K y0 y1 x0 x1
          refine Tree.assign _ (by rfl) (by rfl) ?_
          simp only [Act.put, Act.eval, Array.getD_eq_getD_getElem?, List.getElem?_toArray, List.getElem?_cons_zero, List.getElem?_cons_succ, Option.getD_some, List.setIfInBounds_toArray, List.set_cons_zero, List.set_cons_succ]
          refine Tree.done ?_
          go_wp2_with fail
          go_meet
          case rel => exact ⟨g2, rfl, rfl, Lib.hid ((hb.setCell hg2 _).setCell hg2 _), Lib.hid ((hB2.set 0 (.int .i64 1) (by simp)).set 1 (.int .i64 0) (by simp)), Lib.hid hg2⟩
        · intro k0 hk0 g1 w2 hb hf
          cases hk0
          have z5 : (g1 5 = .tuple #[.agg #[.int .i64 1, .int .i64 0], .int .i64 0]) := hf.at 20
          have z26 : (g1 26 = .agg #[.int .i64 1, .int .i64 0]) := hf.at 21
          have z3 : ((fun v u => ∃ g2, v = ptr g2 ∧ w.heap.size ≤ g2 ∧ Rec.Bk u g2 [.int .i64 0, .int .i64 0]) (g1 3) w2) := hf.at 23
          clear hf
          obtain ⟨g2, e2, hg2, hB2⟩ := z3
          simp only [Each.putg, Act.put, List.setIfInBounds_toArray, List.set_cons_zero, List.set_cons_succ]
          rw [z5, z26, e2]
          simp only [Tree.grow, Tree.put1, List.getElem?_cons_zero, List.getElem?_cons_succ]
          refine Tree.quiet (by rfl) (.int .i64 0) (fun _ _ => by go_simp) ?_
          simp only [Act.put, List.setIfInBounds_toArray, List.set_cons_zero, List.set_cons_succ]
          have y0 := hB2.c 0 _ rfl; have y1 := hB2.c 1 _ rfl; have x0 := hB2.z 0 (by simp); have x1 := hB2.z 1 (by simp)
          refine Tree.change (by rfl) (fun K hK => ?_)
          go_simp
          refine hK _ _ trivial ?_
          clear hK K y0 y1 x0 x1
          refine Tree.assign _ (by rfl) (by rfl) ?_
          simp only [Act.put, Act.eval, Array.getD_eq_getD_getElem?, List.getElem?_toArray, List.getElem?_cons_zero, List.getElem?_cons_succ, Option.getD_some, List.setIfInBounds_toArray, List.set_cons_zero, List.set_cons_succ]
          refine Tree.done ?_
          go_wp2_with fail
          go_meet
          case rel => exact ⟨g2, rfl, rfl, Lib.hid ((hb.setCell hg2 _).setCell hg2 _), Lib.hid ((hB2.set 0 (.int .i64 1) (by simp)).set 1 (.int .i64 0) (by simp)), Lib.hid hg2⟩
      case rest =>
      obtain ⟨g2, rfl, rfl, HB, HG, HG2⟩ := hcut
      have H1 := Lib.hid (H.out.below HB.out)
      clear HQ
      obtain ⟨W0, hW0⟩ : ∃ x, x = wc := ⟨_, rfl⟩
      subst hW0
      have y0 := HG.out.c 0 _ rfl; have y1 := HG.out.c 1 _ rfl
      have HW := Lib.hid (finish_any H1.out HO.out)
      go_wp2_with (go_at_call 134; with_reducible refine HW.out.mono ?_; rintro r w3 ⟨rfl, o1, hP, hS⟩)
      go_ret
      exact ⟨rfl, _, _, _, _, _, _, hP, (Step.of_below HB.out).trans hS⟩
    · have tz : ¬ (n : Int) = 0 := by omega
      have tz' : ((n : Int) == 0) = false := beq_eq_false_iff_ne.2 tz
      have e : s.endHead p b = (0, { s with st := 3, left := n }) := by
        unfold T.endHead
        rw [hD]
        show (if (0 : Int) ≠ 0 then _ else if (1 : Int) = 2 then _ else if (n : Int) = 0 then _ else (0, ({ s with left := (n : Int).toNat, st := 3 } : T))) = _
        rw [if_neg (by decide), if_neg (by decide), if_neg tz, Int.toNat_natCast]
      rw [e]
      clear hz hD e hvd hle hn
      go_enter Tryz.func183, Tryz.ntmps183
      go_upto_region 1 with fail
      go_cut [3, 4] from 5 to 27 (fun u c wx => ∃ g2, u = ptr g2 ∧ c = .int .i64 0 ∧ Hid (Below w.heap.size w wx) ∧ Hid (Rec.Bk wx g2 [.int .i64 1, .int .i64 (n : Int)]) ∧ Hid (w.heap.size ≤ g2))
      case first =>
        refine Each.region_float 24 [6, 7, 8, 9, 10, 11, 12, 13, 14, 15, 16, 17, 18, 19, 20, 21, 22, 23, 24, 25, 5, 26, 27, 3]
            [fun v _ => v = .pointer (some ⟨g, 0, none⟩),
              fun v _ => v = .pointer (some ⟨g, 0, none⟩),
              fun v _ => v = .pointer (some ⟨g, 13, none⟩),
              fun v _ => v = .int .u32 (p : Int),
              fun v _ => v = .pointer (some ⟨g, 0, none⟩),
              fun v _ => v = .pointer (some ⟨g, 0, none⟩),
              fun v _ => v = .pointer (some ⟨g, 14, none⟩),
              fun v _ => v = .agg #[.int .i64 b.x0, .int .i64 b.x1, .int .i64 b.x2, .int .i64 b.x3, .int .i64 b.x4, .int .i64 b.x5, .int .i64 b.x6, .int .i64 b.x7, .bool b.ch, .bool b.od],
              fun v _ => v = .pointer (some ⟨g, 0, none⟩),
              fun v _ => v = .pointer (some ⟨g, 0, none⟩),
              fun v _ => v = .pointer (some ⟨g, 1, none⟩),
              fun v _ => v = .pointer (some ⟨g, 5, none⟩),
              fun v _ => v = .int .i64 s.r.k,
              fun v _ => v = .pointer (some ⟨g, 0, none⟩),
              fun v _ => v = .pointer (some ⟨g, 0, none⟩),
              fun v _ => v = .pointer (some ⟨g, 1, none⟩),
              fun v _ => v = .pointer (some ⟨g, 1, none⟩),
              fun v _ => v = .pointer (some ⟨g, 2, none⟩),
              fun v _ => v = .slice bf s.r.fs.length cf,
              fun v _ => v = .tuple #[.agg #[.int .i64 1, .int .i64 (n : Int)], .int .i64 0],
              fun v _ => v = .tuple #[.agg #[.int .i64 1, .int .i64 (n : Int)], .int .i64 0],
              fun v _ => v = .agg #[.int .i64 1, .int .i64 (n : Int)],
              fun v _ => v = .int .i64 0,
              fun v u => ∃ g2, v = ptr g2 ∧ w.heap.size ≤ g2 ∧ Rec.Bk u g2 [.int .i64 0, .int .i64 0]]
            [] 2 (some 22) (.act 24 (.quiet 25 .done)) (.quiet 22 (.act 24 (.quiet 25 .done))) (by kernel_rfl) (by kernel_rfl) (by kernel_rfl) (by kernel_rfl) (fun k0 h => by cases h; kernel_rfl) (fun _ _ d _ _ h => by cases d <;> exact h) (by rfl) (by rfl)
            ⟨Each.Lasts.eq _, Each.Lasts.eq _, Each.Lasts.eq _, Each.Lasts.eq _, Each.Lasts.eq _, Each.Lasts.eq _, Each.Lasts.eq _, Each.Lasts.eq _, Each.Lasts.eq _, Each.Lasts.eq _, Each.Lasts.eq _, Each.Lasts.eq _, Each.Lasts.eq _, Each.Lasts.eq _, Each.Lasts.eq _, Each.Lasts.eq _, Each.Lasts.eq _, Each.Lasts.eq _, Each.Lasts.eq _, Each.Lasts.eq _, Each.Lasts.eq _, Each.Lasts.eq _, Each.Lasts.eq _, ((fun _ _ _ hb h => by obtain ⟨g2, e1, h1, hB⟩ := h; exact ⟨g2, e1, h1, hB.below hb⟩)), trivial⟩ trivial (by rfl) ?_ ?_ ?_
        · refine ⟨?_, ?_, ?_, ?_, ?_, ?_, ?_, ?_, ?_, ?_, ?_, ?_, ?_, ?_, ?_, ?_, ?_, ?_, ?_, ?_, ?_, ?_, ?_, ?_, trivial⟩
          · refine Each.fine rfl (fun ev w1 hR hb hh => ?_)
            clear hh
            have e0 := hR.old 0 rfl
            simp only [Array.getD_eq_getD_getElem?, List.getElem?_toArray, List.getElem?_cons_zero, Option.getD_some] at e0
            refine Each.Goes.same ?_
            go_simp
            try with_reducible rfl
          · refine Each.fine rfl (fun ev w1 hR hb hh => ?_)
            have e6 : (ev (.tmp 6) = .pointer (some ⟨g, 0, none⟩)) := hh.at 0
            clear hh
            refine Each.Goes.same ?_
            go_simp
            try with_reducible rfl
          · refine Each.fine rfl (fun ev w1 hR hb hh => ?_)
            have e7 : (ev (.tmp 7) = .pointer (some ⟨g, 0, none⟩)) := hh.at 0
            clear hh
            refine Each.Goes.same ?_
            go_simp
            try with_reducible rfl
          · refine Each.fine rfl (fun ev w1 hR hb hh => ?_)
            have e8 : (ev (.tmp 8) = .pointer (some ⟨g, 13, none⟩)) := hh.at 0
            clear hh
            have q13 := (HQ.out.below hb).c 13 _ rfl
            refine Each.Goes.same ?_
            go_simp
            try with_reducible rfl
          · refine Each.fine rfl (fun ev w1 hR hb hh => ?_)
            clear hh
            have e0 := hR.old 0 rfl
            simp only [Array.getD_eq_getD_getElem?, List.getElem?_toArray, List.getElem?_cons_zero, Option.getD_some] at e0
            refine Each.Goes.same ?_
            go_simp
            try with_reducible rfl
          · refine Each.fine rfl (fun ev w1 hR hb hh => ?_)
            have e10 : (ev (.tmp 10) = .pointer (some ⟨g, 0, none⟩)) := hh.at 0
            clear hh
            refine Each.Goes.same ?_
            go_simp
            try with_reducible rfl
          · refine Each.fine rfl (fun ev w1 hR hb hh => ?_)
            have e11 : (ev (.tmp 11) = .pointer (some ⟨g, 0, none⟩)) := hh.at 0
            clear hh
            refine Each.Goes.same ?_
            go_simp
            try with_reducible rfl
          · refine Each.fine rfl (fun ev w1 hR hb hh => ?_)
            have e12 : (ev (.tmp 12) = .pointer (some ⟨g, 14, none⟩)) := hh.at 0
            clear hh
            have q14 := (HQ.out.below hb).c 14 _ rfl
            have q15 := (HQ.out.below hb).c 15 _ rfl
            have q16 := (HQ.out.below hb).c 16 _ rfl
            have q17 := (HQ.out.below hb).c 17 _ rfl
            have q18 := (HQ.out.below hb).c 18 _ rfl
            have q19 := (HQ.out.below hb).c 19 _ rfl
            have q20 := (HQ.out.below hb).c 20 _ rfl
            have q21 := (HQ.out.below hb).c 21 _ rfl
            have q22 := (HQ.out.below hb).c 22 _ rfl
            have q23 := (HQ.out.below hb).c 23 _ rfl
            refine Each.Goes.same ?_
            go_simp
            try with_reducible rfl
          · refine Each.fine rfl (fun ev w1 hR hb hh => ?_)
            clear hh
            have e0 := hR.old 0 rfl
            simp only [Array.getD_eq_getD_getElem?, List.getElem?_toArray, List.getElem?_cons_zero, Option.getD_some] at e0
            refine Each.Goes.same ?_
            go_simp
            try with_reducible rfl
          · refine Each.fine rfl (fun ev w1 hR hb hh => ?_)
            have e14 : (ev (.tmp 14) = .pointer (some ⟨g, 0, none⟩)) := hh.at 0
            clear hh
            refine Each.Goes.same ?_
            go_simp
            try with_reducible rfl
          · refine Each.fine rfl (fun ev w1 hR hb hh => ?_)
            have e15 : (ev (.tmp 15) = .pointer (some ⟨g, 0, none⟩)) := hh.at 0
            clear hh
            refine Each.Goes.same ?_
            go_simp
            try with_reducible rfl
          · refine Each.fine rfl (fun ev w1 hR hb hh => ?_)
            have e16 : (ev (.tmp 16) = .pointer (some ⟨g, 1, none⟩)) := hh.at 0
            clear hh
            refine Each.Goes.same ?_
            go_simp
            try with_reducible rfl
          · refine Each.fine rfl (fun ev w1 hR hb hh => ?_)
            have e17 : (ev (.tmp 17) = .pointer (some ⟨g, 5, none⟩)) := hh.at 0
            clear hh
            have q5 := (HQ.out.below hb).c 5 _ rfl
            refine Each.Goes.same ?_
            go_simp
            try with_reducible rfl
          · refine Each.fine rfl (fun ev w1 hR hb hh => ?_)
            clear hh
            have e0 := hR.old 0 rfl
            simp only [Array.getD_eq_getD_getElem?, List.getElem?_toArray, List.getElem?_cons_zero, Option.getD_some] at e0
            refine Each.Goes.same ?_
            go_simp
            try with_reducible rfl
          · refine Each.fine rfl (fun ev w1 hR hb hh => ?_)
            have e19 : (ev (.tmp 19) = .pointer (some ⟨g, 0, none⟩)) := hh.at 0
            clear hh
            refine Each.Goes.same ?_
            go_simp
            try with_reducible rfl
          · refine Each.fine rfl (fun ev w1 hR hb hh => ?_)
            have e20 : (ev (.tmp 20) = .pointer (some ⟨g, 0, none⟩)) := hh.at 0
            clear hh
            refine Each.Goes.same ?_
            go_simp
            try with_reducible rfl
          · refine Each.fine rfl (fun ev w1 hR hb hh => ?_)
            have e21 : (ev (.tmp 21) = .pointer (some ⟨g, 1, none⟩)) := hh.at 0
            clear hh
            refine Each.Goes.same ?_
            go_simp
            try with_reducible rfl
          · refine Each.fine rfl (fun ev w1 hR hb hh => ?_)
            have e22 : (ev (.tmp 22) = .pointer (some ⟨g, 1, none⟩)) := hh.at 0
            clear hh
            refine Each.Goes.same ?_
            go_simp
            try with_reducible rfl
          · refine Each.fine rfl (fun ev w1 hR hb hh => ?_)
            have e23 : (ev (.tmp 23) = .pointer (some ⟨g, 2, none⟩)) := hh.at 0
            clear hh
            have q2 := (HQ.out.below hb).c 2 _ rfl
            refine Each.Goes.same ?_
            go_simp
            try with_reducible rfl
          · refine Each.fine rfl (fun ev w1 hR hb hh => ?_)
            have e9 : (ev (.tmp 9) = .int .u32 (p : Int)) := hh.at 0
            have e13 : (ev (.tmp 13) = .agg #[.int .i64 b.x0, .int .i64 b.x1, .int .i64 b.x2, .int .i64 b.x3, .int .i64 b.x4, .int .i64 b.x5, .int .i64 b.x6, .int .i64 b.x7, .bool b.ch, .bool b.od]) := hh.at 1
            have e18 : (ev (.tmp 18) = .int .i64 s.r.k) := hh.at 2
            have e24 : (ev (.tmp 24) = .slice bf s.r.fs.length cf) := hh.at 3
            clear hh
            have ef := hR.func
            refine Each.Goes.enter 202 #[.int .u32 (p : Int), .agg #[.int .i64 b.x0, .int .i64 b.x1, .int .i64 b.x2, .int .i64 b.x3, .int .i64 b.x4, .int .i64 b.x5, .int .i64 b.x6, .int .i64 b.x7, .bool b.ch, .bool b.od], .int .i64 s.r.k, .slice bf s.r.fs.length cf] (by go_simp) ((HZ.out w1 hb).mono ?_)
            rintro r w2 ⟨rfl, hb2⟩
            exact ⟨_, rfl, hb2, rfl⟩
          · refine Each.fine rfl (fun ev w1 hR hb hh => ?_)
            have e25 : (ev (.tmp 25) = .tuple #[.agg #[.int .i64 1, .int .i64 (n : Int)], .int .i64 0]) := hh.at 0
            clear hh
            refine Each.Goes.same ?_
            go_simp
            try with_reducible rfl
          · refine Each.fine rfl (fun ev w1 hR hb hh => ?_)
            have e5 : (ev (.tmp 5) = .tuple #[.agg #[.int .i64 1, .int .i64 (n : Int)], .int .i64 0]) := hh.at 0
            clear hh
            refine Each.Goes.same ?_
            go_simp
            try with_reducible rfl
          · refine Each.fine rfl (fun ev w1 hR hb hh => ?_)
            have e5 : (ev (.tmp 5) = .tuple #[.agg #[.int .i64 1, .int .i64 (n : Int)], .int .i64 0]) := hh.at 0
            clear hh
            refine Each.Goes.same ?_
            go_simp
            try with_reducible rfl
          · refine Each.fine rfl (fun ev w1 hR hb hh => ?_)
            clear hh
            exact Each.Goes.value (ptr w1.heap.size) (w1.alloc (.cells #[.int .i64 0, .int .i64 0] 189)) (by go_simp) ((Below.refl _ _).alloc (Nat.le_refl _) _) ⟨_, rfl, hb.size, Rec.Bk.new w1 _ rfl 189 [.int .i64 0, .int .i64 0]⟩
        · intro g1 w2 hb hf
          have z5 : (g1 5 = .tuple #[.agg #[.int .i64 1, .int .i64 (n : Int)], .int .i64 0]) := hf.at 20
          have z26 : (g1 26 = .agg #[.int .i64 1, .int .i64 (n : Int)]) := hf.at 21
          have z27 : (g1 27 = .int .i64 0) := hf.at 22
          have z3 : ((fun v u => ∃ g2, v = ptr g2 ∧ w.heap.size ≤ g2 ∧ Rec.Bk u g2 [.int .i64 0, .int .i64 0]) (g1 3) w2) := hf.at 23
          clear hf
          obtain ⟨g2, e2, hg2, hB2⟩ := z3
          simp only [Each.putg, Act.put, List.setIfInBounds_toArray, List.set_cons_zero, List.set_cons_succ]
          rw [z5, z26, z27, e2]
          simp only [Tree.grow, Tree.put1, List.getElem?_cons_zero, List.getElem?_cons_succ]
          have y0 := hB2.c 0 _ rfl; have y1 := hB2.c 1 _ rfl; have x0 := hB2.z 0 (by simp); have x1 := hB2.z 1 (by simp)
          refine Tree.change (by rfl) (fun K hK => ?_)
          go_simp
          refine hK _ _ trivial ?_
          clear hK K y0 y1 x0 x1
          refine Tree.assign _ (by rfl) (by rfl) ?_
          simp only [Act.put, Act.eval, Array.getD_eq_getD_getElem?, List.getElem?_toArray, List.getElem?_cons_zero, List.getElem?_cons_succ, Option.getD_some, List.setIfInBounds_toArray, List.set_cons_zero, List.set_cons_succ]
          refine Tree.done ?_
          go_wp2_with fail
          go_meet
          case rel => exact ⟨g2, rfl, rfl, Lib.hid ((hb.setCell hg2 _).setCell hg2 _), Lib.hid ((hB2.set 0 (.int .i64 1) (by simp)).set 1 (.int .i64 (n : Int)) (by simp)), Lib.hid hg2⟩
        · intro k0 hk0 g1 w2 hb hf
          cases hk0
          have z5 : (g1 5 = .tuple #[.agg #[.int .i64 1, .int .i64 (n : Int)], .int .i64 0]) := hf.at 20
          have z26 : (g1 26 = .agg #[.int .i64 1, .int .i64 (n : Int)]) := hf.at 21
          have z3 : ((fun v u => ∃ g2, v = ptr g2 ∧ w.heap.size ≤ g2 ∧ Rec.Bk u g2 [.int .i64 0, .int .i64 0]) (g1 3) w2) := hf.at 23
          clear hf
          obtain ⟨g2, e2, hg2, hB2⟩ := z3
          simp only [Each.putg, Act.put, List.setIfInBounds_toArray, List.set_cons_zero, List.set_cons_succ]
          rw [z5, z26, e2]
          simp only [Tree.grow, Tree.put1, List.getElem?_cons_zero, List.getElem?_cons_succ]
          refine Tree.quiet (by rfl) (.int .i64 0) (fun _ _ => by go_simp) ?_
          simp only [Act.put, List.setIfInBounds_toArray, List.set_cons_zero, List.set_cons_succ]
          have y0 := hB2.c 0 _ rfl; have y1 := hB2.c 1 _ rfl; have x0 := hB2.z 0 (by simp); have x1 := hB2.z 1 (by simp)
          refine Tree.change (by rfl) (fun K hK => ?_)
          go_simp
          refine hK _ _ trivial ?_
          clear hK K y0 y1 x0 x1
          refine Tree.assign _ (by rfl) (by rfl) ?_
          simp only [Act.put, Act.eval, Array.getD_eq_getD_getElem?, List.getElem?_toArray, List.getElem?_cons_zero, List.getElem?_cons_succ, Option.getD_some, List.setIfInBounds_toArray, List.set_cons_zero, List.set_cons_succ]
          refine Tree.done ?_
          go_wp2_with fail
          go_meet
          case rel => exact ⟨g2, rfl, rfl, Lib.hid ((hb.setCell hg2 _).setCell hg2 _), Lib.hid ((hB2.set 0 (.int .i64 1) (by simp)).set 1 (.int .i64 (n : Int)) (by simp)), Lib.hid hg2⟩
      case rest =>
      obtain ⟨g2, rfl, rfl, HB, HG, HG2⟩ := hcut
      have H1 := Lib.hid (H.out.below HB.out)
      clear HQ
      obtain ⟨W0, hW0⟩ : ∃ x, x = wc := ⟨_, rfl⟩
      subst hW0
      have y0 := HG.out.c 0 _ rfl; have y1 := HG.out.c 1 _ rfl
      have H2 := Lib.hid ((H1.out.put 12 (.int .i64 (n : Int)) { s with left := n } rfl rfl rfl rfl rfl rfl).put 24 (.int .i64 3) { s with left := n, st := 3 } rfl rfl rfl rfl rfl rfl)
      have HS2 := Lib.hid ((Step.of_below HB.out (L := blks g q v (.slice bf s.r.fs.length cf) bd t o)).trans ((Step.set g 12 (.int .i64 (n : Int)) (by simp)).trans (Step.set g 24 (.int .i64 3) (by simp))))
      have c12 := H1.out.cs.c12; have z12 := H1.out.marks 12; have c24 := H1.out.cs.c24; have z24 := H1.out.marks 24
      go_wp2
      go_ret
      exact ⟨rfl, _, _, _, _, _, _, H2.out, HS2.out⟩
  · have HZ := Lib.hid (show ∀ w2, Below (w.drewN 1).heap.size (w.drewN 1) w2 → Calls Tryz.prog 202 #[.int .u32 (p : Int), .agg #[.int .i64 b.x0, .int .i64 b.x1, .int .i64 b.x2, .int .i64 b.x3, .int .i64 b.x4, .int .i64 b.x5, .int .i64 b.x6, .int .i64 b.x7, .bool b.ch, .bool b.od], .int .i64 s.r.k, .slice bf s.r.fs.length cf] w2 fun r w' => r = .returned (.tuple #[.agg #[.int .i64 0, .int .i64 0], .int .i64 (e : Int)]) ∧ Below w2.heap.size w2 w' from fun w2 hb => by have := hz w2 hb; rw [hD] at this; exact this)
    have tz : ¬ (e : Int) = 0 := by omega
    have tz' : ((e : Int) == 0) = false := beq_eq_false_iff_ne.2 tz
    have tz2 : ((e : Int) != 0) = true := bne_iff_ne.2 tz
    have e1 : s.endHead p b = (e, s) := by
      unfold T.endHead
      rw [hD]
      show (if (e : Int) ≠ 0 then ((e : Int).toNat, s) else _) = _
      rw [if_pos tz, Int.toNat_natCast]
    rw [e1]
    clear hz hD e1 hvd he
    go_enter Tryz.func183, Tryz.ntmps183
    go_upto_region 1 with fail
    go_cut [3, 4] from 5 to 27 (fun u c wx => ∃ g2, u = ptr g2 ∧ c = .int .i64 (e : Int) ∧ Hid (Below w.heap.size w wx) ∧ Hid (Rec.Bk wx g2 [.int .i64 0, .int .i64 0]) ∧ Hid (w.heap.size ≤ g2))
    case first =>
      refine Each.region_float 24 [6, 7, 8, 9, 10, 11, 12, 13, 14, 15, 16, 17, 18, 19, 20, 21, 22, 23, 24, 25, 5, 26, 27, 3]
          [fun v _ => v = .pointer (some ⟨g, 0, none⟩),
            fun v _ => v = .pointer (some ⟨g, 0, none⟩),
            fun v _ => v = .pointer (some ⟨g, 13, none⟩),
            fun v _ => v = .int .u32 (p : Int),
            fun v _ => v = .pointer (some ⟨g, 0, none⟩),
            fun v _ => v = .pointer (some ⟨g, 0, none⟩),
            fun v _ => v = .pointer (some ⟨g, 14, none⟩),
            fun v _ => v = .agg #[.int .i64 b.x0, .int .i64 b.x1, .int .i64 b.x2, .int .i64 b.x3, .int .i64 b.x4, .int .i64 b.x5, .int .i64 b.x6, .int .i64 b.x7, .bool b.ch, .bool b.od],
            fun v _ => v = .pointer (some ⟨g, 0, none⟩),
            fun v _ => v = .pointer (some ⟨g, 0, none⟩),
            fun v _ => v = .pointer (some ⟨g, 1, none⟩),
            fun v _ => v = .pointer (some ⟨g, 5, none⟩),
            fun v _ => v = .int .i64 s.r.k,
            fun v _ => v = .pointer (some ⟨g, 0, none⟩),
            fun v _ => v = .pointer (some ⟨g, 0, none⟩),
            fun v _ => v = .pointer (some ⟨g, 1, none⟩),
            fun v _ => v = .pointer (some ⟨g, 1, none⟩),
            fun v _ => v = .pointer (some ⟨g, 2, none⟩),
            fun v _ => v = .slice bf s.r.fs.length cf,
            fun v _ => v = .tuple #[.agg #[.int .i64 0, .int .i64 0], .int .i64 (e : Int)],
            fun v _ => v = .tuple #[.agg #[.int .i64 0, .int .i64 0], .int .i64 (e : Int)],
            fun v _ => v = .agg #[.int .i64 0, .int .i64 0],
            fun v _ => v = .int .i64 (e : Int),
            fun v u => ∃ g2, v = ptr g2 ∧ w.heap.size ≤ g2 ∧ Rec.Bk u g2 [.int .i64 0, .int .i64 0]]
          [] 2 (some 22) (.act 24 (.quiet 25 .done)) (.quiet 22 (.act 24 (.quiet 25 .done))) (by kernel_rfl) (by kernel_rfl) (by kernel_rfl) (by kernel_rfl) (fun k0 h => by cases h; kernel_rfl) (fun _ _ d _ _ h => by cases d <;> exact h) (by rfl) (by rfl)
          ⟨Each.Lasts.eq _, Each.Lasts.eq _, Each.Lasts.eq _, Each.Lasts.eq _, Each.Lasts.eq _, Each.Lasts.eq _, Each.Lasts.eq _, Each.Lasts.eq _, Each.Lasts.eq _, Each.Lasts.eq _, Each.Lasts.eq _, Each.Lasts.eq _, Each.Lasts.eq _, Each.Lasts.eq _, Each.Lasts.eq _, Each.Lasts.eq _, Each.Lasts.eq _, Each.Lasts.eq _, Each.Lasts.eq _, Each.Lasts.eq _, Each.Lasts.eq _, Each.Lasts.eq _, Each.Lasts.eq _, ((fun _ _ _ hb h => by obtain ⟨g2, e1, h1, hB⟩ := h; exact ⟨g2, e1, h1, hB.below hb⟩)), trivial⟩ trivial (by rfl) ?_ ?_ ?_
      · refine ⟨?_, ?_, ?_, ?_, ?_, ?_, ?_, ?_, ?_, ?_, ?_, ?_, ?_, ?_, ?_, ?_, ?_, ?_, ?_, ?_, ?_, ?_, ?_, ?_, trivial⟩
        · refine Each.fine rfl (fun ev w1 hR hb hh => ?_)
          clear hh
          have e0 := hR.old 0 rfl
          simp only [Array.getD_eq_getD_getElem?, List.getElem?_toArray, List.getElem?_cons_zero, Option.getD_some] at e0
          refine Each.Goes.same ?_
          go_simp
          try with_reducible rfl
        · refine Each.fine rfl (fun ev w1 hR hb hh => ?_)
          have e6 : (ev (.tmp 6) = .pointer (some ⟨g, 0, none⟩)) := hh.at 0
          clear hh
          refine Each.Goes.same ?_
          go_simp
          try with_reducible rfl
        · refine Each.fine rfl (fun ev w1 hR hb hh => ?_)
          have e7 : (ev (.tmp 7) = .pointer (some ⟨g, 0, none⟩)) := hh.at 0
          clear hh
          refine Each.Goes.same ?_
          go_simp
          try with_reducible rfl
        · refine Each.fine rfl (fun ev w1 hR hb hh => ?_)
          have e8 : (ev (.tmp 8) = .pointer (some ⟨g, 13, none⟩)) := hh.at 0
          clear hh
          have q13 := (HQ.out.below hb).c 13 _ rfl
          refine Each.Goes.same ?_
          go_simp
          try with_reducible rfl
        · refine Each.fine rfl (fun ev w1 hR hb hh => ?_)
          clear hh
          have e0 := hR.old 0 rfl
          simp only [Array.getD_eq_getD_getElem?, List.getElem?_toArray, List.getElem?_cons_zero, Option.getD_some] at e0
          refine Each.Goes.same ?_
          go_simp
          try with_reducible rfl
        · refine Each.fine rfl (fun ev w1 hR hb hh => ?_)
          have e10 : (ev (.tmp 10) = .pointer (some ⟨g, 0, none⟩)) := hh.at 0
          clear hh
          refine Each.Goes.same ?_
          go_simp
          try with_reducible rfl
        · refine Each.fine rfl (fun ev w1 hR hb hh => ?_)
          have e11 : (ev (.tmp 11) = .pointer (some ⟨g, 0, none⟩)) := hh.at 0
          clear hh
          refine Each.Goes.same ?_
          go_simp
          try with_reducible rfl
        · refine Each.fine rfl (fun ev w1 hR hb hh => ?_)
          have e12 : (ev (.tmp 12) = .pointer (some ⟨g, 14, none⟩)) := hh.at 0
          clear hh
          have q14 := (HQ.out.below hb).c 14 _ rfl
          have q15 := (HQ.out.below hb).c 15 _ rfl
          have q16 := (HQ.out.below hb).c 16 _ rfl
          have q17 := (HQ.out.below hb).c 17 _ rfl
          have q18 := (HQ.out.below hb).c 18 _ rfl
          have q19 := (HQ.out.below hb).c 19 _ rfl
          have q20 := (HQ.out.below hb).c 20 _ rfl
          have q21 := (HQ.out.below hb).c 21 _ rfl
          have q22 := (HQ.out.below hb).c 22 _ rfl
          have q23 := (HQ.out.below hb).c 23 _ rfl
          refine Each.Goes.same ?_
          go_simp
          try with_reducible rfl
        · refine Each.fine rfl (fun ev w1 hR hb hh => ?_)
          clear hh
          have e0 := hR.old 0 rfl
          simp only [Array.getD_eq_getD_getElem?, List.getElem?_toArray, List.getElem?_cons_zero, Option.getD_some] at e0
          refine Each.Goes.same ?_
          go_simp
          try with_reducible rfl
        · refine Each.fine rfl (fun ev w1 hR hb hh => ?_)
          have e14 : (ev (.tmp 14) = .pointer (some ⟨g, 0, none⟩)) := hh.at 0
          clear hh
          refine Each.Goes.same ?_
          go_simp
          try with_reducible rfl
        · refine Each.fine rfl (fun ev w1 hR hb hh => ?_)
          have e15 : (ev (.tmp 15) = .pointer (some ⟨g, 0, none⟩)) := hh.at 0
          clear hh
          refine Each.Goes.same ?_
          go_simp
          try with_reducible rfl
        · refine Each.fine rfl (fun ev w1 hR hb hh => ?_)
          have e16 : (ev (.tmp 16) = .pointer (some ⟨g, 1, none⟩)) := hh.at 0
          clear hh
          refine Each.Goes.same ?_
          go_simp
          try with_reducible rfl
        · refine Each.fine rfl (fun ev w1 hR hb hh => ?_)
          have e17 : (ev (.tmp 17) = .pointer (some ⟨g, 5, none⟩)) := hh.at 0
          clear hh
          have q5 := (HQ.out.below hb).c 5 _ rfl
          refine Each.Goes.same ?_
          go_simp
          try with_reducible rfl
        · refine Each.fine rfl (fun ev w1 hR hb hh => ?_)
          clear hh
          have e0 := hR.old 0 rfl
          simp only [Array.getD_eq_getD_getElem?, List.getElem?_toArray, List.getElem?_cons_zero, Option.getD_some] at e0
          refine Each.Goes.same ?_
          go_simp
          try with_reducible rfl
        · refine Each.fine rfl (fun ev w1 hR hb hh => ?_)
          have e19 : (ev (.tmp 19) = .pointer (some ⟨g, 0, none⟩)) := hh.at 0
          clear hh
          refine Each.Goes.same ?_
          go_simp
          try with_reducible rfl
        · refine Each.fine rfl (fun ev w1 hR hb hh => ?_)
          have e20 : (ev (.tmp 20) = .pointer (some ⟨g, 0, none⟩)) := hh.at 0
          clear hh
          refine Each.Goes.same ?_
          go_simp
          try with_reducible rfl
        · refine Each.fine rfl (fun ev w1 hR hb hh => ?_)
          have e21 : (ev (.tmp 21) = .pointer (some ⟨g, 1, none⟩)) := hh.at 0
          clear hh
          refine Each.Goes.same ?_
          go_simp
          try with_reducible rfl
        · refine Each.fine rfl (fun ev w1 hR hb hh => ?_)
          have e22 : (ev (.tmp 22) = .pointer (some ⟨g, 1, none⟩)) := hh.at 0
          clear hh
          refine Each.Goes.same ?_
          go_simp
          try with_reducible rfl
        · refine Each.fine rfl (fun ev w1 hR hb hh => ?_)
          have e23 : (ev (.tmp 23) = .pointer (some ⟨g, 2, none⟩)) := hh.at 0
          clear hh
          have q2 := (HQ.out.below hb).c 2 _ rfl
          refine Each.Goes.same ?_
          go_simp
          try with_reducible rfl
        · refine Each.fine rfl (fun ev w1 hR hb hh => ?_)
          have e9 : (ev (.tmp 9) = .int .u32 (p : Int)) := hh.at 0
          have e13 : (ev (.tmp 13) = .agg #[.int .i64 b.x0, .int .i64 b.x1, .int .i64 b.x2, .int .i64 b.x3, .int .i64 b.x4, .int .i64 b.x5, .int .i64 b.x6, .int .i64 b.x7, .bool b.ch, .bool b.od]) := hh.at 1
          have e18 : (ev (.tmp 18) = .int .i64 s.r.k) := hh.at 2
          have e24 : (ev (.tmp 24) = .slice bf s.r.fs.length cf) := hh.at 3
          clear hh
          have ef := hR.func
          refine Each.Goes.enter 202 #[.int .u32 (p : Int), .agg #[.int .i64 b.x0, .int .i64 b.x1, .int .i64 b.x2, .int .i64 b.x3, .int .i64 b.x4, .int .i64 b.x5, .int .i64 b.x6, .int .i64 b.x7, .bool b.ch, .bool b.od], .int .i64 s.r.k, .slice bf s.r.fs.length cf] (by go_simp) ((HZ.out w1 hb).mono ?_)
          rintro r w2 ⟨rfl, hb2⟩
          exact ⟨_, rfl, hb2, rfl⟩
        · refine Each.fine rfl (fun ev w1 hR hb hh => ?_)
          have e25 : (ev (.tmp 25) = .tuple #[.agg #[.int .i64 0, .int .i64 0], .int .i64 (e : Int)]) := hh.at 0
          clear hh
          refine Each.Goes.same ?_
          go_simp
          try with_reducible rfl
        · refine Each.fine rfl (fun ev w1 hR hb hh => ?_)
          have e5 : (ev (.tmp 5) = .tuple #[.agg #[.int .i64 0, .int .i64 0], .int .i64 (e : Int)]) := hh.at 0
          clear hh
          refine Each.Goes.same ?_
          go_simp
          try with_reducible rfl
        · refine Each.fine rfl (fun ev w1 hR hb hh => ?_)
          have e5 : (ev (.tmp 5) = .tuple #[.agg #[.int .i64 0, .int .i64 0], .int .i64 (e : Int)]) := hh.at 0
          clear hh
          refine Each.Goes.same ?_
          go_simp
          try with_reducible rfl
        · refine Each.fine rfl (fun ev w1 hR hb hh => ?_)
          clear hh
          exact Each.Goes.value (ptr w1.heap.size) (w1.alloc (.cells #[.int .i64 0, .int .i64 0] 189)) (by go_simp) ((Below.refl _ _).alloc (Nat.le_refl _) _) ⟨_, rfl, hb.size, Rec.Bk.new w1 _ rfl 189 [.int .i64 0, .int .i64 0]⟩
      · intro g1 w2 hb hf
        have z5 : (g1 5 = .tuple #[.agg #[.int .i64 0, .int .i64 0], .int .i64 (e : Int)]) := hf.at 20
        have z26 : (g1 26 = .agg #[.int .i64 0, .int .i64 0]) := hf.at 21
        have z27 : (g1 27 = .int .i64 (e : Int)) := hf.at 22
        have z3 : ((fun v u => ∃ g2, v = ptr g2 ∧ w.heap.size ≤ g2 ∧ Rec.Bk u g2 [.int .i64 0, .int .i64 0]) (g1 3) w2) := hf.at 23
        clear hf
        obtain ⟨g2, e2, hg2, hB2⟩ := z3
        simp only [Each.putg, Act.put, List.setIfInBounds_toArray, List.set_cons_zero, List.set_cons_succ]
        rw [z5, z26, z27, e2]
        simp only [Tree.grow, Tree.put1, List.getElem?_cons_zero, List.getElem?_cons_succ]
        have y0 := hB2.c 0 _ rfl; have y1 := hB2.c 1 _ rfl; have x0 := hB2.z 0 (by simp); have x1 := hB2.z 1 (by simp)
        refine Tree.change (by rfl) (fun K hK => ?_)
        go_simp
        refine hK _ _ trivial ?_
        clear hK K y0 y1 x0 x1
        refine Tree.assign _ (by rfl) (by rfl) ?_
        simp only [Act.put, Act.eval, Array.getD_eq_getD_getElem?, List.getElem?_toArray, List.getElem?_cons_zero, List.getElem?_cons_succ, Option.getD_some, List.setIfInBounds_toArray, List.set_cons_zero, List.set_cons_succ]
        refine Tree.done ?_
        go_wp2_with fail
        go_meet
        case rel => exact ⟨g2, rfl, rfl, Lib.hid ((hb.setCell hg2 _).setCell hg2 _), Lib.hid ((hB2.set 0 (.int .i64 0) (by simp)).set 1 (.int .i64 0) (by simp)), Lib.hid hg2⟩
      · intro k0 hk0 g1 w2 hb hf
        cases hk0
        have z5 : (g1 5 = .tuple #[.agg #[.int .i64 0, .int .i64 0], .int .i64 (e : Int)]) := hf.at 20
        have z26 : (g1 26 = .agg #[.int .i64 0, .int .i64 0]) := hf.at 21
        have z3 : ((fun v u => ∃ g2, v = ptr g2 ∧ w.heap.size ≤ g2 ∧ Rec.Bk u g2 [.int .i64 0, .int .i64 0]) (g1 3) w2) := hf.at 23
        clear hf
        obtain ⟨g2, e2, hg2, hB2⟩ := z3
        simp only [Each.putg, Act.put, List.setIfInBounds_toArray, List.set_cons_zero, List.set_cons_succ]
        rw [z5, z26, e2]
        simp only [Tree.grow, Tree.put1, List.getElem?_cons_zero, List.getElem?_cons_succ]
        refine Tree.quiet (by rfl) (.int .i64 (e : Int)) (fun _ _ => by go_simp) ?_
        simp only [Act.put, List.setIfInBounds_toArray, List.set_cons_zero, List.set_cons_succ]
        have y0 := hB2.c 0 _ rfl; have y1 := hB2.c 1 _ rfl; have x0 := hB2.z 0 (by simp); have x1 := hB2.z 1 (by simp)
        refine Tree.change (by rfl) (fun K hK => ?_)
        go_simp
        refine hK _ _ trivial ?_
        clear hK K y0 y1 x0 x1
        refine Tree.assign _ (by rfl) (by rfl) ?_
        simp only [Act.put, Act.eval, Array.getD_eq_getD_getElem?, List.getElem?_toArray, List.getElem?_cons_zero, List.getElem?_cons_succ, Option.getD_some, List.setIfInBounds_toArray, List.set_cons_zero, List.set_cons_succ]
        refine Tree.done ?_
        go_wp2_with fail
        go_meet
        case rel => exact ⟨g2, rfl, rfl, Lib.hid ((hb.setCell hg2 _).setCell hg2 _), Lib.hid ((hB2.set 0 (.int .i64 0) (by simp)).set 1 (.int .i64 0) (by simp)), Lib.hid hg2⟩
    case rest =>
    obtain ⟨g2, rfl, rfl, HB, HG, HG2⟩ := hcut
    have H1 := Lib.hid (H.out.below HB.out)
    clear HQ
    obtain ⟨W0, hW0⟩ : ∃ x, x = wc := ⟨_, rfl⟩
    subst hW0
    have y0 := HG.out.c 0 _ rfl; have y1 := HG.out.c 1 _ rfl
    go_wp2
    go_ret
    exact ⟨rfl, _, _, _, _, _, _, H1.out, Step.of_below HB.out⟩
theorem fieldLine_any (hp : p < 4294967296) (h3 : 16 ≤ b.x3 ∧ b.x3 ≤ 1048576) (x : ByteArray) (hx : x.size ≤ 5000) (h : PR w B g q v f bd t o p b s) (hl : s.hl ≤ 1000) (hlen : s.r.fs.length ≤ 500) (hsz : ∀ y ∈ s.r.fs, y.1.size ≤ 1000000 ∧ y.2.size ≤ 1000000) (hout : s.out.length ≤ 1000000000) : Calls Tryz.prog 162 #[ptr g, .string x] w fun r w' =>
    r = .returned (.int .i64 (((s.fields p b x.data.toList).1 : Nat) : Int)) ∧ ∃ q1 v1 f1 bd1 t1 o1, PR w' B g q1 v1 f1 bd1 t1 o1 p b (s.fields p b x.data.toList).2 ∧ Step (blks g q v f bd t o) (blks g q1 v1 f1 bd1 t1 o1) w w' := by
  rcases Nat.eq_zero_or_pos x.size with h0 | h0
  · obtain rfl := empty_of h0
    have HE := Lib.hid (endHead_any hp h3 h hlen hsz hout)
    have e : s.fields p b (⟨#[]⟩ : ByteArray).data.toList = s.endHead p b := rfl
    rw [e]
    clear h h0 hx e hl hlen hsz hout
    go_enter Tryz.func162, Tryz.ntmps162
    go_wp2_with (go_at_call 183; with_reducible refine HE.out.mono ?_; rintro r w2 ⟨rfl, q1, v1, f1, bd1, t1, o1, hP, hS⟩)
    go_ret
    exact ⟨rfl, _, _, _, _, _, _, hP, hS⟩
  · have hne := list_ne h0
    have te := Fd.first_no x h0
    have HQ := Lib.hid ((h.drew 1).bk)
    unfold T.fields
    rw [if_neg hne]
    have HFI0 := Lib.hid (fun w1 (hb : Below w.heap.size w w1) => addF_any hp x hx b.x1 (h.below hb) hl hsz hlen)
    clear h hne h0 hl hlen hsz hout hx
    go_enter Tryz.func162, Tryz.ntmps162
    go_upto_region 3 with fail
    refine Each.region 14 [9, 10, 11, 12, 13, 14, 15, 16, 17, 18, 19, 20, 21, 22]
        [fun v _ => v = .pointer (some ⟨g, 0, none⟩),
          fun v _ => v = .pointer (some ⟨g, 0, none⟩),
          fun v _ => v = .pointer (some ⟨g, 1, none⟩),
          fun v _ => v = .pointer (some ⟨g, 1, none⟩),
          fun v _ => v = .string x,
          fun v _ => v = .pointer (some ⟨g, 0, none⟩),
          fun v _ => v = .pointer (some ⟨g, 0, none⟩),
          fun v _ => v = .pointer (some ⟨g, 13, none⟩),
          fun v _ => v = .int .u32 (p : Int),
          fun v _ => v = .pointer (some ⟨g, 0, none⟩),
          fun v _ => v = .pointer (some ⟨g, 0, none⟩),
          fun v _ => v = .pointer (some ⟨g, 14, none⟩),
          fun v _ => v = .pointer (some ⟨g, 15, none⟩),
          fun v _ => v = .int .i64 b.x1]
        (.act 14 (.quiet 15 .done)) (by kernel_rfl) (by kernel_rfl) (by kernel_rfl) (by kernel_rfl) (fun _ _ d _ _ h => by cases d <;> exact h) (by rfl) (by rfl)
        ⟨Each.Lasts.eq _, Each.Lasts.eq _, Each.Lasts.eq _, Each.Lasts.eq _, Each.Lasts.eq _, Each.Lasts.eq _, Each.Lasts.eq _, Each.Lasts.eq _, Each.Lasts.eq _, Each.Lasts.eq _, Each.Lasts.eq _, Each.Lasts.eq _, Each.Lasts.eq _, Each.Lasts.eq _, trivial⟩ ?_ ?_
    · refine ⟨?_, ?_, ?_, ?_, ?_, ?_, ?_, ?_, ?_, ?_, ?_, ?_, ?_, ?_, trivial⟩
      · refine Each.fine rfl (fun ev w1 hR hb hh => ?_)
        clear hh
        have e0 := hR.old 0 rfl
        simp only [Array.getD_eq_getD_getElem?, List.getElem?_toArray, List.getElem?_cons_zero, Option.getD_some] at e0
        refine Each.Goes.same ?_
        go_simp
        try with_reducible rfl
      · refine Each.fine rfl (fun ev w1 hR hb hh => ?_)
        have e9 : (ev (.tmp 9) = .pointer (some ⟨g, 0, none⟩)) := hh.at 0
        clear hh
        refine Each.Goes.same ?_
        go_simp
        try with_reducible rfl
      · refine Each.fine rfl (fun ev w1 hR hb hh => ?_)
        have e10 : (ev (.tmp 10) = .pointer (some ⟨g, 0, none⟩)) := hh.at 0
        clear hh
        refine Each.Goes.same ?_
        go_simp
        try with_reducible rfl
      · refine Each.fine rfl (fun ev w1 hR hb hh => ?_)
        have e11 : (ev (.tmp 11) = .pointer (some ⟨g, 1, none⟩)) := hh.at 0
        clear hh
        refine Each.Goes.same ?_
        go_simp
        try with_reducible rfl
      · refine Each.fine rfl (fun ev w1 hR hb hh => ?_)
        clear hh
        have e1 := hR.old 1 rfl
        simp only [Array.getD_eq_getD_getElem?, List.getElem?_toArray, List.getElem?_cons_succ, List.getElem?_cons_zero, Option.getD_some] at e1
        refine Each.Goes.same ?_
        go_simp
        try with_reducible rfl
      · refine Each.fine rfl (fun ev w1 hR hb hh => ?_)
        clear hh
        have e0 := hR.old 0 rfl
        simp only [Array.getD_eq_getD_getElem?, List.getElem?_toArray, List.getElem?_cons_zero, Option.getD_some] at e0
        refine Each.Goes.same ?_
        go_simp
        try with_reducible rfl
      · refine Each.fine rfl (fun ev w1 hR hb hh => ?_)
        have e14 : (ev (.tmp 14) = .pointer (some ⟨g, 0, none⟩)) := hh.at 0
        clear hh
        refine Each.Goes.same ?_
        go_simp
        try with_reducible rfl
      · refine Each.fine rfl (fun ev w1 hR hb hh => ?_)
        have e15 : (ev (.tmp 15) = .pointer (some ⟨g, 0, none⟩)) := hh.at 0
        clear hh
        refine Each.Goes.same ?_
        go_simp
        try with_reducible rfl
      · refine Each.fine rfl (fun ev w1 hR hb hh => ?_)
        have e16 : (ev (.tmp 16) = .pointer (some ⟨g, 13, none⟩)) := hh.at 0
        clear hh
        have q13 := (HQ.out.below hb).c 13 _ rfl
        refine Each.Goes.same ?_
        go_simp
        try with_reducible rfl
      · refine Each.fine rfl (fun ev w1 hR hb hh => ?_)
        clear hh
        have e0 := hR.old 0 rfl
        simp only [Array.getD_eq_getD_getElem?, List.getElem?_toArray, List.getElem?_cons_zero, Option.getD_some] at e0
        refine Each.Goes.same ?_
        go_simp
        try with_reducible rfl
      · refine Each.fine rfl (fun ev w1 hR hb hh => ?_)
        have e18 : (ev (.tmp 18) = .pointer (some ⟨g, 0, none⟩)) := hh.at 0
        clear hh
        refine Each.Goes.same ?_
        go_simp
        try with_reducible rfl
      · refine Each.fine rfl (fun ev w1 hR hb hh => ?_)
        have e19 : (ev (.tmp 19) = .pointer (some ⟨g, 0, none⟩)) := hh.at 0
        clear hh
        refine Each.Goes.same ?_
        go_simp
        try with_reducible rfl
      · refine Each.fine rfl (fun ev w1 hR hb hh => ?_)
        have e20 : (ev (.tmp 20) = .pointer (some ⟨g, 14, none⟩)) := hh.at 0
        clear hh
        refine Each.Goes.same ?_
        go_simp
        try with_reducible rfl
      · refine Each.fine rfl (fun ev w1 hR hb hh => ?_)
        have e21 : (ev (.tmp 21) = .pointer (some ⟨g, 15, none⟩)) := hh.at 0
        clear hh
        have q15 := (HQ.out.below hb).c 15 _ rfl
        refine Each.Goes.same ?_
        go_simp
        try with_reducible rfl
    intro g1 w2 hb hf
    have z12 : (g1 12 = .pointer (some ⟨g, 1, none⟩)) := hf.at 3
    have z13 : (g1 13 = .string x) := hf.at 4
    have z17 : (g1 17 = .int .u32 (p : Int)) := hf.at 8
    have z22 : (g1 22 = .int .i64 b.x1) := hf.at 13
    clear hf
    simp only [Each.putg, Act.put, List.setIfInBounds_toArray, List.set_cons_zero, List.set_cons_succ]
    rw [z12, z13, z17, z22]
    simp only [Tree.grow, Tree.put1, List.getElem?_cons_zero, List.getElem?_cons_succ]
    have HS1 := Lib.hid (Step.of_below hb (L := blks g q v f bd t o))
    have HFI := Lib.hid (HFI0.out _ hb)
    clear hb HQ
    refine Tree.change (by rfl) (fun K hK => ?_)
    refine Each.oper_enter (g := 184) (args := #[.pointer (some ⟨g, 1, none⟩), .string x, .int .u32 (p : Int), .int .i64 b.x1]) (by go_simp) (HFI.out.mono ?_)
    rintro r w3 ⟨rfl, f1, hP, hS⟩
    refine ⟨_, rfl, ?_⟩
    refine hK _ _ trivial ?_
    clear hK K
    simp only [Act.put, List.setIfInBounds_toArray, List.set_cons_zero, List.set_cons_succ]
    refine Tree.assign _ (by rfl) (by rfl) ?_
    simp only [Act.put, Act.eval, Array.getD_eq_getD_getElem?, List.getElem?_toArray, List.getElem?_cons_zero, List.getElem?_cons_succ, Option.getD_some, List.setIfInBounds_toArray, List.set_cons_zero, List.set_cons_succ]
    refine Tree.done ?_
    have HP2 := Lib.hid hP; have HS2 := Lib.hid (HS1.out.trans hS)
    clear hP hS HFI HS1 HFI0
    go_wp2
    go_ret
    exact ⟨rfl, _, _, _, _, _, _, HP2.out, HS2.out⟩
theorem trailerLine_any (hp : p < 4294967296) (x : ByteArray) (hx : x.size ≤ 5000) (h : PR w B g q v f bd t o p b s) (hl : s.bl ≤ 1000) (hlen : s.r.ts.length ≤ 500) (hsz : ∀ y ∈ s.r.ts, y.1.size ≤ 1000000 ∧ y.2.size ≤ 1000000) (hout : s.out.length ≤ 1000000000) : Calls Tryz.prog 164 #[ptr g, .string x] w fun r w' =>
    r = .returned (.int .i64 (((s.trail p b x.data.toList).1 : Nat) : Int)) ∧ ∃ q1 v1 f1 bd1 t1 o1, PR w' B g q1 v1 f1 bd1 t1 o1 p b (s.trail p b x.data.toList).2 ∧ Step (blks g q v f bd t o) (blks g q1 v1 f1 bd1 t1 o1) w w' := by
  rcases Nat.eq_zero_or_pos x.size with h0 | h0
  · obtain rfl := empty_of h0
    have HE := Lib.hid (finish_any h hout)
    have e : s.trail p b (⟨#[]⟩ : ByteArray).data.toList = (0, s.fin) := rfl
    rw [e]
    clear h h0 hx e hl hlen hsz hout
    go_enter Tryz.func164, Tryz.ntmps164
    go_wp2_with (go_at_call 134; with_reducible refine HE.out.mono ?_; rintro r w2 ⟨rfl, o1, hP, hS⟩)
    go_ret
    exact ⟨rfl, _, _, _, _, _, _, hP, hS⟩
  · have hne := list_ne h0
    have te := Fd.first_no x h0
    have HQ := Lib.hid ((h.drew 1).bk)
    unfold T.trail
    rw [if_neg hne]
    have HFI0 := Lib.hid (fun w1 (hb : Below w.heap.size w w1) => addTR_any hp x hx b.x5 (h.below hb) hl hsz hlen)
    clear h hne h0 hl hlen hsz hout hx
    go_enter Tryz.func164, Tryz.ntmps164
    go_upto_region 4 with fail
    refine Each.region 14 [9, 10, 11, 12, 13, 14, 15, 16, 17, 18, 19, 20, 21, 22]
        [fun v _ => v = .pointer (some ⟨g, 0, none⟩),
          fun v _ => v = .pointer (some ⟨g, 0, none⟩),
          fun v _ => v = .pointer (some ⟨g, 8, none⟩),
          fun v _ => v = .pointer (some ⟨g, 8, none⟩),
          fun v _ => v = .string x,
          fun v _ => v = .pointer (some ⟨g, 0, none⟩),
          fun v _ => v = .pointer (some ⟨g, 0, none⟩),
          fun v _ => v = .pointer (some ⟨g, 13, none⟩),
          fun v _ => v = .int .u32 (p : Int),
          fun v _ => v = .pointer (some ⟨g, 0, none⟩),
          fun v _ => v = .pointer (some ⟨g, 0, none⟩),
          fun v _ => v = .pointer (some ⟨g, 14, none⟩),
          fun v _ => v = .pointer (some ⟨g, 19, none⟩),
          fun v _ => v = .int .i64 b.x5]
        (.act 14 (.quiet 15 .done)) (by kernel_rfl) (by kernel_rfl) (by kernel_rfl) (by kernel_rfl) (fun _ _ d _ _ h => by cases d <;> exact h) (by rfl) (by rfl)
        ⟨Each.Lasts.eq _, Each.Lasts.eq _, Each.Lasts.eq _, Each.Lasts.eq _, Each.Lasts.eq _, Each.Lasts.eq _, Each.Lasts.eq _, Each.Lasts.eq _, Each.Lasts.eq _, Each.Lasts.eq _, Each.Lasts.eq _, Each.Lasts.eq _, Each.Lasts.eq _, Each.Lasts.eq _, trivial⟩ ?_ ?_
    · refine ⟨?_, ?_, ?_, ?_, ?_, ?_, ?_, ?_, ?_, ?_, ?_, ?_, ?_, ?_, trivial⟩
      · refine Each.fine rfl (fun ev w1 hR hb hh => ?_)
        clear hh
        have e0 := hR.old 0 rfl
        simp only [Array.getD_eq_getD_getElem?, List.getElem?_toArray, List.getElem?_cons_zero, Option.getD_some] at e0
        refine Each.Goes.same ?_
        go_simp
        try with_reducible rfl
      · refine Each.fine rfl (fun ev w1 hR hb hh => ?_)
        have e9 : (ev (.tmp 9) = .pointer (some ⟨g, 0, none⟩)) := hh.at 0
        clear hh
        refine Each.Goes.same ?_
        go_simp
        try with_reducible rfl
      · refine Each.fine rfl (fun ev w1 hR hb hh => ?_)
        have e10 : (ev (.tmp 10) = .pointer (some ⟨g, 0, none⟩)) := hh.at 0
        clear hh
        refine Each.Goes.same ?_
        go_simp
        try with_reducible rfl
      · refine Each.fine rfl (fun ev w1 hR hb hh => ?_)
        have e11 : (ev (.tmp 11) = .pointer (some ⟨g, 8, none⟩)) := hh.at 0
        clear hh
        refine Each.Goes.same ?_
        go_simp
        try with_reducible rfl
      · refine Each.fine rfl (fun ev w1 hR hb hh => ?_)
        clear hh
        have e1 := hR.old 1 rfl
        simp only [Array.getD_eq_getD_getElem?, List.getElem?_toArray, List.getElem?_cons_succ, List.getElem?_cons_zero, Option.getD_some] at e1
        refine Each.Goes.same ?_
        go_simp
        try with_reducible rfl
      · refine Each.fine rfl (fun ev w1 hR hb hh => ?_)
        clear hh
        have e0 := hR.old 0 rfl
        simp only [Array.getD_eq_getD_getElem?, List.getElem?_toArray, List.getElem?_cons_zero, Option.getD_some] at e0
        refine Each.Goes.same ?_
        go_simp
        try with_reducible rfl
      · refine Each.fine rfl (fun ev w1 hR hb hh => ?_)
        have e14 : (ev (.tmp 14) = .pointer (some ⟨g, 0, none⟩)) := hh.at 0
        clear hh
        refine Each.Goes.same ?_
        go_simp
        try with_reducible rfl
      · refine Each.fine rfl (fun ev w1 hR hb hh => ?_)
        have e15 : (ev (.tmp 15) = .pointer (some ⟨g, 0, none⟩)) := hh.at 0
        clear hh
        refine Each.Goes.same ?_
        go_simp
        try with_reducible rfl
      · refine Each.fine rfl (fun ev w1 hR hb hh => ?_)
        have e16 : (ev (.tmp 16) = .pointer (some ⟨g, 13, none⟩)) := hh.at 0
        clear hh
        have q13 := (HQ.out.below hb).c 13 _ rfl
        refine Each.Goes.same ?_
        go_simp
        try with_reducible rfl
      · refine Each.fine rfl (fun ev w1 hR hb hh => ?_)
        clear hh
        have e0 := hR.old 0 rfl
        simp only [Array.getD_eq_getD_getElem?, List.getElem?_toArray, List.getElem?_cons_zero, Option.getD_some] at e0
        refine Each.Goes.same ?_
        go_simp
        try with_reducible rfl
      · refine Each.fine rfl (fun ev w1 hR hb hh => ?_)
        have e18 : (ev (.tmp 18) = .pointer (some ⟨g, 0, none⟩)) := hh.at 0
        clear hh
        refine Each.Goes.same ?_
        go_simp
        try with_reducible rfl
      · refine Each.fine rfl (fun ev w1 hR hb hh => ?_)
        have e19 : (ev (.tmp 19) = .pointer (some ⟨g, 0, none⟩)) := hh.at 0
        clear hh
        refine Each.Goes.same ?_
        go_simp
        try with_reducible rfl
      · refine Each.fine rfl (fun ev w1 hR hb hh => ?_)
        have e20 : (ev (.tmp 20) = .pointer (some ⟨g, 14, none⟩)) := hh.at 0
        clear hh
        refine Each.Goes.same ?_
        go_simp
        try with_reducible rfl
      · refine Each.fine rfl (fun ev w1 hR hb hh => ?_)
        have e21 : (ev (.tmp 21) = .pointer (some ⟨g, 19, none⟩)) := hh.at 0
        clear hh
        have q19 := (HQ.out.below hb).c 19 _ rfl
        refine Each.Goes.same ?_
        go_simp
        try with_reducible rfl
    intro g1 w2 hb hf
    have z12 : (g1 12 = .pointer (some ⟨g, 8, none⟩)) := hf.at 3
    have z13 : (g1 13 = .string x) := hf.at 4
    have z17 : (g1 17 = .int .u32 (p : Int)) := hf.at 8
    have z22 : (g1 22 = .int .i64 b.x5) := hf.at 13
    clear hf
    simp only [Each.putg, Act.put, List.setIfInBounds_toArray, List.set_cons_zero, List.set_cons_succ]
    rw [z12, z13, z17, z22]
    simp only [Tree.grow, Tree.put1, List.getElem?_cons_zero, List.getElem?_cons_succ]
    have HS1 := Lib.hid (Step.of_below hb (L := blks g q v f bd t o))
    have HFI := Lib.hid (HFI0.out _ hb)
    clear hb HQ
    refine Tree.change (by rfl) (fun K hK => ?_)
    refine Each.oper_enter (g := 184) (args := #[.pointer (some ⟨g, 8, none⟩), .string x, .int .u32 (p : Int), .int .i64 b.x5]) (by go_simp) (HFI.out.mono ?_)
    rintro r w3 ⟨rfl, t1, hP, hS⟩
    refine ⟨_, rfl, ?_⟩
    refine hK _ _ trivial ?_
    clear hK K
    simp only [Act.put, List.setIfInBounds_toArray, List.set_cons_zero, List.set_cons_succ]
    refine Tree.assign _ (by rfl) (by rfl) ?_
    simp only [Act.put, Act.eval, Array.getD_eq_getD_getElem?, List.getElem?_toArray, List.getElem?_cons_zero, List.getElem?_cons_succ, Option.getD_some, List.setIfInBounds_toArray, List.set_cons_zero, List.set_cons_succ]
    refine Tree.done ?_
    have HP2 := Lib.hid hP; have HS2 := Lib.hid (HS1.out.trans hS)
    clear hP hS HFI HS1 HFI0
    go_wp2
    go_ret
    exact ⟨rfl, _, _, _, _, _, _, HP2.out, HS2.out⟩
theorem endLine_any (hp : p < 4294967296) (hb : b.right = true) (x : ByteArray) (hx : x.size ≤ 4096) (h : PR w B g q v f bd t o p b s) (ok : s.Ok) (hout : s.out.length ≤ 1000000000) : Calls Tryz.prog 136 #[ptr g, .string x] w fun r w' =>
    r = .returned (.int .i64 (((s.line p b x.data.toList).1 : Nat) : Int)) ∧ ∃ q1 v1 f1 bd1 t1 o1, PR w' B g q1 v1 f1 bd1 t1 o1 p b (s.line p b x.data.toList).2 ∧ Step (blks g q v f bd t o) (blks g q1 v1 f1 bd1 t1 o1) w w' := by
  have e3 := (Bd.edges hb).2.2.2.1
  have c24 := h.cs.c24
  have hh := ok.hl; have hbl := ok.bl; have hfl := ok.fsl; have htl := ok.tsl; have hbd := ok.body
  have hfs : ∀ y ∈ s.r.fs, y.1.size ≤ 1000000 ∧ y.2.size ≤ 1000000 := fun y hy => by have := ok.fss y hy; omega
  have hts : ∀ y ∈ s.r.ts, y.1.size ≤ 1000000 ∧ y.2.size ≤ 1000000 := fun y hy => by have := ok.tss y hy; omega
  unfold T.line
  by_cases h1 : s.st = 1
  · rw [if_pos h1]
    rw [h1] at c24
    have HA := Lib.hid (firstLine_any hp x (by omega) h)
    clear h ok h1 hx hfs hts hh hbl hfl htl hbd hout e3
    go_enter Tryz.func136, Tryz.ntmps136
    go_wp2_with (go_at_call 161; with_reducible refine HA.out.mono ?_; rintro r w2 ⟨rfl, q1, v1, f1, bd1, t1, o1, hP, hS⟩)
    go_ret
    exact ⟨rfl, _, _, _, _, _, _, hP, hS⟩
  · rw [if_neg h1]
    by_cases h2 : s.st = 2
    · rw [if_pos h2]
      rw [h2] at c24
      have HA := Lib.hid (fieldLine_any hp e3 x (by omega) h (by omega) (by omega) hfs hout)
      clear h ok h1 h2 hx hfs hts hh hbl hfl htl hbd hout e3
      go_enter Tryz.func136, Tryz.ntmps136
      go_wp2_with (go_at_call 162; with_reducible refine HA.out.mono ?_; rintro r w2 ⟨rfl, q1, v1, f1, bd1, t1, o1, hP, hS⟩)
      go_ret
      exact ⟨rfl, _, _, _, _, _, _, hP, hS⟩
    · rw [if_neg h2]
      by_cases h4 : s.st = 4
      · rw [if_pos h4]
        rw [h4] at c24
        have HA := Lib.hid (sizeLine_any hp e3 x (by omega) h (by omega))
        clear h ok h1 h2 h4 hx hfs hts hh hbl hfl htl hbd hout e3
        go_enter Tryz.func136, Tryz.ntmps136
        go_wp2_with (go_at_call 163; with_reducible refine HA.out.mono ?_; rintro r w2 ⟨rfl, q1, v1, f1, bd1, t1, o1, hP, hS⟩)
        go_ret
        exact ⟨rfl, _, _, _, _, _, _, hP, hS⟩
      · rw [if_neg h4]
        by_cases h7 : s.st = 7
        · rw [if_pos h7]
          rw [h7] at c24
          have HA := Lib.hid (trailerLine_any hp x (by omega) h (by omega) (by omega) hts hout)
          clear h ok h1 h2 h4 h7 hx hfs hts hh hbl hfl htl hbd hout e3
          go_enter Tryz.func136, Tryz.ntmps136
          go_wp2_with (go_at_call 164; with_reducible refine HA.out.mono ?_; rintro r w2 ⟨rfl, q1, v1, f1, bd1, t1, o1, hP, hS⟩)
          go_ret
          exact ⟨rfl, _, _, _, _, _, _, hP, hS⟩
        · rw [if_neg h7]
          have t1 : ((s.st : Int) == 1) = false := beq_eq_false_iff_ne.2 (by omega)
          have t2 : ((s.st : Int) == 2) = false := beq_eq_false_iff_ne.2 (by omega)
          have t4 : ((s.st : Int) == 4) = false := beq_eq_false_iff_ne.2 (by omega)
          have t7 : ((s.st : Int) == 7) = false := beq_eq_false_iff_ne.2 (by omega)
          have m1 : ¬ (s.st : Int) = 1 := by omega
          have m2 : ¬ (s.st : Int) = 2 := by omega
          have m4 : ¬ (s.st : Int) = 4 := by omega
          have m7 : ¬ (s.st : Int) = 7 := by omega
          have c14 := h.cs.c14
          have HA := Lib.hid (enter_any hp h 4 4 rfl b.x0)
          clear h ok hx hfs hts hh hbl hfl htl hbd hout e3
          go_enter Tryz.func136, Tryz.ntmps136
          go_wp2_with (go_at_call 59; with_reducible refine HA.out.mono ?_; rintro r w2 ⟨rfl, q1, hP, hS⟩)
          go_ret
          exact ⟨rfl, _, _, _, _, _, _, hP, hS⟩
end code
end Go.Proofs.YtbineebnhjifiaaGreatDoor.Pg
/- PgByte -/
namespace Go.Proofs.YtbineebnhjifiaaGreatDoor.Pg
open Go.RowKit Base Txt Mem Par

/-- A parser, that goes on or has failed, by its blocks. -/
def At (w : World) (B : Zone) (g : Nat) (p : Nat) (b : Bd) (L : List (Option Nat)) : Q → Prop
  | .live s => ∃ q v f bd t o, L = blks g q v f bd t o ∧ PR w B g q v f bd t o p b s
  | .dead e out => ∃ o, L = [some g, o.ownBlock] ∧ Dead w B g e o out
theorem ba_list (l : List UInt8) : (ba l).data.toList = l := rfl
section
variable {w w' : World} {B : Zone} {g q : Nat} {v f bd t o : Value} {p : Nat} {rd : Ln.M} {fs ts : List Fld} {body : List UInt8} {out : List Rec.R}
/-- Its line has gone on. -/
theorem Own.reader (h : Own w B g q v f bd t o rd fs body ts out) {v' : Value} {rd' : Ln.M} (hk : Ln.Kept q v.ownBlock w w') (hm : Ln.Moved w v.ownBlock v'.ownBlock) (hr : Ln.Rd w' B q v' rd') :
    Own w' B g q v' f bd t o rd' fs body ts out ∧ Step (blks g q v f bd t o) (blks g q v' f bd t o) w w' ∧ Keeps [some q, v.ownBlock] w w' := by
  have hk2 : Keeps [some q, v.ownBlock] w w' := Keeps.of_kept hk (by simp) fun k e => by simp [e]
  have hn : ∀ i j, i ≠ 1 → i ≠ 2 → (blks g q v f bd t o)[i]? = some (some j) → some j ∉ [some q, v.ownBlock] := fun i j h1 h2 hj hm => by
    rcases (by simpa using hm : j = q ∨ some j = v.ownBlock) with e | e
    · exact h1 (h.lone i 1 j hj (by rw [e]; rfl))
    · exact h2 (h.lone i 2 j hj (by rw [e]; rfl))
  have e : blks g q v' f bd t o = (blks g q v f bd t o).set 2 v'.ownBlock := rfl
  have ho : v'.ownBlock = none ∨ (blks g q v f bd t o)[2]? = some v'.ownBlock ∨ ∃ k, v'.ownBlock = some k ∧ w.heap.size ≤ k := by
    rcases hm with e | e | e
    · exact .inr (.inl (by rw [e]; rfl))
    · exact .inl e
    · exact .inr (.inr e)
  have hof : Of w (blks g q v f bd t o) (blks g q v' f bd t o) := by rw [e]; exact Of.set 2 _ ho
  have hkL : Keeps (blks g q v f bd t o) w w' := hk2.mono fun k hk => by
    rcases (by simpa using hk : k = q ∨ some k = v.ownBlock) with e | e
    · simp [e]
    · simp [e]
  obtain ⟨ps, h1, h2, h3⟩ := h.O
  refine ⟨⟨hr, hk2.own h.F fun j e => hn 3 j (by decide) (by decide) (by rw [← e]; rfl), hk2.own h.D fun j e => hn 4 j (by decide) (by decide) (by rw [← e]; rfl), hk2.own h.TR fun j e => hn 5 j (by decide) (by decide) (by rw [← e]; rfl),
    ⟨ps, h1, fun x hx => ⟨(h2 x hx).1, by
      have hx2 := (h2 x hx).2.keeps hkL
      exact ⟨hx2.reads, fun k hb => ⟨fun hm => by
        rcases hof k hm with e | e
        · exact (hx2.far k hb).1 e
        · exact absurd ((h2 x hx).2.far k hb).2 (by omega), (hx2.far k hb).2⟩, hx2.off⟩⟩, hk2.own h3 fun j e => hn 6 j (by decide) (by decide) (by rw [← e]; rfl)⟩, ?_, h.ge, Nat.lt_of_lt_of_le h.lt hk2.size, h.zone.of hk2.size hof⟩, ⟨hkL, hof⟩, hk2⟩
  rw [e]
  exact h.lone.set h.in 2 _ ho
theorem PR.reader {b : Bd} {s : T} (h : PR w B g q v f bd t o p b s) {v' : Value} {rd' : Ln.M} (hk : Ln.Kept q v.ownBlock w w') (hm : Ln.Moved w v.ownBlock v'.ownBlock) (hr : Ln.Rd w' B q v' rd') :
    PR w' B g q v' f bd t o p b { s with rd := rd' } ∧ Step (blks g q v f bd t o) (blks g q v' f bd t o) w w' := by
  obtain ⟨h1, h2, h3⟩ := h.own.reader hk hm hr
  refine ⟨⟨h3.row h.row fun hm => ?_, h1⟩, h2⟩
  rcases (by simpa using hm : g = q ∨ some g = v.ownBlock) with e | e
  · exact absurd (h.own.lone 0 1 g rfl (by rw [e]; rfl)) (by decide)
  · exact absurd (h.own.lone 0 2 g rfl (by rw [e]; rfl)) (by decide)
end
section code
set_option maxHeartbeats 4000000
set_option maxRecDepth 20000
attribute [local go_sem] Base.some_undef
variable {w : World} {B : Zone} {g q : Nat} {v f bd t o : Value} {p : Nat} {b : Bd} {s : T}
/-- Its line goes on by a byte. -/
theorem reader_any (c : UInt8) (hm : s.rd.Ok) (h : PR w B g q v f bd t o p b s) : Calls Tryz.prog 135 #[ptr q, .int .u8 (c.toNat : Int)] w fun r w' =>
    ∃ v1, r = .returned (.int .i64 (s.rd.clear.next c)) ∧ PR w' B g q v1 f bd t o p b { s with rd := s.rd.byte c } ∧ Step (blks g q v f bd t o) (blks g q v1 f bd t o) w w' := by
  refine (Ln.byte_any c s.rd hm w B q v h.own.R).mono ?_
  rintro r w' ⟨v1, rfl, h1, h2, h3⟩
  obtain ⟨h4, h5⟩ := h.reader h2 h3 h1
  exact ⟨v1, rfl, h4, h5⟩
theorem inLine_any (hp : p < 4294967296) (hb0 : b.right = true) (c : UInt8) (h : PR w B g q v f bd t o p b s) (ok : s.Ok) (hout : s.out.length ≤ 1000000000) : Calls Tryz.prog 116 #[ptr g, .int .u8 (c.toNat : Int)] w fun r w' =>
    r = .returned (.bool (s.inLine p b c).2) ∧ ∃ L1, At w' B g p b L1 (s.inLine p b c).1 ∧ Step (blks g q v f bd t o) L1 w w' := by
  have hby := reader_any c ok.rd h
  rcases Ln.M.next_is s.rd.clear c with hhow | hhow | hhow | hhow | hhow
  · have HBY := Lib.hid (show Calls Tryz.prog 135 #[ptr q, .int .u8 (c.toNat : Int)] w fun r w' => ∃ v1, r = .returned (.int .i64 0) ∧ PR w' B g q v1 f bd t o p b { s with rd := s.rd.byte c } ∧ Step (blks g q v f bd t o) (blks g q v1 f bd t o) w w' from by rw [← hhow]; exact hby)
    have e0 : s.inLine p b c = (.live { s with rd := s.rd.byte c }, true) := by
      unfold T.inLine
      dsimp only
      rw [hhow, if_pos rfl]
    rw [e0]
    have c25 := h.cs.c25
    clear h hby ok hout e0 hhow
    go_enter Tryz.func116, Tryz.ntmps116
    go_wp2_with
      (go_at_call 135; with_reducible refine HBY.out.mono ?_; rintro r w2 ⟨v1, rfl, h2, hS2⟩
       have HP := Lib.hid h2; have HS := Lib.hid hS2
       clear h2 hS2 c25)
    go_ret
    exact ⟨rfl, _, ⟨_, _, _, _, _, _, rfl, HP.out⟩, HS.out⟩
  · have HBY := Lib.hid (show Calls Tryz.prog 135 #[ptr q, .int .u8 (c.toNat : Int)] w fun r w' => ∃ v1, r = .returned (.int .i64 1) ∧ PR w' B g q v1 f bd t o p b { s with rd := s.rd.byte c } ∧ Step (blks g q v f bd t o) (blks g q v1 f bd t o) w w' from by rw [← hhow]; exact hby)
    have ok2 : ({ s with rd := s.rd.byte c } : T).Ok := ok.byteR c (by rw [hhow]; rfl)
    have hln := line_len ok c
    obtain ⟨ln, hl⟩ : ∃ ln, (s.rd.byte c).line = ln := ⟨_, rfl⟩
    rw [hl] at hln
    obtain ⟨⟨e, t2⟩, hx⟩ : ∃ x, T.line p b { s with rd := s.rd.byte c } ln = x := ⟨_, rfl⟩
    have e0 : s.inLine p b c = (ends (e, t2), true) := by
      unfold T.inLine
      dsimp only
      rw [hhow, if_neg (by decide), if_neg (by decide), if_neg (by decide), hl, hx]
      rfl
    rw [e0]
    have HEN := Lib.hid (fun (w2 : World) (v1 : Value) (h2 : PR w2 B g q v1 f bd t o p b { s with rd := s.rd.byte c }) => endLine_any hp hb0 (ba ln) (by rw [size_ba]; exact hln) h2 ok2 hout)
    have HLI := Lib.hid (fun (w2 : World) (v1 : Value) (h2 : PR w2 B g q v1 f bd t o p b { s with rd := s.rd.byte c }) => Ln.line_any h2.own.R.row h2.own.R.own)
    have HLN := Lib.hid hl; have HX := Lib.hid hx
    have c25 := h.cs.c25
    clear h hby ok2 hln hl hx e0 hhow ok
    rcases Nat.eq_zero_or_pos e with he | he
    · subst he
      go_enter Tryz.func116, Tryz.ntmps116
      go_wp2_with (first
        | (go_at_call 115; with_reducible refine (HFZ.out).mono ?_; rintro r w5 ⟨rfl, hw⟩; rw [hw]; clear hw)
        | (go_at_call 136; with_reducible refine HEN2.out.mono ?_; rintro r w4 ⟨rfl, q1, v2, f1, bd1, t1, o1, hP, hS⟩
           have HP := Lib.hid hP; have HS := Lib.hid (HS2.out.trans hS); have HFZ := Lib.hid (fail_zero w4 g)
           clear hP hS)
        | (go_at_call 137; with_reducible refine HLI2.out.mono ?_; rintro r w3 ⟨rfl, hw⟩; rw [hw]; clear hw)
        | (go_at_call 135; with_reducible refine HBY.out.mono ?_; rintro r w2 ⟨v1, rfl, h2, hS2⟩
           have d25 := h2.cs.c25
           have HS2 := Lib.hid hS2
           have HEN2 := HEN.out w2 v1 h2; have HLI2 := HLI.out w2 v1 h2
           replace HEN2 := Lib.hid (show Calls Tryz.prog 136 #[ptr g, .string (Ln.ba ln)] w2 fun r w' => r = .returned (.int .i64 0) ∧ ∃ q1 v2 f1 bd1 t1 o1, PR w' B g q1 v2 f1 bd1 t1 o1 p b t2 ∧ Step (blks g q v1 f bd t o) (blks g q1 v2 f1 bd1 t1 o1) w2 w' from by rw [ba_list, HX.out] at HEN2; exact HEN2)
           rw [HLN.out] at HLI2
           replace HLI2 := Lib.hid HLI2
           clear h2 hS2 c25))
      go_ret
      exact ⟨rfl, _, ⟨_, _, _, _, _, _, rfl, HP.out⟩, HS.out⟩
    · have hne : e ≠ 0 := by omega
      have e1 : ends (e, t2) = .dead e t2.out := by unfold ends; rw [if_neg hne]
      rw [e1]
      have HNE := Lib.hid hne
      clear he hne e1
      go_enter Tryz.func116, Tryz.ntmps116
      go_wp2_with (first
        | (go_at_call 115; with_reducible refine HFA.out.mono ?_; rintro r w5 ⟨rfl, hD, hS5⟩)
        | (go_at_call 136; with_reducible refine HEN2.out.mono ?_; rintro r w4 ⟨rfl, q1, v2, f1, bd1, t1, o1, hP, hS⟩
           have HS := Lib.hid (HS2.out.trans hS); have HFA := Lib.hid (fail_any hP e HNE.out _ rfl)
           clear hP hS)
        | (go_at_call 137; with_reducible refine HLI2.out.mono ?_; rintro r w3 ⟨rfl, hw⟩; rw [hw]; clear hw)
        | (go_at_call 135; with_reducible refine HBY.out.mono ?_; rintro r w2 ⟨v1, rfl, h2, hS2⟩
           have d25 := h2.cs.c25
           have HS2 := Lib.hid hS2
           have HEN2 := HEN.out w2 v1 h2; have HLI2 := HLI.out w2 v1 h2
           replace HEN2 := Lib.hid (show Calls Tryz.prog 136 #[ptr g, .string (Ln.ba ln)] w2 fun r w' => r = .returned (.int .i64 (e : Int)) ∧ ∃ q1 v2 f1 bd1 t1 o1, PR w' B g q1 v2 f1 bd1 t1 o1 p b t2 ∧ Step (blks g q v1 f bd t o) (blks g q1 v2 f1 bd1 t1 o1) w2 w' from by rw [ba_list, HX.out] at HEN2; exact HEN2)
           rw [HLN.out] at HLI2
           replace HLI2 := Lib.hid HLI2
           clear h2 hS2 c25))
      go_ret
      exact ⟨rfl, _, ⟨_, rfl, hD⟩, HS.out.trans hS5⟩
  · have HBY := Lib.hid (show Calls Tryz.prog 135 #[ptr q, .int .u8 (c.toNat : Int)] w fun r w' => ∃ v1, r = .returned (.int .i64 2) ∧ PR w' B g q v1 f bd t o p b { s with rd := s.rd.byte c } ∧ Step (blks g q v f bd t o) (blks g q v1 f bd t o) w w' from by rw [← hhow]; exact hby)
    have ok2 : ({ s with rd := s.rd.byte c } : T).Ok := ok.byteR c (by rw [hhow]; rfl)
    have hln := line_len ok c
    obtain ⟨ln, hl⟩ : ∃ ln, (s.rd.byte c).line = ln := ⟨_, rfl⟩
    rw [hl] at hln
    obtain ⟨⟨e, t2⟩, hx⟩ : ∃ x, T.line p b { s with rd := s.rd.byte c } ln = x := ⟨_, rfl⟩
    have e0 : s.inLine p b c = (ends (e, t2), false) := by
      unfold T.inLine
      dsimp only
      rw [hhow, if_neg (by decide), if_neg (by decide), if_neg (by decide), hl, hx]
      rfl
    rw [e0]
    have HEN := Lib.hid (fun (w2 : World) (v1 : Value) (h2 : PR w2 B g q v1 f bd t o p b { s with rd := s.rd.byte c }) => endLine_any hp hb0 (ba ln) (by rw [size_ba]; exact hln) h2 ok2 hout)
    have HLI := Lib.hid (fun (w2 : World) (v1 : Value) (h2 : PR w2 B g q v1 f bd t o p b { s with rd := s.rd.byte c }) => Ln.line_any h2.own.R.row h2.own.R.own)
    have HLN := Lib.hid hl; have HX := Lib.hid hx
    have c25 := h.cs.c25
    clear h hby ok2 hln hl hx e0 hhow ok
    rcases Nat.eq_zero_or_pos e with he | he
    · subst he
      go_enter Tryz.func116, Tryz.ntmps116
      go_wp2_with (first
        | (go_at_call 115; with_reducible refine (HFZ.out).mono ?_; rintro r w5 ⟨rfl, hw⟩; rw [hw]; clear hw)
        | (go_at_call 136; with_reducible refine HEN2.out.mono ?_; rintro r w4 ⟨rfl, q1, v2, f1, bd1, t1, o1, hP, hS⟩
           have HP := Lib.hid hP; have HS := Lib.hid (HS2.out.trans hS); have HFZ := Lib.hid (fail_zero w4 g)
           clear hP hS)
        | (go_at_call 137; with_reducible refine HLI2.out.mono ?_; rintro r w3 ⟨rfl, hw⟩; rw [hw]; clear hw)
        | (go_at_call 135; with_reducible refine HBY.out.mono ?_; rintro r w2 ⟨v1, rfl, h2, hS2⟩
           have d25 := h2.cs.c25
           have HS2 := Lib.hid hS2
           have HEN2 := HEN.out w2 v1 h2; have HLI2 := HLI.out w2 v1 h2
           replace HEN2 := Lib.hid (show Calls Tryz.prog 136 #[ptr g, .string (Ln.ba ln)] w2 fun r w' => r = .returned (.int .i64 0) ∧ ∃ q1 v2 f1 bd1 t1 o1, PR w' B g q1 v2 f1 bd1 t1 o1 p b t2 ∧ Step (blks g q v1 f bd t o) (blks g q1 v2 f1 bd1 t1 o1) w2 w' from by rw [ba_list, HX.out] at HEN2; exact HEN2)
           rw [HLN.out] at HLI2
           replace HLI2 := Lib.hid HLI2
           clear h2 hS2 c25))
      go_ret
      exact ⟨rfl, _, ⟨_, _, _, _, _, _, rfl, HP.out⟩, HS.out⟩
    · have hne : e ≠ 0 := by omega
      have e1 : ends (e, t2) = .dead e t2.out := by unfold ends; rw [if_neg hne]
      rw [e1]
      have HNE := Lib.hid hne
      clear he hne e1
      go_enter Tryz.func116, Tryz.ntmps116
      go_wp2_with (first
        | (go_at_call 115; with_reducible refine HFA.out.mono ?_; rintro r w5 ⟨rfl, hD, hS5⟩)
        | (go_at_call 136; with_reducible refine HEN2.out.mono ?_; rintro r w4 ⟨rfl, q1, v2, f1, bd1, t1, o1, hP, hS⟩
           have HS := Lib.hid (HS2.out.trans hS); have HFA := Lib.hid (fail_any hP e HNE.out _ rfl)
           clear hP hS)
        | (go_at_call 137; with_reducible refine HLI2.out.mono ?_; rintro r w3 ⟨rfl, hw⟩; rw [hw]; clear hw)
        | (go_at_call 135; with_reducible refine HBY.out.mono ?_; rintro r w2 ⟨v1, rfl, h2, hS2⟩
           have d25 := h2.cs.c25
           have HS2 := Lib.hid hS2
           have HEN2 := HEN.out w2 v1 h2; have HLI2 := HLI.out w2 v1 h2
           replace HEN2 := Lib.hid (show Calls Tryz.prog 136 #[ptr g, .string (Ln.ba ln)] w2 fun r w' => r = .returned (.int .i64 (e : Int)) ∧ ∃ q1 v2 f1 bd1 t1 o1, PR w' B g q1 v2 f1 bd1 t1 o1 p b t2 ∧ Step (blks g q v1 f bd t o) (blks g q1 v2 f1 bd1 t1 o1) w2 w' from by rw [ba_list, HX.out] at HEN2; exact HEN2)
           rw [HLN.out] at HLI2
           replace HLI2 := Lib.hid HLI2
           clear h2 hS2 c25))
      go_ret
      exact ⟨rfl, _, ⟨_, rfl, hD⟩, HS.out.trans hS5⟩
  · have HBY := Lib.hid (show Calls Tryz.prog 135 #[ptr q, .int .u8 (c.toNat : Int)] w fun r w' => ∃ v1, r = .returned (.int .i64 3) ∧ PR w' B g q v1 f bd t o p b { s with rd := s.rd.byte c } ∧ Step (blks g q v f bd t o) (blks g q v1 f bd t o) w w' from by rw [← hhow]; exact hby)
    have e0 : s.inLine p b c = (.dead 400 s.out, true) := by
      unfold T.inLine
      dsimp only
      rw [hhow, if_neg (by decide), if_pos rfl]
    rw [e0]
    have c25 := h.cs.c25
    clear h hby ok hout e0 hhow
    go_enter Tryz.func116, Tryz.ntmps116
    go_wp2_with (first
      | (go_at_call 115; with_reducible refine HFA.out.mono ?_; rintro r w5 ⟨rfl, hD, hS5⟩)
      | (go_at_call 135; with_reducible refine HBY.out.mono ?_; rintro r w2 ⟨v1, rfl, h2, hS2⟩
         have HS2 := Lib.hid hS2; have HFA := Lib.hid (fail_any h2 400 (by decide) 400 rfl)
         clear h2 hS2 c25))
    go_ret
    exact ⟨rfl, _, ⟨_, rfl, hD⟩, HS2.out.trans hS5⟩
  · have HBY := Lib.hid (show Calls Tryz.prog 135 #[ptr q, .int .u8 (c.toNat : Int)] w fun r w' => ∃ v1, r = .returned (.int .i64 4) ∧ PR w' B g q v1 f bd t o p b { s with rd := s.rd.byte c } ∧ Step (blks g q v f bd t o) (blks g q v1 f bd t o) w w' from by rw [← hhow]; exact hby)
    have HH0 := fun w => Qk.has_any p hp 29 w
    have c25 := h.cs.c25
    have e0 : s.inLine p b c = (if (s.st == 6 && Qk.has p 29) = true then (.live (({ s with rd := s.rd.byte c } : T).enter p 4 b.x0), false) else (.dead (longE s.st) s.out, true)) := by
      unfold T.inLine
      dsimp only
      rw [hhow, if_neg (by decide), if_neg (by decide), if_pos rfl]
    rw [e0]
    have HEN := Lib.hid (fun (w2 : World) (v1 : Value) (h2 : PR w2 B g q v1 f bd t o p b { s with rd := s.rd.byte c }) => enter_any hp h2 4 4 rfl b.x0)
    have HTL := Lib.hid (fun (w2 : World) (v1 : Value) (h2 : PR w2 B g q v1 f bd t o p b { s with rd := s.rd.byte c }) => tooLong_any h2.cs.c24)
    have hlong : longE s.st ≠ 0 := by unfold longE; split <;> first | decide | (split <;> decide)
    have HLE := Lib.hid hlong
    clear h hby ok hout e0 hhow hlong
    by_cases h6 : s.st = 6
    · cases hh : Qk.has p 29 with
      | true =>
        rw [hh] at HH0
        have HH := Lib.hid HH0
        have H6 := Lib.hid h6
        rw [h6, if_pos (by decide)]
        clear HH0 hh h6
        go_enter Tryz.func116, Tryz.ntmps116
        go_wp2_with (first
          | (go_at_call 59; with_reducible refine HE2.out.mono ?_; rintro r w5 ⟨rfl, q1, hP, hS5⟩)
          | (go_at_call 111; with_reducible refine (HH.out _).mono ?_; rintro r w4 ⟨rfl, hw⟩; rw [hw]; clear hw)
          | (go_at_call 135; with_reducible refine HBY.out.mono ?_; rintro r w2 ⟨v1, rfl, h2, hS2⟩
             have HS2 := Lib.hid hS2; have HE2 := Lib.hid (HEN.out w2 v1 h2)
             have c24 : w2.cell? ⟨g, 24, none⟩ = some (.int .i64 6) := by have := h2.cs.c24; rw [show ({ s with rd := s.rd.byte c } : T).st = 6 from H6.out] at this; exact this
             have c13 := h2.cs.c13; have c14 := h2.cs.c14
             clear h2 hS2 c25))
        go_ret
        exact ⟨rfl, _, ⟨_, _, _, _, _, _, rfl, hP⟩, HS2.out.trans hS5⟩
      | false =>
        rw [hh] at HH0
        have HH := Lib.hid HH0
        have H6 := Lib.hid h6
        have e1 : (s.st == 6 && false) = false := Bool.and_false _
        rw [e1, if_neg (by decide)]
        clear HH0 hh h6 e1
        go_enter Tryz.func116, Tryz.ntmps116
        go_wp2_with (first
          | (go_at_call 115; with_reducible refine HFA.out.mono ?_; rintro r w5 ⟨rfl, hD, hS5⟩)
          | (go_at_call 138; with_reducible refine HT2.out.mono ?_; rintro r w4 ⟨rfl, hw⟩; rw [hw]; clear hw)
          | (go_at_call 111; with_reducible refine (HH.out _).mono ?_; rintro r w4 ⟨rfl, hw⟩; rw [hw]; clear hw)
          | (go_at_call 135; with_reducible refine HBY.out.mono ?_; rintro r w2 ⟨v1, rfl, h2, hS2⟩
             have HS2 := Lib.hid hS2; have HT2 := Lib.hid (HTL.out w2 v1 h2); have HFA := Lib.hid (fail_any h2 (longE s.st) HLE.out _ rfl)
             have c24 : w2.cell? ⟨g, 24, none⟩ = some (.int .i64 6) := by have := h2.cs.c24; rw [show ({ s with rd := s.rd.byte c } : T).st = 6 from H6.out] at this; exact this
             have c13 := h2.cs.c13
             clear h2 hS2 c25))
        go_ret
        exact ⟨rfl, _, ⟨_, rfl, hD⟩, HS2.out.trans hS5⟩
    · have t6 : ((s.st : Int) == 6) = false := beq_eq_false_iff_ne.2 (by omega)
      have m6 : ¬ (s.st : Int) = 6 := by omega
      have m6n : ¬ s.st = 6 := h6
      rw [beq_eq_false_iff_ne.2 h6, Bool.false_and, if_neg (by decide)]
      clear HH0 h6
      go_enter Tryz.func116, Tryz.ntmps116
      go_wp2_with (first
        | (go_at_call 115; with_reducible refine HFA.out.mono ?_; rintro r w5 ⟨rfl, hD, hS5⟩)
        | (go_at_call 138; with_reducible refine HT2.out.mono ?_; rintro r w4 ⟨rfl, hw⟩; rw [hw]; clear hw)
        | (go_at_call 135; with_reducible refine HBY.out.mono ?_; rintro r w2 ⟨v1, rfl, h2, hS2⟩
           have HS2 := Lib.hid hS2; have HT2 := Lib.hid (HTL.out w2 v1 h2); have HFA := Lib.hid (fail_any h2 (longE s.st) HLE.out _ rfl)
           have c24 : w2.cell? ⟨g, 24, none⟩ = some (.int .i64 (s.st : Int)) := h2.cs.c24
           clear h2 hS2 c25))
      go_ret
      exact ⟨rfl, _, ⟨_, rfl, hD⟩, HS2.out.trans hS5⟩
theorem look_any (hp : p < 4294967296) (hb0 : b.right = true) (c : UInt8) (h : PR w B g q v f bd t o p b s) (ok : s.Ok) (hout : s.out.length ≤ 1000000000) : Calls Tryz.prog 92 #[ptr g, .int .u8 (c.toNat : Int)] w fun r w' =>
    r = .returned (.bool (s.look p b c).2) ∧ ∃ L1, At w' B g p b L1 (s.look p b c).1 ∧ Step (blks g q v f bd t o) L1 w w' := by
  have H := Lib.hid h
  have c24 := h.cs.c24
  by_cases hbd : bodied s.st = true
  · have hl := ok.left hbd
    have hbl := ok.body
    have HK0 := keep_any c h ⟨hl, by omega⟩ (by omega)
    have HK9 := Lib.hid (fun (w2 : World) (bd1 : Value) (h2 : PR w2 B g q v f bd1 t o p b (s.keep c)) => endData_any hp h2 hout)
    have hst : s.st = 3 ∨ s.st = 5 := by
      unfold bodied at hbd
      simpa using hbd
    unfold T.look
    rw [if_pos hbd]
    clear h hb0 hbl hout ok hbd
    by_cases h1 : s.left = 1
    · rw [decide_eq_true h1] at HK0
      have HK := Lib.hid HK0
      rw [if_pos h1]
      clear HK0 h1 hl
      rcases hst with hst | hst
      · rw [hst] at c24
        clear hst
        go_enter Tryz.func92, Tryz.ntmps92
        go_wp2_with (first
          | (go_at_call 113; with_reducible refine HED.out.mono ?_; rintro r w5 ⟨rfl, q1, v1, f1, bd2, t1, o1, hP, hS5⟩)
          | (go_at_call 112; with_reducible refine HK.out.mono ?_; rintro r w4 ⟨rfl, bd1, h2, hS2⟩
             have HS2 := Lib.hid hS2; have HED := Lib.hid (HK9.out w4 bd1 h2)
             clear h2 hS2))
        go_ret
        exact ⟨rfl, _, ⟨_, _, _, _, _, _, rfl, hP⟩, HS2.out.trans hS5⟩
      · rw [hst] at c24
        clear hst
        go_enter Tryz.func92, Tryz.ntmps92
        go_wp2_with (first
          | (go_at_call 113; with_reducible refine HED.out.mono ?_; rintro r w5 ⟨rfl, q1, v1, f1, bd2, t1, o1, hP, hS5⟩)
          | (go_at_call 112; with_reducible refine HK.out.mono ?_; rintro r w4 ⟨rfl, bd1, h2, hS2⟩
             have HS2 := Lib.hid hS2; have HED := Lib.hid (HK9.out w4 bd1 h2)
             clear h2 hS2))
        go_ret
        exact ⟨rfl, _, ⟨_, _, _, _, _, _, rfl, hP⟩, HS2.out.trans hS5⟩
    · rw [decide_eq_false h1] at HK0
      have HK := Lib.hid HK0
      rw [if_neg h1]
      clear HK0 h1 hl
      rcases hst with hst | hst
      · rw [hst] at c24
        clear hst
        go_enter Tryz.func92, Tryz.ntmps92
        go_wp2_with (go_at_call 112; with_reducible refine HK.out.mono ?_; rintro r w4 ⟨rfl, bd1, h2, hS2⟩)
        go_ret
        exact ⟨rfl, _, ⟨_, _, _, _, _, _, rfl, h2⟩, hS2⟩
      · rw [hst] at c24
        clear hst
        go_enter Tryz.func92, Tryz.ntmps92
        go_wp2_with (go_at_call 112; with_reducible refine HK.out.mono ?_; rintro r w4 ⟨rfl, bd1, h2, hS2⟩)
        go_ret
        exact ⟨rfl, _, ⟨_, _, _, _, _, _, rfl, h2⟩, hS2⟩
  · have hbd : bodied s.st = false := by simpa using hbd
    unfold T.look
    rw [if_neg (by rw [hbd]; decide)]
    have hn : ¬ s.st = 3 ∧ ¬ s.st = 5 := by
      unfold bodied at hbd
      simpa using hbd
    by_cases hhd : headed s.st = true
    · rw [if_pos hhd]
      have hst : s.st = 1 ∨ s.st = 2 ∨ s.st = 7 := by
        unfold headed at hhd
        simp only [Bool.or_eq_true, beq_iff_eq] at hhd
        omega
      have hsz : s.size ≤ 1000000 := Nat.le_trans ok.size (by decide)
      have HQ := Lib.hid ((h.drew 1).bk)
      clear hhd hn
      by_cases hov : b.x2 < (s.counted.size : Int)
      · rw [if_pos hov]
        have HTR := Lib.hid (show (!decide (b.x2 < (s.counted.size : Int))) = false by rw [decide_eq_true hov]; rfl)
        clear hov h hbd hout hb0 ok
        rcases hst with hst | hst | hst
        · rw [hst] at c24
          go_enter Tryz.func92, Tryz.ntmps92
          go_upto_region 10 with fail
          refine Each.region 8 [23, 24, 25, 26, 27, 28, 29, 30]
              [fun v _ => v = .pointer (some ⟨g, 0, none⟩),
                fun v _ => v = .pointer (some ⟨g, 0, none⟩),
                fun v _ => v = .pointer (some ⟨g, 1, none⟩),
                fun v _ => v = .pointer (some ⟨g, 0, none⟩),
                fun v _ => v = .pointer (some ⟨g, 0, none⟩),
                fun v _ => v = .pointer (some ⟨g, 14, none⟩),
                fun v _ => v = .pointer (some ⟨g, 16, none⟩),
                fun v _ => v = .int .i64 b.x2]
              (.act 8 (.quiet 9 .done)) (by kernel_rfl) (by kernel_rfl) (by kernel_rfl) (by kernel_rfl) (fun _ _ d _ _ h => by cases d <;> exact h) (by rfl) (by rfl)
              ⟨Each.Lasts.eq _, Each.Lasts.eq _, Each.Lasts.eq _, Each.Lasts.eq _, Each.Lasts.eq _, Each.Lasts.eq _, Each.Lasts.eq _, Each.Lasts.eq _, trivial⟩ ?_ ?_
          · refine ⟨?_, ?_, ?_, ?_, ?_, ?_, ?_, ?_, trivial⟩
            · refine Each.fine rfl (fun ev w1 hR hb hh => ?_)
              clear hh
              have e0 := hR.old 0 rfl
              simp only [Array.getD_eq_getD_getElem?, List.getElem?_toArray, List.getElem?_cons_zero, Option.getD_some] at e0
              refine Each.Goes.same ?_
              go_simp
              try with_reducible rfl
            · refine Each.fine rfl (fun ev w1 hR hb hh => ?_)
              have e23 : (ev (.tmp 23) = .pointer (some ⟨g, 0, none⟩)) := hh.at 0
              clear hh
              refine Each.Goes.same ?_
              go_simp
              try with_reducible rfl
            · refine Each.fine rfl (fun ev w1 hR hb hh => ?_)
              have e24 : (ev (.tmp 24) = .pointer (some ⟨g, 0, none⟩)) := hh.at 0
              clear hh
              refine Each.Goes.same ?_
              go_simp
              try with_reducible rfl
            · refine Each.fine rfl (fun ev w1 hR hb hh => ?_)
              clear hh
              have e0 := hR.old 0 rfl
              simp only [Array.getD_eq_getD_getElem?, List.getElem?_toArray, List.getElem?_cons_zero, Option.getD_some] at e0
              refine Each.Goes.same ?_
              go_simp
              try with_reducible rfl
            · refine Each.fine rfl (fun ev w1 hR hb hh => ?_)
              have e26 : (ev (.tmp 26) = .pointer (some ⟨g, 0, none⟩)) := hh.at 0
              clear hh
              refine Each.Goes.same ?_
              go_simp
              try with_reducible rfl
            · refine Each.fine rfl (fun ev w1 hR hb hh => ?_)
              have e27 : (ev (.tmp 27) = .pointer (some ⟨g, 0, none⟩)) := hh.at 0
              clear hh
              refine Each.Goes.same ?_
              go_simp
              try with_reducible rfl
            · refine Each.fine rfl (fun ev w1 hR hb hh => ?_)
              have e28 : (ev (.tmp 28) = .pointer (some ⟨g, 14, none⟩)) := hh.at 0
              clear hh
              refine Each.Goes.same ?_
              go_simp
              try with_reducible rfl
            · refine Each.fine rfl (fun ev w1 hR hb hh => ?_)
              have e29 : (ev (.tmp 29) = .pointer (some ⟨g, 16, none⟩)) := hh.at 0
              clear hh
              have q16 := (HQ.out.below hb).c 16 _ rfl
              refine Each.Goes.same ?_
              go_simp
              try with_reducible rfl
          intro g1 w2 hb hf
          have z25 : (g1 25 = .pointer (some ⟨g, 1, none⟩)) := hf.at 2
          have z30 : (g1 30 = .int .i64 b.x2) := hf.at 7
          clear hf
          simp only [Each.putg, Act.put, List.setIfInBounds_toArray, List.set_cons_zero, List.set_cons_succ]
          rw [z25, z30]
          simp only [Tree.grow, Tree.put1, List.getElem?_cons_zero, List.getElem?_cons_succ]
          have HS1 := Lib.hid (Step.of_below hb (L := blks g q v f bd t o))
          have HFI := Lib.hid (count_any b.x2 (H.out.below hb) hsz)
          clear hb HQ
          rw [HTR.out] at HFI
          refine Tree.change (by rfl) (fun K hK => ?_)
          refine Each.oper_enter (g := 114) (args := #[.pointer (some ⟨g, 1, none⟩), .int .i64 b.x2]) (by go_simp) (HFI.out.mono ?_)
          rintro r w3 ⟨rfl, hP, hS⟩
          refine ⟨_, rfl, ?_⟩
          refine hK _ _ trivial ?_
          clear hK K
          simp only [Act.put, List.setIfInBounds_toArray, List.set_cons_zero, List.set_cons_succ]
          refine Tree.quiet (by rfl) (.bool true) (fun _ _ => by go_simp) ?_
          simp only [Act.put, List.setIfInBounds_toArray, List.set_cons_zero, List.set_cons_succ]
          refine Tree.done ?_
          have HP2 := Lib.hid hP; have HS2 := Lib.hid (HS1.out.trans hS)
          clear HFI HS1 hS
          have HF := Lib.hid (fail_any hP 431 (by decide) 431 rfl)
          clear hP
          go_wp2_with (go_at_call 115; with_reducible refine HF.out.mono ?_; rintro r w4 ⟨rfl, hD, hS4⟩)
          go_ret
          exact ⟨rfl, _, ⟨_, rfl, by rw [counted_out] at hD; exact hD⟩, HS2.out.trans hS4⟩
        · rw [hst] at c24
          go_enter Tryz.func92, Tryz.ntmps92
          go_upto_region 10 with fail
          refine Each.region 8 [23, 24, 25, 26, 27, 28, 29, 30]
              [fun v _ => v = .pointer (some ⟨g, 0, none⟩),
                fun v _ => v = .pointer (some ⟨g, 0, none⟩),
                fun v _ => v = .pointer (some ⟨g, 1, none⟩),
                fun v _ => v = .pointer (some ⟨g, 0, none⟩),
                fun v _ => v = .pointer (some ⟨g, 0, none⟩),
                fun v _ => v = .pointer (some ⟨g, 14, none⟩),
                fun v _ => v = .pointer (some ⟨g, 16, none⟩),
                fun v _ => v = .int .i64 b.x2]
              (.act 8 (.quiet 9 .done)) (by kernel_rfl) (by kernel_rfl) (by kernel_rfl) (by kernel_rfl) (fun _ _ d _ _ h => by cases d <;> exact h) (by rfl) (by rfl)
              ⟨Each.Lasts.eq _, Each.Lasts.eq _, Each.Lasts.eq _, Each.Lasts.eq _, Each.Lasts.eq _, Each.Lasts.eq _, Each.Lasts.eq _, Each.Lasts.eq _, trivial⟩ ?_ ?_
          · refine ⟨?_, ?_, ?_, ?_, ?_, ?_, ?_, ?_, trivial⟩
            · refine Each.fine rfl (fun ev w1 hR hb hh => ?_)
              clear hh
              have e0 := hR.old 0 rfl
              simp only [Array.getD_eq_getD_getElem?, List.getElem?_toArray, List.getElem?_cons_zero, Option.getD_some] at e0
              refine Each.Goes.same ?_
              go_simp
              try with_reducible rfl
            · refine Each.fine rfl (fun ev w1 hR hb hh => ?_)
              have e23 : (ev (.tmp 23) = .pointer (some ⟨g, 0, none⟩)) := hh.at 0
              clear hh
              refine Each.Goes.same ?_
              go_simp
              try with_reducible rfl
            · refine Each.fine rfl (fun ev w1 hR hb hh => ?_)
              have e24 : (ev (.tmp 24) = .pointer (some ⟨g, 0, none⟩)) := hh.at 0
              clear hh
              refine Each.Goes.same ?_
              go_simp
              try with_reducible rfl
            · refine Each.fine rfl (fun ev w1 hR hb hh => ?_)
              clear hh
              have e0 := hR.old 0 rfl
              simp only [Array.getD_eq_getD_getElem?, List.getElem?_toArray, List.getElem?_cons_zero, Option.getD_some] at e0
              refine Each.Goes.same ?_
              go_simp
              try with_reducible rfl
            · refine Each.fine rfl (fun ev w1 hR hb hh => ?_)
              have e26 : (ev (.tmp 26) = .pointer (some ⟨g, 0, none⟩)) := hh.at 0
              clear hh
              refine Each.Goes.same ?_
              go_simp
              try with_reducible rfl
            · refine Each.fine rfl (fun ev w1 hR hb hh => ?_)
              have e27 : (ev (.tmp 27) = .pointer (some ⟨g, 0, none⟩)) := hh.at 0
              clear hh
              refine Each.Goes.same ?_
              go_simp
              try with_reducible rfl
            · refine Each.fine rfl (fun ev w1 hR hb hh => ?_)
              have e28 : (ev (.tmp 28) = .pointer (some ⟨g, 14, none⟩)) := hh.at 0
              clear hh
              refine Each.Goes.same ?_
              go_simp
              try with_reducible rfl
            · refine Each.fine rfl (fun ev w1 hR hb hh => ?_)
              have e29 : (ev (.tmp 29) = .pointer (some ⟨g, 16, none⟩)) := hh.at 0
              clear hh
              have q16 := (HQ.out.below hb).c 16 _ rfl
              refine Each.Goes.same ?_
              go_simp
              try with_reducible rfl
          intro g1 w2 hb hf
          have z25 : (g1 25 = .pointer (some ⟨g, 1, none⟩)) := hf.at 2
          have z30 : (g1 30 = .int .i64 b.x2) := hf.at 7
          clear hf
          simp only [Each.putg, Act.put, List.setIfInBounds_toArray, List.set_cons_zero, List.set_cons_succ]
          rw [z25, z30]
          simp only [Tree.grow, Tree.put1, List.getElem?_cons_zero, List.getElem?_cons_succ]
          have HS1 := Lib.hid (Step.of_below hb (L := blks g q v f bd t o))
          have HFI := Lib.hid (count_any b.x2 (H.out.below hb) hsz)
          clear hb HQ
          rw [HTR.out] at HFI
          refine Tree.change (by rfl) (fun K hK => ?_)
          refine Each.oper_enter (g := 114) (args := #[.pointer (some ⟨g, 1, none⟩), .int .i64 b.x2]) (by go_simp) (HFI.out.mono ?_)
          rintro r w3 ⟨rfl, hP, hS⟩
          refine ⟨_, rfl, ?_⟩
          refine hK _ _ trivial ?_
          clear hK K
          simp only [Act.put, List.setIfInBounds_toArray, List.set_cons_zero, List.set_cons_succ]
          refine Tree.quiet (by rfl) (.bool true) (fun _ _ => by go_simp) ?_
          simp only [Act.put, List.setIfInBounds_toArray, List.set_cons_zero, List.set_cons_succ]
          refine Tree.done ?_
          have HP2 := Lib.hid hP; have HS2 := Lib.hid (HS1.out.trans hS)
          clear HFI HS1 hS
          have HF := Lib.hid (fail_any hP 431 (by decide) 431 rfl)
          clear hP
          go_wp2_with (go_at_call 115; with_reducible refine HF.out.mono ?_; rintro r w4 ⟨rfl, hD, hS4⟩)
          go_ret
          exact ⟨rfl, _, ⟨_, rfl, by rw [counted_out] at hD; exact hD⟩, HS2.out.trans hS4⟩
        · rw [hst] at c24
          go_enter Tryz.func92, Tryz.ntmps92
          go_upto_region 10 with fail
          refine Each.region 8 [23, 24, 25, 26, 27, 28, 29, 30]
              [fun v _ => v = .pointer (some ⟨g, 0, none⟩),
                fun v _ => v = .pointer (some ⟨g, 0, none⟩),
                fun v _ => v = .pointer (some ⟨g, 1, none⟩),
                fun v _ => v = .pointer (some ⟨g, 0, none⟩),
                fun v _ => v = .pointer (some ⟨g, 0, none⟩),
                fun v _ => v = .pointer (some ⟨g, 14, none⟩),
                fun v _ => v = .pointer (some ⟨g, 16, none⟩),
                fun v _ => v = .int .i64 b.x2]
              (.act 8 (.quiet 9 .done)) (by kernel_rfl) (by kernel_rfl) (by kernel_rfl) (by kernel_rfl) (fun _ _ d _ _ h => by cases d <;> exact h) (by rfl) (by rfl)
              ⟨Each.Lasts.eq _, Each.Lasts.eq _, Each.Lasts.eq _, Each.Lasts.eq _, Each.Lasts.eq _, Each.Lasts.eq _, Each.Lasts.eq _, Each.Lasts.eq _, trivial⟩ ?_ ?_
          · refine ⟨?_, ?_, ?_, ?_, ?_, ?_, ?_, ?_, trivial⟩
            · refine Each.fine rfl (fun ev w1 hR hb hh => ?_)
              clear hh
              have e0 := hR.old 0 rfl
              simp only [Array.getD_eq_getD_getElem?, List.getElem?_toArray, List.getElem?_cons_zero, Option.getD_some] at e0
              refine Each.Goes.same ?_
              go_simp
              try with_reducible rfl
            · refine Each.fine rfl (fun ev w1 hR hb hh => ?_)
              have e23 : (ev (.tmp 23) = .pointer (some ⟨g, 0, none⟩)) := hh.at 0
              clear hh
              refine Each.Goes.same ?_
              go_simp
              try with_reducible rfl
            · refine Each.fine rfl (fun ev w1 hR hb hh => ?_)
              have e24 : (ev (.tmp 24) = .pointer (some ⟨g, 0, none⟩)) := hh.at 0
              clear hh
              refine Each.Goes.same ?_
              go_simp
              try with_reducible rfl
            · refine Each.fine rfl (fun ev w1 hR hb hh => ?_)
              clear hh
              have e0 := hR.old 0 rfl
              simp only [Array.getD_eq_getD_getElem?, List.getElem?_toArray, List.getElem?_cons_zero, Option.getD_some] at e0
              refine Each.Goes.same ?_
              go_simp
              try with_reducible rfl
            · refine Each.fine rfl (fun ev w1 hR hb hh => ?_)
              have e26 : (ev (.tmp 26) = .pointer (some ⟨g, 0, none⟩)) := hh.at 0
              clear hh
              refine Each.Goes.same ?_
              go_simp
              try with_reducible rfl
            · refine Each.fine rfl (fun ev w1 hR hb hh => ?_)
              have e27 : (ev (.tmp 27) = .pointer (some ⟨g, 0, none⟩)) := hh.at 0
              clear hh
              refine Each.Goes.same ?_
              go_simp
              try with_reducible rfl
            · refine Each.fine rfl (fun ev w1 hR hb hh => ?_)
              have e28 : (ev (.tmp 28) = .pointer (some ⟨g, 14, none⟩)) := hh.at 0
              clear hh
              refine Each.Goes.same ?_
              go_simp
              try with_reducible rfl
            · refine Each.fine rfl (fun ev w1 hR hb hh => ?_)
              have e29 : (ev (.tmp 29) = .pointer (some ⟨g, 16, none⟩)) := hh.at 0
              clear hh
              have q16 := (HQ.out.below hb).c 16 _ rfl
              refine Each.Goes.same ?_
              go_simp
              try with_reducible rfl
          intro g1 w2 hb hf
          have z25 : (g1 25 = .pointer (some ⟨g, 1, none⟩)) := hf.at 2
          have z30 : (g1 30 = .int .i64 b.x2) := hf.at 7
          clear hf
          simp only [Each.putg, Act.put, List.setIfInBounds_toArray, List.set_cons_zero, List.set_cons_succ]
          rw [z25, z30]
          simp only [Tree.grow, Tree.put1, List.getElem?_cons_zero, List.getElem?_cons_succ]
          have HS1 := Lib.hid (Step.of_below hb (L := blks g q v f bd t o))
          have HFI := Lib.hid (count_any b.x2 (H.out.below hb) hsz)
          clear hb HQ
          rw [HTR.out] at HFI
          refine Tree.change (by rfl) (fun K hK => ?_)
          refine Each.oper_enter (g := 114) (args := #[.pointer (some ⟨g, 1, none⟩), .int .i64 b.x2]) (by go_simp) (HFI.out.mono ?_)
          rintro r w3 ⟨rfl, hP, hS⟩
          refine ⟨_, rfl, ?_⟩
          refine hK _ _ trivial ?_
          clear hK K
          simp only [Act.put, List.setIfInBounds_toArray, List.set_cons_zero, List.set_cons_succ]
          refine Tree.quiet (by rfl) (.bool true) (fun _ _ => by go_simp) ?_
          simp only [Act.put, List.setIfInBounds_toArray, List.set_cons_zero, List.set_cons_succ]
          refine Tree.done ?_
          have HP2 := Lib.hid hP; have HS2 := Lib.hid (HS1.out.trans hS)
          clear HFI HS1 hS
          have HF := Lib.hid (fail_any hP 431 (by decide) 431 rfl)
          clear hP
          go_wp2_with (go_at_call 115; with_reducible refine HF.out.mono ?_; rintro r w4 ⟨rfl, hD, hS4⟩)
          go_ret
          exact ⟨rfl, _, ⟨_, rfl, by rw [counted_out] at hD; exact hD⟩, HS2.out.trans hS4⟩
      · rw [if_neg hov]
        have HTR := Lib.hid (show (!decide (b.x2 < (s.counted.size : Int))) = true by rw [decide_eq_false hov]; rfl)
        clear h hbd
        rcases hst with hst | hst | hst
        · rw [hst] at c24
          go_enter Tryz.func92, Tryz.ntmps92
          go_upto_region 10 with fail
          refine Each.region 8 [23, 24, 25, 26, 27, 28, 29, 30]
              [fun v _ => v = .pointer (some ⟨g, 0, none⟩),
                fun v _ => v = .pointer (some ⟨g, 0, none⟩),
                fun v _ => v = .pointer (some ⟨g, 1, none⟩),
                fun v _ => v = .pointer (some ⟨g, 0, none⟩),
                fun v _ => v = .pointer (some ⟨g, 0, none⟩),
                fun v _ => v = .pointer (some ⟨g, 14, none⟩),
                fun v _ => v = .pointer (some ⟨g, 16, none⟩),
                fun v _ => v = .int .i64 b.x2]
              (.act 8 (.quiet 9 .done)) (by kernel_rfl) (by kernel_rfl) (by kernel_rfl) (by kernel_rfl) (fun _ _ d _ _ h => by cases d <;> exact h) (by rfl) (by rfl)
              ⟨Each.Lasts.eq _, Each.Lasts.eq _, Each.Lasts.eq _, Each.Lasts.eq _, Each.Lasts.eq _, Each.Lasts.eq _, Each.Lasts.eq _, Each.Lasts.eq _, trivial⟩ ?_ ?_
          · refine ⟨?_, ?_, ?_, ?_, ?_, ?_, ?_, ?_, trivial⟩
            · refine Each.fine rfl (fun ev w1 hR hb hh => ?_)
              clear hh
              have e0 := hR.old 0 rfl
              simp only [Array.getD_eq_getD_getElem?, List.getElem?_toArray, List.getElem?_cons_zero, Option.getD_some] at e0
              refine Each.Goes.same ?_
              go_simp
              try with_reducible rfl
            · refine Each.fine rfl (fun ev w1 hR hb hh => ?_)
              have e23 : (ev (.tmp 23) = .pointer (some ⟨g, 0, none⟩)) := hh.at 0
              clear hh
              refine Each.Goes.same ?_
              go_simp
              try with_reducible rfl
            · refine Each.fine rfl (fun ev w1 hR hb hh => ?_)
              have e24 : (ev (.tmp 24) = .pointer (some ⟨g, 0, none⟩)) := hh.at 0
              clear hh
              refine Each.Goes.same ?_
              go_simp
              try with_reducible rfl
            · refine Each.fine rfl (fun ev w1 hR hb hh => ?_)
              clear hh
              have e0 := hR.old 0 rfl
              simp only [Array.getD_eq_getD_getElem?, List.getElem?_toArray, List.getElem?_cons_zero, Option.getD_some] at e0
              refine Each.Goes.same ?_
              go_simp
              try with_reducible rfl
            · refine Each.fine rfl (fun ev w1 hR hb hh => ?_)
              have e26 : (ev (.tmp 26) = .pointer (some ⟨g, 0, none⟩)) := hh.at 0
              clear hh
              refine Each.Goes.same ?_
              go_simp
              try with_reducible rfl
            · refine Each.fine rfl (fun ev w1 hR hb hh => ?_)
              have e27 : (ev (.tmp 27) = .pointer (some ⟨g, 0, none⟩)) := hh.at 0
              clear hh
              refine Each.Goes.same ?_
              go_simp
              try with_reducible rfl
            · refine Each.fine rfl (fun ev w1 hR hb hh => ?_)
              have e28 : (ev (.tmp 28) = .pointer (some ⟨g, 14, none⟩)) := hh.at 0
              clear hh
              refine Each.Goes.same ?_
              go_simp
              try with_reducible rfl
            · refine Each.fine rfl (fun ev w1 hR hb hh => ?_)
              have e29 : (ev (.tmp 29) = .pointer (some ⟨g, 16, none⟩)) := hh.at 0
              clear hh
              have q16 := (HQ.out.below hb).c 16 _ rfl
              refine Each.Goes.same ?_
              go_simp
              try with_reducible rfl
          intro g1 w2 hb hf
          have z25 : (g1 25 = .pointer (some ⟨g, 1, none⟩)) := hf.at 2
          have z30 : (g1 30 = .int .i64 b.x2) := hf.at 7
          clear hf
          simp only [Each.putg, Act.put, List.setIfInBounds_toArray, List.set_cons_zero, List.set_cons_succ]
          rw [z25, z30]
          simp only [Tree.grow, Tree.put1, List.getElem?_cons_zero, List.getElem?_cons_succ]
          have HS1 := Lib.hid (Step.of_below hb (L := blks g q v f bd t o))
          have HFI := Lib.hid (count_any b.x2 (H.out.below hb) hsz)
          clear hb HQ
          rw [HTR.out] at HFI
          refine Tree.change (by rfl) (fun K hK => ?_)
          refine Each.oper_enter (g := 114) (args := #[.pointer (some ⟨g, 1, none⟩), .int .i64 b.x2]) (by go_simp) (HFI.out.mono ?_)
          rintro r w3 ⟨rfl, hP, hS⟩
          refine ⟨_, rfl, ?_⟩
          refine hK _ _ trivial ?_
          clear hK K
          simp only [Act.put, List.setIfInBounds_toArray, List.set_cons_zero, List.set_cons_succ]
          refine Tree.quiet (by rfl) (.bool false) (fun _ _ => by go_simp) ?_
          simp only [Act.put, List.setIfInBounds_toArray, List.set_cons_zero, List.set_cons_succ]
          refine Tree.done ?_
          have HP2 := Lib.hid hP; have HS2 := Lib.hid (HS1.out.trans hS)
          clear HFI HS1 hS
          have HI := Lib.hid (inLine_any hp hb0 c hP (ok.counted hb0 hov) (by rw [counted_out]; exact hout))
          clear hP
          go_wp2_with (go_at_call 116; with_reducible refine HI.out.mono ?_; rintro r w4 ⟨rfl, L4, hA, hS4⟩)
          go_ret
          exact ⟨rfl, L4, hA, HS2.out.trans hS4⟩
        · rw [hst] at c24
          go_enter Tryz.func92, Tryz.ntmps92
          go_upto_region 10 with fail
          refine Each.region 8 [23, 24, 25, 26, 27, 28, 29, 30]
              [fun v _ => v = .pointer (some ⟨g, 0, none⟩),
                fun v _ => v = .pointer (some ⟨g, 0, none⟩),
                fun v _ => v = .pointer (some ⟨g, 1, none⟩),
                fun v _ => v = .pointer (some ⟨g, 0, none⟩),
                fun v _ => v = .pointer (some ⟨g, 0, none⟩),
                fun v _ => v = .pointer (some ⟨g, 14, none⟩),
                fun v _ => v = .pointer (some ⟨g, 16, none⟩),
                fun v _ => v = .int .i64 b.x2]
              (.act 8 (.quiet 9 .done)) (by kernel_rfl) (by kernel_rfl) (by kernel_rfl) (by kernel_rfl) (fun _ _ d _ _ h => by cases d <;> exact h) (by rfl) (by rfl)
              ⟨Each.Lasts.eq _, Each.Lasts.eq _, Each.Lasts.eq _, Each.Lasts.eq _, Each.Lasts.eq _, Each.Lasts.eq _, Each.Lasts.eq _, Each.Lasts.eq _, trivial⟩ ?_ ?_
          · refine ⟨?_, ?_, ?_, ?_, ?_, ?_, ?_, ?_, trivial⟩
            · refine Each.fine rfl (fun ev w1 hR hb hh => ?_)
              clear hh
              have e0 := hR.old 0 rfl
              simp only [Array.getD_eq_getD_getElem?, List.getElem?_toArray, List.getElem?_cons_zero, Option.getD_some] at e0
              refine Each.Goes.same ?_
              go_simp
              try with_reducible rfl
            · refine Each.fine rfl (fun ev w1 hR hb hh => ?_)
              have e23 : (ev (.tmp 23) = .pointer (some ⟨g, 0, none⟩)) := hh.at 0
              clear hh
              refine Each.Goes.same ?_
              go_simp
              try with_reducible rfl
            · refine Each.fine rfl (fun ev w1 hR hb hh => ?_)
              have e24 : (ev (.tmp 24) = .pointer (some ⟨g, 0, none⟩)) := hh.at 0
              clear hh
              refine Each.Goes.same ?_
              go_simp
              try with_reducible rfl
            · refine Each.fine rfl (fun ev w1 hR hb hh => ?_)
              clear hh
              have e0 := hR.old 0 rfl
              simp only [Array.getD_eq_getD_getElem?, List.getElem?_toArray, List.getElem?_cons_zero, Option.getD_some] at e0
              refine Each.Goes.same ?_
              go_simp
              try with_reducible rfl
            · refine Each.fine rfl (fun ev w1 hR hb hh => ?_)
              have e26 : (ev (.tmp 26) = .pointer (some ⟨g, 0, none⟩)) := hh.at 0
              clear hh
              refine Each.Goes.same ?_
              go_simp
              try with_reducible rfl
            · refine Each.fine rfl (fun ev w1 hR hb hh => ?_)
              have e27 : (ev (.tmp 27) = .pointer (some ⟨g, 0, none⟩)) := hh.at 0
              clear hh
              refine Each.Goes.same ?_
              go_simp
              try with_reducible rfl
            · refine Each.fine rfl (fun ev w1 hR hb hh => ?_)
              have e28 : (ev (.tmp 28) = .pointer (some ⟨g, 14, none⟩)) := hh.at 0
              clear hh
              refine Each.Goes.same ?_
              go_simp
              try with_reducible rfl
            · refine Each.fine rfl (fun ev w1 hR hb hh => ?_)
              have e29 : (ev (.tmp 29) = .pointer (some ⟨g, 16, none⟩)) := hh.at 0
              clear hh
              have q16 := (HQ.out.below hb).c 16 _ rfl
              refine Each.Goes.same ?_
              go_simp
              try with_reducible rfl
          intro g1 w2 hb hf
          have z25 : (g1 25 = .pointer (some ⟨g, 1, none⟩)) := hf.at 2
          have z30 : (g1 30 = .int .i64 b.x2) := hf.at 7
          clear hf
          simp only [Each.putg, Act.put, List.setIfInBounds_toArray, List.set_cons_zero, List.set_cons_succ]
          rw [z25, z30]
          simp only [Tree.grow, Tree.put1, List.getElem?_cons_zero, List.getElem?_cons_succ]
          have HS1 := Lib.hid (Step.of_below hb (L := blks g q v f bd t o))
          have HFI := Lib.hid (count_any b.x2 (H.out.below hb) hsz)
          clear hb HQ
          rw [HTR.out] at HFI
          refine Tree.change (by rfl) (fun K hK => ?_)
          refine Each.oper_enter (g := 114) (args := #[.pointer (some ⟨g, 1, none⟩), .int .i64 b.x2]) (by go_simp) (HFI.out.mono ?_)
          rintro r w3 ⟨rfl, hP, hS⟩
          refine ⟨_, rfl, ?_⟩
          refine hK _ _ trivial ?_
          clear hK K
          simp only [Act.put, List.setIfInBounds_toArray, List.set_cons_zero, List.set_cons_succ]
          refine Tree.quiet (by rfl) (.bool false) (fun _ _ => by go_simp) ?_
          simp only [Act.put, List.setIfInBounds_toArray, List.set_cons_zero, List.set_cons_succ]
          refine Tree.done ?_
          have HP2 := Lib.hid hP; have HS2 := Lib.hid (HS1.out.trans hS)
          clear HFI HS1 hS
          have HI := Lib.hid (inLine_any hp hb0 c hP (ok.counted hb0 hov) (by rw [counted_out]; exact hout))
          clear hP
          go_wp2_with (go_at_call 116; with_reducible refine HI.out.mono ?_; rintro r w4 ⟨rfl, L4, hA, hS4⟩)
          go_ret
          exact ⟨rfl, L4, hA, HS2.out.trans hS4⟩
        · rw [hst] at c24
          go_enter Tryz.func92, Tryz.ntmps92
          go_upto_region 10 with fail
          refine Each.region 8 [23, 24, 25, 26, 27, 28, 29, 30]
              [fun v _ => v = .pointer (some ⟨g, 0, none⟩),
                fun v _ => v = .pointer (some ⟨g, 0, none⟩),
                fun v _ => v = .pointer (some ⟨g, 1, none⟩),
                fun v _ => v = .pointer (some ⟨g, 0, none⟩),
                fun v _ => v = .pointer (some ⟨g, 0, none⟩),
                fun v _ => v = .pointer (some ⟨g, 14, none⟩),
                fun v _ => v = .pointer (some ⟨g, 16, none⟩),
                fun v _ => v = .int .i64 b.x2]
              (.act 8 (.quiet 9 .done)) (by kernel_rfl) (by kernel_rfl) (by kernel_rfl) (by kernel_rfl) (fun _ _ d _ _ h => by cases d <;> exact h) (by rfl) (by rfl)
              ⟨Each.Lasts.eq _, Each.Lasts.eq _, Each.Lasts.eq _, Each.Lasts.eq _, Each.Lasts.eq _, Each.Lasts.eq _, Each.Lasts.eq _, Each.Lasts.eq _, trivial⟩ ?_ ?_
          · refine ⟨?_, ?_, ?_, ?_, ?_, ?_, ?_, ?_, trivial⟩
            · refine Each.fine rfl (fun ev w1 hR hb hh => ?_)
              clear hh
              have e0 := hR.old 0 rfl
              simp only [Array.getD_eq_getD_getElem?, List.getElem?_toArray, List.getElem?_cons_zero, Option.getD_some] at e0
              refine Each.Goes.same ?_
              go_simp
              try with_reducible rfl
            · refine Each.fine rfl (fun ev w1 hR hb hh => ?_)
              have e23 : (ev (.tmp 23) = .pointer (some ⟨g, 0, none⟩)) := hh.at 0
              clear hh
              refine Each.Goes.same ?_
              go_simp
              try with_reducible rfl
            · refine Each.fine rfl (fun ev w1 hR hb hh => ?_)
              have e24 : (ev (.tmp 24) = .pointer (some ⟨g, 0, none⟩)) := hh.at 0
              clear hh
              refine Each.Goes.same ?_
              go_simp
              try with_reducible rfl
            · refine Each.fine rfl (fun ev w1 hR hb hh => ?_)
              clear hh
              have e0 := hR.old 0 rfl
              simp only [Array.getD_eq_getD_getElem?, List.getElem?_toArray, List.getElem?_cons_zero, Option.getD_some] at e0
              refine Each.Goes.same ?_
              go_simp
              try with_reducible rfl
            · refine Each.fine rfl (fun ev w1 hR hb hh => ?_)
              have e26 : (ev (.tmp 26) = .pointer (some ⟨g, 0, none⟩)) := hh.at 0
              clear hh
              refine Each.Goes.same ?_
              go_simp
              try with_reducible rfl
            · refine Each.fine rfl (fun ev w1 hR hb hh => ?_)
              have e27 : (ev (.tmp 27) = .pointer (some ⟨g, 0, none⟩)) := hh.at 0
              clear hh
              refine Each.Goes.same ?_
              go_simp
              try with_reducible rfl
            · refine Each.fine rfl (fun ev w1 hR hb hh => ?_)
              have e28 : (ev (.tmp 28) = .pointer (some ⟨g, 14, none⟩)) := hh.at 0
              clear hh
              refine Each.Goes.same ?_
              go_simp
              try with_reducible rfl
            · refine Each.fine rfl (fun ev w1 hR hb hh => ?_)
              have e29 : (ev (.tmp 29) = .pointer (some ⟨g, 16, none⟩)) := hh.at 0
              clear hh
              have q16 := (HQ.out.below hb).c 16 _ rfl
              refine Each.Goes.same ?_
              go_simp
              try with_reducible rfl
          intro g1 w2 hb hf
          have z25 : (g1 25 = .pointer (some ⟨g, 1, none⟩)) := hf.at 2
          have z30 : (g1 30 = .int .i64 b.x2) := hf.at 7
          clear hf
          simp only [Each.putg, Act.put, List.setIfInBounds_toArray, List.set_cons_zero, List.set_cons_succ]
          rw [z25, z30]
          simp only [Tree.grow, Tree.put1, List.getElem?_cons_zero, List.getElem?_cons_succ]
          have HS1 := Lib.hid (Step.of_below hb (L := blks g q v f bd t o))
          have HFI := Lib.hid (count_any b.x2 (H.out.below hb) hsz)
          clear hb HQ
          rw [HTR.out] at HFI
          refine Tree.change (by rfl) (fun K hK => ?_)
          refine Each.oper_enter (g := 114) (args := #[.pointer (some ⟨g, 1, none⟩), .int .i64 b.x2]) (by go_simp) (HFI.out.mono ?_)
          rintro r w3 ⟨rfl, hP, hS⟩
          refine ⟨_, rfl, ?_⟩
          refine hK _ _ trivial ?_
          clear hK K
          simp only [Act.put, List.setIfInBounds_toArray, List.set_cons_zero, List.set_cons_succ]
          refine Tree.quiet (by rfl) (.bool false) (fun _ _ => by go_simp) ?_
          simp only [Act.put, List.setIfInBounds_toArray, List.set_cons_zero, List.set_cons_succ]
          refine Tree.done ?_
          have HP2 := Lib.hid hP; have HS2 := Lib.hid (HS1.out.trans hS)
          clear HFI HS1 hS
          have HI := Lib.hid (inLine_any hp hb0 c hP (ok.counted hb0 hov) (by rw [counted_out]; exact hout))
          clear hP
          go_wp2_with (go_at_call 116; with_reducible refine HI.out.mono ?_; rintro r w4 ⟨rfl, L4, hA, hS4⟩)
          go_ret
          exact ⟨rfl, L4, hA, HS2.out.trans hS4⟩
    · rw [if_neg hhd]
      have hn2 : ¬ s.st = 1 ∧ ¬ s.st = 2 ∧ ¬ s.st = 7 := by
        unfold headed at hhd
        simp only [Bool.or_eq_true, beq_iff_eq] at hhd
        omega
      have t1 : ((s.st : Int) == 1) = false := beq_eq_false_iff_ne.2 (by omega); have m1 : ¬ (s.st : Int) = 1 := by omega
      have t2 : ((s.st : Int) == 2) = false := beq_eq_false_iff_ne.2 (by omega); have m2 : ¬ (s.st : Int) = 2 := by omega
      have t3 : ((s.st : Int) == 3) = false := beq_eq_false_iff_ne.2 (by omega); have m3 : ¬ (s.st : Int) = 3 := by omega
      have t5 : ((s.st : Int) == 5) = false := beq_eq_false_iff_ne.2 (by omega); have m5 : ¬ (s.st : Int) = 5 := by omega
      have t7 : ((s.st : Int) == 7) = false := beq_eq_false_iff_ne.2 (by omega); have m7 : ¬ (s.st : Int) = 7 := by omega
      have HI := Lib.hid (inLine_any hp hb0 c h ok hout)
      clear h hbd ok hout hb0 hhd hn hn2
      go_enter Tryz.func92, Tryz.ntmps92
      go_wp2_with (go_at_call 116; with_reducible refine HI.out.mono ?_; rintro r w4 ⟨rfl, L4, hA, hS4⟩)
      go_ret
      exact ⟨rfl, L4, hA, hS4⟩
end code
end Go.Proofs.YtbineebnhjifiaaGreatDoor.Pg
/- PgFeed -/
namespace Go.Proofs.YtbineebnhjifiaaGreatDoor.Pg
open Go.RowKit Base Txt Par

section
variable {p : Nat} {b : Bd} {t t' : T}
theorem feed_nil (x : Q) : x.feed p b [] = x := rfl
theorem feed_cons (x : Q) (c : UInt8) (l : List UInt8) : x.feed p b (c :: l) = (x.byte p b c).feed p b l := rfl
theorem feed_app (x : Q) (l l' : List UInt8) : x.feed p b (l ++ l') = (x.feed p b l).feed p b l' := List.foldl_append
theorem feed_dead (e : Nat) (o : List Rec.R) (l : List UInt8) : (Q.dead e o).feed p b l = .dead e o := by
  induction l with
  | nil => rfl
  | cons c l ih => rw [feed_cons]; exact ih
/-- There is room in a head for so many bytes more. -/
def T.room (b : Bd) (t : T) (n : Nat) : Prop := headed t.st = true → ((t.size + n : Nat) : Int) ≤ b.x2
/-- A line may go on: no CR is pending. -/
structure T.Open (t : T) : Prop where
  st : bodied t.st = false
  pend : t.rd.pend = false
  nf : Ln.failed t.rd.last = false
/-- Behind a byte of a line. -/
def T.went (t : T) (rd : Ln.M) (n : Nat) : T := { t with rd := rd, size := if headed t.st = true then t.size + n else t.size, cnt := headed t.st }
theorem take_line (h : bodied t.st = false) (c : UInt8) (hr : t.room b 1) : t.take p b c = (match ({ t with size := if headed t.st = true then t.size + 1 else t.size, cnt := headed t.st } : T).inLine p b c with
    | (.live t1, false) => (t1.look p b c).1
    | (x, _) => x) := by
  unfold T.take T.look
  have e : ¬ bodied ({ t with cnt := false } : T).st = true := by rw [show ({ t with cnt := false } : T).st = t.st from rfl, h]; decide
  rw [if_neg e]
  by_cases hh : headed t.st = true
  · have hr' := hr hh
    rw [if_pos (show headed ({ t with cnt := false } : T).st = true from hh)]
    have e2 : T.counted { t with cnt := false } = { t with size := if headed t.st = true then t.size + 1 else t.size, cnt := headed t.st } := by
      unfold T.counted
      rw [if_pos hh, hh]
      rfl
    rw [e2, if_neg (by show ¬ b.x2 < ((if headed t.st = true then t.size + 1 else t.size : Nat) : Int); rw [if_pos hh]; omega)]
    rfl
  · rw [if_neg (show ¬ headed ({ t with cnt := false } : T).st = true from hh)]
    have e2 : headed t.st = false := by simpa using hh
    rw [if_neg hh, e2]
    rfl
/-- A plain byte. -/
theorem take_plain (h : t.Open) (c : UInt8) (h10 : c ≠ 10) (h13 : c ≠ 13) (hm : t.rd.clear.buf.length < t.rd.most) (hr : t.room b 1) :
    t.take p b c = .live (t.went { t.rd with buf := t.rd.clear.buf ++ [c], last := 0, pend := false } 1) := by
  rw [take_line h.st c hr]
  have e0 : t.rd.clear.next c = 0 := by
    unfold Ln.M.next
    rw [show t.rd.clear.last = t.rd.last from rfl, show t.rd.clear.pend = t.rd.pend from rfl, h.nf, h.pend, if_neg (by decide), if_neg (by decide), if_neg h10, if_neg h13, if_neg (by rw [show t.rd.clear.most = t.rd.most from rfl]; omega)]
  have ek : t.rd.clear.keeps c = true := by
    unfold Ln.M.keeps
    rw [show t.rd.clear.last = t.rd.last from rfl, show t.rd.clear.pend = t.rd.pend from rfl, h.nf, h.pend, if_neg (by decide), if_neg (by decide), if_neg h10, if_neg h13, if_neg (by rw [show t.rd.clear.most = t.rd.most from rfl]; omega)]
  have eb : t.rd.byte c = { t.rd with buf := t.rd.clear.buf ++ [c], last := 0, pend := false } := by
    unfold Ln.M.byte Ln.M.told
    rw [e0, ek, if_pos rfl, beq_eq_false_iff_ne.2 h13]
    rfl
  unfold T.inLine
  dsimp only
  rw [e0, if_pos rfl, eb]
  rfl
theorem went_open (h : bodied t.st = false) {rd : Ln.M} (h1 : rd.pend = false) (h2 : Ln.failed rd.last = false) (n : Nat) : (t.went rd n).Open := ⟨h, h1, h2⟩
theorem went_went (rd rd' : Ln.M) (n k : Nat) : (t.went rd n).went rd' k = t.went rd' (n + k) := by
  unfold T.went
  dsimp only
  split <;> simp [Nat.add_assoc]
theorem went_room {rd : Ln.M} {n k : Nat} (h : t.room b (n + k)) : (t.went rd n).room b k := by
  intro hh
  have := h hh
  show ((((if headed t.st = true then t.size + n else t.size) + k : Nat)) : Int) ≤ b.x2
  rw [if_pos (show headed t.st = true from hh)]
  omega
theorem room_le {n k : Nat} (h : t.room b k) (hn : n ≤ k) : t.room b n := fun hh => by have := h hh; omega
/-- Plain bytes. -/
theorem feed_plain (l : List UInt8) : ∀ t : T, l ≠ [] → t.Open → (∀ c ∈ l, c ≠ 10 ∧ c ≠ 13) → t.rd.clear.buf.length + l.length ≤ t.rd.most → t.room b l.length →
    (Q.live t).feed p b l = .live (t.went { t.rd with buf := t.rd.clear.buf ++ l, last := 0, pend := false } l.length) := by
  induction l with
  | nil => intro t h; exact absurd rfl h
  | cons c l ih =>
    intro t _ ho hc hm hr
    have h1 := hc c (by simp)
    simp only [List.length_cons] at hm hr ⊢
    rw [feed_cons]
    show ((t.take p b c).feed p b l) = _
    rw [take_plain ho c h1.1 h1.2 (by omega) (room_le hr (by omega))]
    rcases List.eq_nil_or_concat l with rfl | ⟨_, _, _⟩
    · rfl
    · have hne : l ≠ [] := by rename_i h; rw [h]; simp
      rw [ih _ hne (went_open ho.st rfl rfl 1) (fun x hx => hc x (by simp [hx])) ?_ (went_room (by rw [Nat.add_comm]; exact hr)), went_went]
      · rw [Nat.add_comm 1]
        show Q.live (t.went { t.rd with buf := (t.rd.clear.buf ++ [c]) ++ l, last := 0, pend := false } (l.length + 1)) = _
        rw [List.append_assoc]; rfl
      · show (t.rd.clear.buf ++ [c]).length + l.length ≤ t.rd.most
        rw [List.length_append, List.length_singleton]; omega
theorem take_cr (h : t.Open) (hr : t.room b 1) : t.take p b 13 = .live (t.went { t.rd with buf := t.rd.clear.buf, last := 0, pend := true } 1) := by
  rw [take_line h.st 13 hr]
  have e0 : t.rd.clear.next 13 = 0 := by
    unfold Ln.M.next
    rw [show t.rd.clear.last = t.rd.last from rfl, show t.rd.clear.pend = t.rd.pend from rfl, h.nf, h.pend, if_neg (by decide), if_neg (by decide), if_neg (by decide), if_pos rfl]
  have ek : t.rd.clear.keeps 13 = false := by
    unfold Ln.M.keeps
    rw [show t.rd.clear.last = t.rd.last from rfl, show t.rd.clear.pend = t.rd.pend from rfl, h.nf, h.pend, if_neg (by decide), if_neg (by decide), if_neg (by decide), if_pos rfl]
  have eb : t.rd.byte 13 = { t.rd with buf := t.rd.clear.buf, last := 0, pend := true } := by
    unfold Ln.M.byte Ln.M.told
    rw [e0, ek, if_neg (by decide), List.append_nil]
    rfl
  unfold T.inLine
  dsimp only
  rw [e0, if_pos rfl, eb]
  rfl
theorem take_lf (hs : bodied t.st = false) (hp : t.rd.pend = true) (hl : t.rd.last = 0) (hr : t.room b 1) :
    t.take p b 10 = ends (T.line p b (t.went { t.rd with last := 1, pend := false } 1) t.rd.buf) := by
  rw [take_line hs 10 hr]
  have ec : t.rd.clear = t.rd := Ln.clear_of (by rw [hl]; rfl)
  have e0 : t.rd.clear.next 10 = 1 := by
    unfold Ln.M.next
    rw [ec, hl, hp]; rfl
  have ek : t.rd.clear.keeps 10 = false := by
    unfold Ln.M.keeps
    rw [ec, hl, hp]; rfl
  have eb : t.rd.byte 10 = { t.rd with last := 1, pend := false } := by
    unfold Ln.M.byte Ln.M.told
    rw [e0, ek, if_neg (by decide), List.append_nil, ec]
    rfl
  unfold T.inLine
  dsimp only
  rw [e0, if_neg (by decide), if_neg (by decide), if_neg (by decide), eb]
  have el : ({ t.rd with last := 1, pend := false } : Ln.M).line = t.rd.buf := rfl
  rw [el]
  unfold T.went
  obtain ⟨x, hx⟩ : ∃ x, ends (T.line p b { t with rd := { t.rd with last := 1, pend := false }, size := if headed t.st = true then t.size + 1 else t.size, cnt := headed t.st } t.rd.buf) = x := ⟨_, rfl⟩
  rw [hx]
  cases x <;> rfl
/-- A line and its end. -/
theorem feed_line (l : List UInt8) (h : t.Open) (h0 : t.rd.clear.buf = []) (hc : ∀ c ∈ l, c ≠ 10 ∧ c ≠ 13) (hm : l.length ≤ t.rd.most) (hr : t.room b (l.length + 2)) :
    (Q.live t).feed p b (l ++ [13, 10]) = ends (T.line p b (t.went { t.rd with buf := l, last := 1, pend := false } (l.length + 2)) l) := by
  rw [feed_app]
  have key : ∀ (t1 : T) (k : Nat), t1.Open → t1.room b 2 → t1.rd.clear.buf = l → (Q.live t1).feed p b [13, 10] = ends (T.line p b (t1.went { t1.rd with buf := l, last := 1, pend := false } 2) l) := by
    intro t1 k ho hr hb
    rw [feed_cons, feed_cons]
    show ((Q.byte p b (t1.take p b 13) 10).feed p b []) = _
    rw [take_cr ho (room_le hr (by omega)), feed_nil]
    show T.take p b _ 10 = _
    have e := take_lf (p := p) (b := b) (t := t1.went { t1.rd with buf := t1.rd.clear.buf, last := 0, pend := true } 1) ho.st rfl rfl (went_room hr)
    rw [e, went_went]
    show ends (T.line p b (t1.went { t1.rd with buf := t1.rd.clear.buf, last := 1, pend := false } 2) t1.rd.clear.buf) = _
    rw [hb]
  rcases List.eq_nil_or_concat l with rfl | ⟨_, _, _⟩
  · rw [feed_nil, key t 0 h hr h0]
    rfl
  · have hne : l ≠ [] := by rename_i h; rw [h]; simp
    rw [feed_plain l t hne h hc (by rw [h0]; simpa using hm) (room_le hr (by omega)), h0, List.nil_append, key _ 0 (went_open h.st rfl rfl _) (went_room hr) rfl, went_went]
    rfl
end
end Go.Proofs.YtbineebnhjifiaaGreatDoor.Pg
/- PgTake -/
namespace Go.Proofs.YtbineebnhjifiaaGreatDoor.Pg
open Go.RowKit Base Txt Mem Par

def Q.Ok (b : Bd) : Q → Prop
  | .live t => t.Ok ∧ b.right = true
  | .dead _ _ => True
section
variable {p : Nat} {b : Bd} {t t' : T} {s : List UInt8}
theorem line_out (t : T) (s : List UInt8) : (t.line p b s).2.out.length ≤ t.out.length + 1 := by
  have hf : t.fin.out.length ≤ t.out.length + 1 := by show (t.out ++ [t.r]).length ≤ _; simp
  unfold T.line T.first T.fields T.endHead T.chunk T.trail
  split
  · split
    · exact Nat.le_succ _
    · dsimp only
      split <;> exact Nat.le_succ _
  · split
    · split
      · dsimp only
        split
        · exact Nat.le_succ _
        · split
          · exact Nat.le_succ _
          · split
            · exact hf
            · exact Nat.le_succ _
      · exact Nat.le_succ _
    · split
      · dsimp only
        split
        · exact Nat.le_succ _
        · split
          · exact Nat.le_succ _
          · split <;> exact Nat.le_succ _
      · split
        · split
          · exact hf
          · exact Nat.le_succ _
        · exact Nat.le_succ _
theorem inLine_out (t : T) (c : UInt8) : (t.inLine p b c).1.out.length ≤ t.out.length + 1 := by
  unfold T.inLine
  dsimp only
  split
  · exact Nat.le_succ _
  · split
    · exact Nat.le_succ _
    · split
      · split <;> exact Nat.le_succ _
      · have h := line_out (p := p) (b := b) { t with rd := t.rd.byte c } (t.rd.byte c).line
        unfold ends
        split <;> exact h
theorem look_out (t : T) (c : UInt8) : (t.look p b c).1.out.length ≤ t.out.length + 1 := by
  unfold T.look
  split
  · split
    · show (T.endData p (t.keep c)).out.length ≤ _
      unfold T.endData
      split
      · exact Nat.le_succ _
      · show (t.out ++ [_]).length ≤ _
        simp
    · exact Nat.le_succ _
  · split
    · split
      · exact Nat.le_succ _
      · have h := inLine_out (p := p) (b := b) t.counted c
        rw [counted_out] at h
        exact h
    · exact inLine_out t c
theorem take_out (t : T) (c : UInt8) : (t.take p b c).out.length ≤ t.out.length + 2 := by
  have h := look_out (p := p) (b := b) { t with cnt := false } c
  have e : ({ t with cnt := false } : T).out = t.out := rfl
  rw [e] at h
  unfold T.take
  rcases hx : ({ t with cnt := false } : T).look p b c with ⟨t1 | ⟨e, o⟩, u⟩
  · rw [hx] at h
    have h : t1.out.length ≤ t.out.length + 1 := h
    cases u with
    | true => show t1.out.length ≤ _; omega
    | false =>
      have h2 := look_out (p := p) (b := b) t1 c
      show (t1.look p b c).1.out.length ≤ _
      omega
  · rw [hx] at h
    have h : o.length ≤ t.out.length + 1 := h
    cases u <;> (show o.length ≤ _; omega)
theorem Q.byte_out (x : Q) (c : UInt8) : (x.byte p b c).out.length ≤ x.out.length + 2 := by
  cases x with
  | live t => exact take_out t c
  | dead e o => show o.length ≤ o.length + 2; omega
theorem Q.feed_out : ∀ (l : List UInt8) (x : Q), (x.feed p b l).out.length ≤ x.out.length + 2 * l.length
  | [], _ => Nat.le_refl _
  | c :: l, x => by
    have h1 := Q.byte_out (p := p) (b := b) x c
    have h2 := Q.feed_out l (x.byte p b c)
    rw [feed_cons, List.length_cons]
    omega
theorem Q.Ok.byte {x : Q} (h : x.Ok b) (c : UInt8) : (x.byte p b c).Ok b := by
  cases x with
  | live t =>
    show (t.take p b c).Ok b
    rcases hx : t.take p b c with t1 | ⟨e, o⟩
    · exact ⟨T.Ok.take h.1 h.2 c hx, h.2⟩
    · trivial
  | dead e o => trivial
theorem Q.Ok.feed : ∀ (l : List UInt8) {x : Q}, x.Ok b → (x.feed p b l).Ok b
  | [], _, h => h
  | c :: l, _, h => Q.Ok.feed l (h.byte c)
end
/-- A slice of bytes, in a block that is not of L. -/
structure Bts (L : List (Option Nat)) (w : World) (a : Option Addr) (l : List UInt8) : Prop where
  nums : Nums .u8 w a l.length (l.map fun c => (c.toNat : Int))
  far : ∀ ad, a = some ad → some ad.block ∉ L ∧ ad.block < w.heap.size
/-- A slice of such slices. -/
structure Parts (L : List (Option Nat)) (w : World) (a : Option Addr) (ls : List (List UInt8)) : Prop where
  cells : 0 < ls.length → ∃ bk off, a = some ⟨bk, off, none⟩ ∧ bk < w.heap.size ∧ some bk ∉ L ∧ ∀ k (hk : k < ls.length), ∃ ak ck, w.cell? ⟨bk, off + k, none⟩ = some (.slice ak ls[k].length ck) ∧ Bts L w ak ls[k]
theorem Bts.step {L L' : List (Option Nat)} {w w' : World} {a : Option Addr} {l : List UInt8} (h : Bts L w a l) (hs : Step L L' w w') : Bts L' w' a l := by
  refine ⟨nums_keeps h.nums hs.keeps (fun c => ?_), fun ad e => ⟨fun hm => ?_, Nat.lt_of_lt_of_le (h.far ad e).2 hs.keeps.size⟩⟩
  · cases ha : a with
    | none => exact .inl rfl
    | some ad => exact .inr ⟨ad.block, rfl, (h.far ad ha).1⟩
  · rcases hs.of _ hm with h1 | h1
    · exact (h.far ad e).1 h1
    · have := (h.far ad e).2; omega
theorem Parts.step {L L' : List (Option Nat)} {w w' : World} {a : Option Addr} {ls : List (List UInt8)} (h : Parts L w a ls) (hs : Step L L' w w') : Parts L' w' a ls := by
  refine ⟨fun h0 => ?_⟩
  obtain ⟨bk, off, e, hlt, hn, hc⟩ := h.cells h0
  refine ⟨bk, off, e, Nat.lt_of_lt_of_le hlt hs.keeps.size, fun hm => ?_, fun k hk => ?_⟩
  · rcases hs.of _ hm with h1 | h1
    · exact hn h1
    · omega
  · obtain ⟨ak, ck, h1, h2⟩ := hc k hk
    exact ⟨ak, ck, (hs.keeps.cell (p := ⟨bk, off + k, none⟩) hlt hn).trans h1, h2.step hs⟩
section code
set_option maxHeartbeats 4000000
set_option maxRecDepth 20000
attribute [local go_sem] Base.some_undef
variable {w : World} {B : Zone} {g q : Nat} {v f bd t o : Value} {p : Nat} {b : Bd} {s : T}
theorem Dead.cell0 {e : Nat} {out : List Rec.R} (h : Dead w B g e o out) : w.cell? ⟨g, 0, none⟩ = some (.int .i64 (e : Int)) := row_cellL h.row rfl
theorem Dead.put {e : Nat} {out : List Rec.R} (h : Dead w B g e o out) (k : Nat) (u : Value) (o' : Value) (out' : List Rec.R) (hc : (deadcells e o).set k u = deadcells e o') (hO : Outs [some g, o'.ownBlock] B (w.setCell ⟨g, k, none⟩ u) o' out') (hn : o'.ownBlock ≠ some g) (hz : o'.ownBlock = none ∨ o'.ownBlock = o.ownBlock) : Dead (w.setCell ⟨g, k, none⟩ u) B g e o' out' :=
  ⟨by rw [← hc]; exact row_setL h.row k u, hO, hn, h.ge, by simpa using h.lt, h.bad, h.zone.of (by simp) fun k hk => .inl (by
    rcases (by simpa using hk : k = g ∨ some k = o'.ownBlock) with e | e
    · simp [e]
    · rcases hz with z | z
      · rw [z] at e; cases e
      · rw [← z, ← e]; simp)⟩
theorem Dead.same {e : Nat} {out : List Rec.R} (h : Dead w B g e o out) (k : Nat) (u : Value) (hc : (deadcells e o).set k u = deadcells e o) : Dead (w.setCell ⟨g, k, none⟩ u) B g e o out :=
  h.put k u o out hc (h.O.keeps (Keeps.set g k u (List.mem_singleton.2 rfl)) (fun k hk => by simp only [List.mem_singleton] at hk; simp [hk]) (fun k e hm => h.ne (by rw [e, List.mem_singleton.1 hm]))) h.ne (.inr rfl)
theorem take_any (hp : p < 4294967296) (c : UInt8) (x : Q) {L : List (Option Nat)} (h : At w B g p b L x) (ok : x.Ok b) (hout : x.out.length ≤ 999999998) : Calls Tryz.prog 62 #[ptr g, .int .u8 (c.toNat : Int)] w fun r w' =>
    r = .returned (.tuple #[]) ∧ ∃ L', At w' B g p b L' (x.byte p b c) ∧ Step L L' w w' := by
  cases x with
  | dead e out =>
    obtain ⟨o, rfl, hd⟩ := h
    have H1 := Lib.hid (hd.same 7 (.bool false) rfl)
    have HS1 := Lib.hid (Step.set (w := w) (L := [some g, o.ownBlock]) g 7 (.bool false) (by simp))
    have HB := Lib.hid hd.bad
    have c7 := row_cellL hd.row (k := 7) rfl; have z7 := Ln.row_frozen hd.row 7
    clear hd ok hout
    go_enter Tryz.func62, Tryz.ntmps62
    go_upto_region 1 with fail
    generalize w.setCell ⟨g, 7, none⟩ (.bool false) = W1 at *
    clear c7 z7
    have HF := Lib.hid (failed_dead H1.out.cell0 HB.out)
    refine wp_loop_rounds 1 ?_
    rw [rounds_succ]
    go_wp2_with (go_at_call 68; with_reducible refine HF.out.mono ?_; rintro r w2 ⟨rfl, hw⟩; rw [hw]; clear hw)
    first | go_end0 | refine bodyPost_ret (results_none rfl _ _ _) rfl ?_
    exact ⟨rfl, _, ⟨_, rfl, H1.out⟩, HS1.out⟩
  | live s =>
    obtain ⟨q, v, f, bd, t, o, rfl, h⟩ := h
    have H1 := Lib.hid (h.put 7 (.bool false) { s with cnt := false } rfl rfl rfl rfl rfl rfl)
    have HS1 := Lib.hid (Step.set (w := w) (L := blks g q v f bd t o) g 7 (.bool false) (by simp))
    have c7 := h.cs.c7; have z7 := h.marks 7
    obtain ⟨ok, hb0⟩ : s.Ok ∧ b.right = true := ok
    have hout : s.out.length ≤ 999999998 := hout
    have ok1 := ok.cleared
    obtain ⟨S1, hS1⟩ : ∃ S1 : T, { s with cnt := false } = S1 := ⟨_, rfl⟩
    have ho1 : S1.out.length ≤ 999999998 := by rw [← hS1]; exact hout
    rw [hS1] at ok1 H1
    have e : Q.byte p b (.live s) c = (match S1.look p b c with
        | (.live t1, false) => (t1.look p b c).1
        | (x, _) => x) := by rw [← hS1]; rfl
    have HL := Lib.hid (fun (w2 : World) (h2 : PR w2 B g q v f bd t o p b S1) => look_any hp hb0 c h2 ok1 (by omega))
    have htw := fun t' => look_twice (p := p) (t' := t') ok1 hb0 c
    have hoo := look_out (p := p) (b := b) S1 c
    have hok2 := fun t' (h : (S1.look p b c).1 = .live t') => ok1.look hb0 c h
    rw [e]
    clear h ok hout e hS1
    rcases hx : S1.look p b c with ⟨t1 | ⟨e, out⟩, u⟩
    · rw [hx] at HL hoo
      cases u with
      | true =>
        show Calls _ _ _ _ fun r w' => r = .returned (.tuple #[]) ∧ ∃ L', At w' B g p b L' (.live t1) ∧ Step _ L' w w'
        clear htw hx hok2 hoo
        go_enter Tryz.func62, Tryz.ntmps62
        go_upto_region 1 with fail
        generalize w.setCell ⟨g, 7, none⟩ (.bool false) = W1 at *
        clear c7 z7
        have HF := Lib.hid (failed_live H1.out.cs.c0)
        have HL1 := Lib.hid (HL.out _ H1.out)
        refine wp_loop_rounds 1 ?_
        rw [rounds_succ]
        go_wp2_with (first
          | (go_at_call 92; with_reducible refine HL1.out.mono ?_; rintro r w2 ⟨rfl, L2, hA, hS2⟩)
          | (go_at_call 68; with_reducible refine HF.out.mono ?_; rintro r w3 ⟨rfl, hw⟩; rw [hw]; clear hw))
        first | go_end0 | refine bodyPost_ret (results_none rfl _ _ _) rfl ?_
        exact ⟨rfl, _, hA, HS1.out.trans hS2⟩
      | false =>
        have hu := htw t1 hx
        show Calls _ _ _ _ fun r w' => r = .returned (.tuple #[]) ∧ ∃ L', At w' B g p b L' (t1.look p b c).1 ∧ Step _ L' w w'
        have ok2 := hok2 t1 (by rw [hx])
        have hoo : t1.out.length ≤ S1.out.length + 1 := hoo
        have HL9 := fun (w2 : World) (q v f bd t o) (h2 : PR w2 B g q v f bd t o p b t1) => look_any hp hb0 c h2 ok2 (by omega)
        rw [hu] at HL9
        have HL2 := Lib.hid HL9
        clear htw hx hok2 hoo hu ok2 HL9
        go_enter Tryz.func62, Tryz.ntmps62
        go_upto_region 1 with fail
        generalize w.setCell ⟨g, 7, none⟩ (.bool false) = W1 at *
        clear c7 z7
        have HF := Lib.hid (failed_live H1.out.cs.c0)
        have HL1 := Lib.hid (HL.out _ H1.out)
        refine wp_loop_rounds 2 ?_
        rw [rounds_succ]
        go_wp2_with (first
          | (go_at_call 92; with_reducible refine HL1.out.mono ?_; rintro r w2 ⟨rfl, L2, hA, hS2⟩)
          | (go_at_call 68; with_reducible refine HF.out.mono ?_; rintro r w3 ⟨rfl, hw⟩; rw [hw]; clear hw))
        obtain ⟨q2, v2, f2, bd2, t2, o2, rfl, h2⟩ := hA
        have HF2 := Lib.hid (failed_live h2.cs.c0)
        have HL3 := Lib.hid (HL2.out _ _ _ _ _ _ _ h2)
        have HS2 := Lib.hid (HS1.out.trans hS2)
        clear h2 hS2 HF HL1 HL2 H1 HS1
        rw [rounds_succ]
        go_wp2_with (first
          | (go_at_call 92; with_reducible refine HL3.out.mono ?_; rintro r w4 ⟨rfl, L4, hA4, hS4⟩)
          | (go_at_call 68; with_reducible refine HF2.out.mono ?_; rintro r w3 ⟨rfl, hw⟩; rw [hw]; clear hw))
        first | go_end0 | refine bodyPost_ret (results_none rfl _ _ _) rfl ?_
        exact ⟨rfl, _, hA4, HS2.out.trans hS4⟩
    · rw [hx] at HL hoo
      cases u with
      | true =>
        show Calls _ _ _ _ fun r w' => r = .returned (.tuple #[]) ∧ ∃ L', At w' B g p b L' (.dead e out) ∧ Step _ L' w w'
        clear htw hx hok2 hoo
        go_enter Tryz.func62, Tryz.ntmps62
        go_upto_region 1 with fail
        generalize w.setCell ⟨g, 7, none⟩ (.bool false) = W1 at *
        clear c7 z7
        have HF := Lib.hid (failed_live H1.out.cs.c0)
        have HL1 := Lib.hid (HL.out _ H1.out)
        refine wp_loop_rounds 1 ?_
        rw [rounds_succ]
        go_wp2_with (first
          | (go_at_call 92; with_reducible refine HL1.out.mono ?_; rintro r w2 ⟨rfl, L2, hA, hS2⟩)
          | (go_at_call 68; with_reducible refine HF.out.mono ?_; rintro r w3 ⟨rfl, hw⟩; rw [hw]; clear hw))
        first | go_end0 | refine bodyPost_ret (results_none rfl _ _ _) rfl ?_
        exact ⟨rfl, _, hA, HS1.out.trans hS2⟩
      | false =>
        show Calls _ _ _ _ fun r w' => r = .returned (.tuple #[]) ∧ ∃ L', At w' B g p b L' (.dead e out) ∧ Step _ L' w w'
        clear htw hx hok2 hoo
        go_enter Tryz.func62, Tryz.ntmps62
        go_upto_region 1 with fail
        generalize w.setCell ⟨g, 7, none⟩ (.bool false) = W1 at *
        clear c7 z7
        have HF := Lib.hid (failed_live H1.out.cs.c0)
        have HL1 := Lib.hid (HL.out _ H1.out)
        refine wp_loop_rounds 2 ?_
        rw [rounds_succ]
        go_wp2_with (first
          | (go_at_call 92; with_reducible refine HL1.out.mono ?_; rintro r w2 ⟨rfl, L2, hA, hS2⟩)
          | (go_at_call 68; with_reducible refine HF.out.mono ?_; rintro r w3 ⟨rfl, hw⟩; rw [hw]; clear hw))
        obtain ⟨o2, rfl, h2⟩ := hA
        have HF2 := Lib.hid (failed_dead h2.cell0 h2.bad)
        have HD2 := Lib.hid h2
        have HS2 := Lib.hid (HS1.out.trans hS2)
        clear h2 hS2 HF HL1 H1 HS1
        rw [rounds_succ]
        go_wp2_with (go_at_call 68; with_reducible refine HF2.out.mono ?_; rintro r w3 ⟨rfl, hw⟩; rw [hw]; clear hw)
        first | go_end0 | refine bodyPost_ret (results_none rfl _ _ _) rfl ?_
        exact ⟨rfl, _, ⟨_, rfl, HD2.out⟩, HS2.out⟩
end code
end Go.Proofs.YtbineebnhjifiaaGreatDoor.Pg
/- PgApi -/
namespace Go.Proofs.YtbineebnhjifiaaGreatDoor.Pg
open Go.RowKit Base Txt Mem Par

/-- Records that were told: in a row of the caller's, apart from what the parser owns. -/
structure Told (L : List (Option Nat)) (B : Zone) (w : World) (o : Value) (out : List Rec.R) : Prop where
  outs : Outs L B w o out
  far : ∀ k, o.ownBlock = some k → some k ∉ L ∧ k < w.heap.size
  off : ∀ k, o.ownBlock = some k → some k ∉ B.z
section code
set_option maxHeartbeats 4000000
set_option maxRecDepth 20000
attribute [local go_sem] Base.some_undef
variable {w : World} {B : Zone} {g q : Nat} {v f bd t o : Value} {p : Nat} {b : Bd} {s : T}
theorem Own.less {rd : Ln.M} {fs ts : List Fld} {body : List UInt8} {out : List Rec.R} (h : Own w B g q v f bd t o rd fs body ts out) : Own w B g q v f bd t nil rd fs body ts [] := by
  have e : blks g q v f bd t nil = (blks g q v f bd t o).set 6 none := rfl
  refine ⟨h.R, h.F, h.D, h.TR, ⟨[], rfl, (by intro x hx; cases hx), World.ownsRow_nil _ _ _ _⟩, ?_, h.ge, h.lt, h.zone.of (Nat.le_refl _) (by rw [e]; exact Of.set 6 none (.inl rfl))⟩
  rw [e]
  exact h.lone.set h.in 6 none (.inl rfl)
theorem At.below {L : List (Option Nat)} {w' : World} {x : Q} (h : At w B g p b L x) (hb : Below w.heap.size w w') : At w' B g p b L x := by
  cases x with
  | live s =>
    obtain ⟨q, v, f, bd, t, o, rfl, h⟩ := h
    exact ⟨q, v, f, bd, t, o, rfl, h.below hb⟩
  | dead e out =>
    obtain ⟨o, rfl, h⟩ := h
    refine ⟨o, rfl, (hb.block g h.lt).trans h.row, h.O.keeps (Keeps.of_below hb : Keeps [] w w') (by simp) (by simp), h.ne, h.ge, Nat.lt_of_lt_of_le h.lt hb.size, h.bad, h.zone.of hb.size Of.refl⟩
theorem At.low {L : List (Option Nat)} {x : Q} (h : At w B g p b L x) : ∀ k, some k ∈ L → B ≤ k := by
  cases x with
  | live s =>
    obtain ⟨q, v, f, bd, t, o, rfl, h⟩ := h
    exact h.own.low
  | dead e out =>
    obtain ⟨o, rfl, h⟩ := h
    intro k hk
    obtain ⟨ps, -, -, h3⟩ := h.O
    rcases (by simpa using hk : k = g ∨ some k = o.ownBlock) with e | e
    · rw [e]; exact h.ge
    · exact (World.ownsRow.lt h3 k e.symm).1
theorem At.in {L : List (Option Nat)} {x : Q} (h : At w B g p b L x) : In w L := by
  cases x with
  | live s =>
    obtain ⟨q, v, f, bd, t, o, rfl, h⟩ := h
    exact h.own.in
  | dead e out =>
    obtain ⟨o, rfl, h⟩ := h
    intro k hk
    obtain ⟨ps, -, -, h3⟩ := h.O
    rcases (by simpa using hk : k = g ∨ some k = o.ownBlock) with e | e
    · rw [e]; exact h.lt
    · exact (World.ownsRow.lt h3 k e.symm).2
/-- What it has told is the caller's. -/
theorem At.tell {L : List (Option Nat)} {x : Q} (h : At w B g p b L x) : ∃ o L', w.cell? ⟨g, 26, none⟩ = some o ∧ w.frozen? ⟨g, 26, none⟩ = false ∧ At (w.setCell ⟨g, 26, none⟩ nil) B g p b L' x.told ∧ Told L' B (w.setCell ⟨g, 26, none⟩ nil) o x.out ∧ Step L L' w (w.setCell ⟨g, 26, none⟩ nil) := by
  cases x with
  | live s =>
    obtain ⟨q, v, f, bd, t, o, rfl, h⟩ := h
    have hg : (blks g q v f bd t o)[0]? = some (some g) := rfl
    have hne : o.ownBlock ≠ some g := fun e => h.own.lone.ne (i := 0) (j := 6) rfl (by decide) (by rw [← e]; rfl)
    have hsub : ∀ k, some k ∈ blks g q v f bd t nil → some k ∈ blks g q v f bd t o := fun k hk => by
      simp only [List.mem_cons, List.not_mem_nil, or_false, Value.ownBlock, reduceCtorEq] at hk ⊢
      rcases hk with e | e | e | e | e | e <;> simp [e]
    refine ⟨o, blks g q v f bd t nil, h.cs.c26, h.marks 26, ⟨q, v, f, bd, t, nil, rfl, ⟨row_setL h.row 26 nil, (h.own.less).set 26 nil⟩⟩, ⟨Outs.less (h.own.O.keeps (Keeps.set g 26 nil (List.mem_singleton.2 rfl)) (fun k hk => by simp only [List.mem_singleton] at hk; simp [hk]) (fun k e hm => hne (by rw [e, List.mem_singleton.1 hm]))) (fun k hk => .inl (hsub k hk)), fun k e => ⟨fun hm => ?_, ?_⟩, fun k e => h.own.zone.off k (List.mem_of_getElem? (i := 6) (by rw [← e]; rfl))⟩, ⟨Keeps.set g 26 nil (List.mem_of_getElem? hg), fun k hk => .inl (hsub k hk)⟩⟩
    · obtain ⟨i, hi⟩ := List.getElem?_of_mem hm
      have h6 : (blks g q v f bd t o)[6]? = some (some k) := by rw [← e]; rfl
      rcases i with _ | _ | _ | _ | _ | _ | _ | i
      · exact h.own.lone.ne (i := 0) (j := 6) (k := k) hi (by decide) h6
      · exact h.own.lone.ne (i := 1) (j := 6) (k := k) hi (by decide) h6
      · exact h.own.lone.ne (i := 2) (j := 6) (k := k) hi (by decide) h6
      · exact h.own.lone.ne (i := 3) (j := 6) (k := k) hi (by decide) h6
      · exact h.own.lone.ne (i := 4) (j := 6) (k := k) hi (by decide) h6
      · exact h.own.lone.ne (i := 5) (j := 6) (k := k) hi (by decide) h6
      · cases hi
      · cases hi
    · have := h.own.in k (List.mem_of_getElem? (i := 6) (by rw [← e]; rfl))
      simpa using this
  | dead e out =>
    obtain ⟨o, rfl, h⟩ := h
    obtain ⟨ps, -, -, h3⟩ := h.O
    refine ⟨o, [some g, none], row_cellL h.row rfl, Ln.row_frozen h.row 26, ⟨nil, rfl, h.put 26 nil nil [] rfl ⟨[], rfl, (by intro x hx; cases hx), World.ownsRow_nil _ _ _ _⟩ (by simp [Value.ownBlock]) (.inl rfl)⟩, ⟨Outs.less (h.O.keeps (Keeps.set g 26 nil (List.mem_singleton.2 rfl)) (fun k hk => by simp only [List.mem_singleton] at hk; simp [hk]) (fun k e hm => h.ne (by rw [e, List.mem_singleton.1 hm]))) (fun k hk => .inl (by simpa using Or.inl (by simpa using hk))), fun k e => ⟨fun hm => ?_, ?_⟩, fun k e => h.zone.off k (by rw [← e]; simp)⟩, ⟨Keeps.set g 26 nil (by simp), fun k hk => .inl (by simpa using Or.inl (by simpa using hk))⟩⟩
    · rcases (by simpa using hm : k = g) with rfl
      exact h.ne e
    · have := (World.ownsRow.lt h3 k e).2
      simpa using this
theorem feed_any (hp : p < 4294967296) (x : Q) {L : List (Option Nat)} (h : At w B g p b L x) (ok : x.Ok b) (a : Option Addr) (ca : Nat) (ls : List (List UInt8)) (hl : Parts L w a ls) (hn : ls.length ≤ 1000000) (hout : x.out.length + 2 * ls.flatten.length ≤ 999999998) :
    Calls Tryz.prog 22 #[ptr g, .slice a ls.length ca] w fun r w' => ∃ o L', r = .returned o ∧ At w' B g p b L' (x.feed p b ls.flatten).told ∧ Told L' B w' o (x.feed p b ls.flatten).out ∧ Step L L' w w' := by
  have H := Lib.hid h; have HL := Lib.hid hl; have HOK := Lib.hid ok; have HOU := Lib.hid hout
  obtain ⟨n, hnn⟩ : ∃ n, ls.length = n := ⟨_, rfl⟩
  have HN := Lib.hid hnn
  have hn1 : n ≤ 1000000 := by omega
  rw [hnn]
  clear h hl ok hout hn hnn
  go_enter Tryz.func22, Tryz.ntmps22
  go_upto_region 2 with fail
  go_loopw [12] (fun i wr => ∃ k : Nat, k ≤ n ∧ i = .int .i64 k ∧ Hid (∃ Lr, At wr B g p b Lr (x.feed p b (ls.take k).flatten) ∧ Step L Lr w wr)) (fun i _ => n - (intOf i).toNat)
  case atStart => exact ⟨0, Nat.zero_le _, rfl, Lib.hid ⟨L, H.out, Step.refl⟩⟩
  case round =>
    obtain ⟨k, hk, rfl, hR⟩ := hrel
    rcases Nat.lt_or_ge k n with hlt | hge
    · obtain ⟨Lr, hA, hS⟩ := hR.out
      have hkl : k < ls.length := by rw [HN.out]; exact hlt
      obtain ⟨bk, off, rfl, hbk, hnb, hc⟩ := (HL.out.step hS).cells (by omega)
      obtain ⟨ak, ck, hcell, hB⟩ := hc k hkl
      have htk : (ls.take (k + 1)).flatten = (ls.take k).flatten ++ ls[k] := by rw [List.take_succ_eq_append_getElem hkl, List.flatten_append]; simp
      have hsum : (ls.take (k + 1)).flatten.length ≤ ls.flatten.length := by
        have := congrArg List.length (congrArg List.flatten (List.take_append_drop (k + 1) ls))
        rw [List.flatten_append, List.length_append] at this
        omega
      rw [htk, List.length_append] at hsum
      have t1 : (k : Int) < (n : Int) := by omega
      have HTK := Lib.hid htk
      obtain ⟨pl, hpl⟩ : ∃ pl, ls[k] = pl := ⟨_, rfl⟩
      rw [hpl] at hcell hB hsum HTK
      have hpb : pl.length ≤ 1000000000 := by have := HOU.out; omega
      obtain ⟨m, hm⟩ : ∃ m, pl.length = m := ⟨_, rfl⟩
      rw [hm] at hcell hpb hsum
      have HM := Lib.hid hm
      obtain ⟨X, hX⟩ : ∃ X, x.feed p b (ls.take k).flatten = X := ⟨_, rfl⟩
      have hXok : X.Ok b := by rw [← hX]; exact Q.Ok.feed _ HOK.out
      have hXo : X.out.length + 2 * m ≤ 999999998 := by
        have := Q.feed_out (p := p) (b := b) (ls.take k).flatten x
        rw [hX] at this
        have := HOU.out
        omega
      rw [hX] at hA
      have HX := Lib.hid hX; have HXO := Lib.hid hXok; have HXL := Lib.hid hXo
      have HA := Lib.hid hA; have HS := Lib.hid hS; have HB := Lib.hid hB
      clear hA hS hB hX hXok hXo hsum htk hpl hm hc hR hnb hbk
      go_upto_region 5 with fail
      clear hcell
      go_loopw [18] (fun j wq => ∃ i : Nat, i ≤ m ∧ j = .int .i64 i ∧ Hid (∃ Lq, At wq B g p b Lq (X.feed p b (pl.take i)) ∧ Step Lr Lq wr wq)) (fun j _ => m - (intOf j).toNat)
      case atStart => exact ⟨0, Nat.zero_le _, rfl, Lib.hid ⟨Lr, HA.out, Step.refl⟩⟩
      case round =>
        obtain ⟨wC, hwC⟩ : ∃ x, x = wr := ⟨_, rfl⟩
        obtain ⟨i, hi, rfl, hR2⟩ := hrel
        rcases Nat.lt_or_ge i m with hilt | hige
        · obtain ⟨Lq, hA2, hS2⟩ := hR2.out
          have hil : i < pl.length := by rw [HM.out]; exact hilt
          obtain ⟨zb, zo, rfl, hzb, hz⟩ := (HB.out.step hS2).nums.2 (by omega)
          have hcell := hz i hil
          have hti : pl.take (i + 1) = pl.take i ++ [pl[i]] := List.take_succ_eq_append_getElem hil
          have hgi : (pl.map fun c => (c.toNat : Int))[i]?.getD 0 = (pl[i].toNat : Int) := by simp [hil]
          rw [hgi] at hcell
          have HTI := Lib.hid hti
          obtain ⟨c, hc⟩ : ∃ c, pl[i] = c := ⟨_, rfl⟩
          rw [hc] at hcell HTI
          have t2 : (i : Int) < (m : Int) := by omega
          have hok3 : (X.feed p b (pl.take i)).Ok b := Q.Ok.feed _ HXO.out
          have hou3 : (X.feed p b (pl.take i)).out.length ≤ 999999998 := by
            have h1 := Q.feed_out (p := p) (b := b) (pl.take i) X
            have h2 := HXL.out
            rw [List.length_take] at h1
            omega
          have HTA := Lib.hid (take_any hp c _ hA2 hok3 hou3)
          have HS2 := Lib.hid hS2
          clear hA2 hS2 hz hzb hti hgi hc hok3 hou3 hR2
          go_wp2_with (go_at_call 62; with_reducible refine HTA.out.mono ?_; rintro r w5 ⟨rfl, L5, hA5, hS5⟩)
          go_roundw
          case rel => exact ⟨i + 1, by omega, by go_num, Lib.hid ⟨L5, by rw [HTI.out, feed_app]; exact hA5, HS2.out.trans hS5⟩⟩
          case measure => simp [intOf]; omega
        · obtain rfl : i = m := by omega
          have t2 : ¬ (i : Int) < (i : Int) := by omega
          obtain ⟨Lq, hA2, hS2⟩ := hR2.out
          have e : pl.take i = pl := List.take_of_length_le (by rw [HM.out]; exact Nat.le_refl _)
          rw [e, ← HX.out, ← feed_app, ← HTK.out] at hA2
          have HA2 := Lib.hid hA2; have HS2 := Lib.hid (HS.out.trans hS2)
          clear hA2 hS2 e hR2
          go_wp2_with fail
          go_roundw
          case rel => exact ⟨k + 1, by omega, by go_num, Lib.hid ⟨Lq, HA2.out, HS2.out⟩⟩
          case measure => simp [intOf]; omega
    · obtain rfl : k = n := by omega
      have t1 : ¬ (k : Int) < (k : Int) := by omega
      obtain ⟨Lr, hA, hS⟩ := hR.out
      have e : ls.take k = ls := List.take_of_length_le (by rw [HN.out]; exact Nat.le_refl _)
      rw [e] at hA
      obtain ⟨o, L2, c26, z26, hA2, hT2, hS2⟩ := hA.tell
      have HA2 := Lib.hid hA2; have HT2 := Lib.hid hT2; have HS2 := Lib.hid (hS.trans hS2)
      clear hA hS hR e hA2 hT2 hS2
      go_wp2_with fail
      go_ret
      exact ⟨o, rfl, L2, HA2.out, HT2.out, HS2.out⟩
theorem errq_any {L : List (Option Nat)} {x : Q} (h : At w B g p b L x) : Calls Tryz.prog 25 #[ptr g] w fun r w' => r = .returned (.int .i64 (x.err : Int)) ∧ w' = w := by
  cases x with
  | live s =>
    obtain ⟨q, v, f, bd, t, o, rfl, h⟩ := h
    exact err_any h.cs.c0
  | dead e out =>
    obtain ⟨o, rfl, h⟩ := h
    exact err_any h.cell0
theorem cleanq_any {L : List (Option Nat)} {x : Q} (h : At w B g p b L x) : Calls Tryz.prog 30 #[ptr g] w fun r w' => r = .returned (.bool x.clean) ∧ w' = w := by
  cases x with
  | live s =>
    obtain ⟨q, v, f, bd, t, o, rfl, h⟩ := h
    exact clean_live h
  | dead e out =>
    obtain ⟨o, rfl, h⟩ := h
    exact clean_dead (row_cellL h.row rfl)
/-- The record so far, as a value. -/
theorem PR.draft (h : PR w B g q v f bd t o p b s) (ok : s.Ok) : Rec.Reads w (.agg #[.string s.r.m, .string s.r.x, .int .i64 s.r.k, f, .bool s.r.ch, bd, t]) s.r ∧ Rec.Fit s.r := by
  obtain ⟨A1, c1, e1, h1⟩ := Flds.of_own h.own.F
  obtain ⟨A2, c2, e2, h2⟩ := Rec.nums_of_own h.own.D
  obtain ⟨A3, c3, e3, h3⟩ := Flds.of_own h.own.TR
  subst e1 e2 e3
  have k1 := ok.fsl; have k2 := ok.tsl; have k3 := ok.hl; have k4 := ok.bl; have k5 := ok.body; have k6 := ok.m; have k7 := ok.x
  exact ⟨⟨_, _, _, _, _, _, rfl, h1, h2, h3⟩, ⟨by omega, by omega, by omega, fun y hy => by have := ok.fss y hy; omega, by omega, by omega, fun y hy => by have := ok.tss y hy; omega⟩⟩
theorem waits_any {L : List (Option Nat)} {x : Q} (h : At w B g p b L x) (ok : x.Ok b) : Calls Tryz.prog 26 #[ptr g] w fun r w' => r = .returned (.bool x.waits) ∧ Below w.heap.size w w' := by
  cases x with
  | live s =>
    obtain ⟨q, v, f, bd, t, o, rfl, h⟩ := h
    obtain ⟨ok, -⟩ : s.Ok ∧ b.right = true := ok
    have hbl := ok.body
    have HN0 := bodyIsNext_live h (by omega)
    have HD := Lib.hid (draft_any h)
    have HE := Lib.hid (fun (w2 : World) (hb : Below w.heap.size w w2) => Rec.expects_any _ s.r w2 (PR.draft (h.below hb) ok).1 (PR.draft (h.below hb) ok).2)
    show Calls _ _ _ _ fun r w' => r = .returned (.bool (s.next && Rec.expects s.r)) ∧ Below w.heap.size w w'
    clear h ok hbl
    cases hx : s.next with
    | true =>
      rw [hx] at HN0
      have HN := Lib.hid HN0
      clear HN0 hx
      generalize Rec.expects s.r = ex at *
      go_enter Tryz.func26, Tryz.ntmps26
      go_wp2_with (first
        | (go_at_call 65; with_reducible refine (HE.out _ HB2.out).mono ?_; rintro r w4 ⟨rfl, hb4⟩)
        | (go_at_call 66; with_reducible refine HD.out.mono ?_; rintro r w3 ⟨rfl, hb3⟩
           have HB2 := Lib.hid hb3
           clear hb3)
        | (go_at_call 64; with_reducible refine HN.out.mono ?_; rintro r w2 ⟨rfl, hw⟩; rw [hw]; clear hw))
      go_ret
      exact ⟨by cases ex <;> rfl, Base.below_step HB2.out hb4⟩
    | false =>
      rw [hx] at HN0
      have HN := Lib.hid HN0
      clear HN0 hx HD HE
      go_enter Tryz.func26, Tryz.ntmps26
      go_wp2_with (go_at_call 64; with_reducible refine HN.out.mono ?_; rintro r w2 ⟨rfl, hw⟩; rw [hw]; clear hw)
      go_ret
      exact ⟨rfl, Below.refl _ _⟩
  | dead e out =>
    obtain ⟨o, rfl, h⟩ := h
    have HN := Lib.hid (bodyIsNext_dead (w := w) (g := g) (row_cellL h.row rfl))
    clear h ok
    go_enter Tryz.func26, Tryz.ntmps26
    go_wp2_with (go_at_call 64; with_reducible refine HN.out.mono ?_; rintro r w2 ⟨rfl, hw⟩; rw [hw]; clear hw)
    go_ret
    exact ⟨rfl, Below.refl _ _⟩
theorem size_small {r : Rec.R} (h : Rec.Fit r) : Rec.size r ≤ 5000000000000 := by
  have h1 := h.m; have h2 := h.x; have h3 := h.body; have h4 := h.fs; have h5 := h.ts
  have h6 := Rec.weigh_le r.fs 1000000 h.f
  have h7 := Rec.weigh_le r.ts 1000000 h.t
  have h8 : r.fs.length * (1000000 + 1000000) ≤ 1000000000 := Nat.le_trans (Nat.mul_le_mul_right _ h4) (by decide)
  have h9 : r.ts.length * (1000000 + 1000000) ≤ 1000000000 := Nat.le_trans (Nat.mul_le_mul_right _ h5) (by decide)
  unfold Rec.size
  omega
theorem held_any {L : List (Option Nat)} {x : Q} (h : At w B g p b L x) (ok : x.Ok b) : Calls Tryz.prog 28 #[ptr g] w fun r w' => r = .returned (.int .i64 (x.held : Int)) ∧ Below w.heap.size w w' := by
  cases x with
  | live s =>
    obtain ⟨q, v, f, bd, t, o, rfl, h⟩ := h
    obtain ⟨ok, -⟩ : s.Ok ∧ b.right = true := ok
    have HF := Lib.hid (failed_live h.cs.c0)
    have c25 := h.cs.c25
    have hll : s.rd.len ≤ 4096 := by
      have h1 := ok.rd.len; have h2 := ok.rd.most
      unfold Ln.M.len
      split <;> omega
    have hsz := size_small (PR.draft h ok).2
    have HL := Lib.hid (Ln.len_any h.own.R.row h.own.R.own)
    have HD := Lib.hid (draft_any h)
    have HE := Lib.hid (fun (w2 : World) (hb : Below w.heap.size w w2) => Rec.size_any _ s.r w2 (PR.draft (h.below hb) ok).1 (PR.draft (h.below hb) ok).2)
    obtain ⟨a1, a2⟩ := Rec.wraps ((s.rd.len : Int) + (Rec.size s.r : Int)) ⟨by omega, by omega⟩
    show Calls _ _ _ _ fun r w' => r = .returned (.int .i64 ((s.rd.len + Rec.size s.r : Nat) : Int)) ∧ Below w.heap.size w w'
    clear h ok hll hsz
    generalize s.rd.len = n1 at *
    generalize Rec.size s.r = n2 at *
    go_enter Tryz.func28, Tryz.ntmps28
    go_wp2_with (first
      | (go_at_call 70; with_reducible refine (HE.out _ HB2.out).mono ?_; rintro r w4 ⟨rfl, hb4⟩)
      | (go_at_call 66; with_reducible refine HD.out.mono ?_; rintro r w3 ⟨rfl, hb3⟩
         have HB2 := Lib.hid hb3
         clear hb3)
      | (go_at_call 69; with_reducible refine HL.out.mono ?_; rintro r w2 ⟨rfl, hw⟩; rw [hw]; clear hw)
      | (go_at_call 68; with_reducible refine HF.out.mono ?_; rintro r w2 ⟨rfl, hw⟩; rw [hw]; clear hw))
    go_ret
    exact ⟨rfl, Base.below_step HB2.out hb4⟩
  | dead e out =>
    obtain ⟨o, rfl, h⟩ := h
    have HF := Lib.hid (failed_dead h.cell0 h.bad)
    clear h ok
    go_enter Tryz.func28, Tryz.ntmps28
    go_wp2_with (go_at_call 68; with_reducible refine HF.out.mono ?_; rintro r w2 ⟨rfl, hw⟩; rw [hw]; clear hw)
    go_ret
    exact ⟨rfl, Below.refl _ _⟩
end code
end Go.Proofs.YtbineebnhjifiaaGreatDoor.Pg
/- PgNew -/
namespace Go.Proofs.YtbineebnhjifiaaGreatDoor.Pg
open Go.RowKit Base Txt Mem Par

section code
set_option maxHeartbeats 4000000
set_option maxRecDepth 20000
attribute [local go_sem] Base.some_undef
variable {w : World} {B : Zone} {g q : Nat} {v f bd t o : Value} {p : Nat} {b : Bd} {s : T}
theorem enter_new (hp : p < 4294967296) (hz : B.z = []) (hrow : w.heap[g]? = some (.cells ([.int .i64 0, .int .i64 0, nil, .string E0, .string E0, .int .i64 0, .int .i64 0, .bool false, .int .i64 0, nil, .bool false, nil, .int .i64 0, .int .u32 (p : Int), .int .i64 b.x0, .int .i64 b.x1, .int .i64 b.x2, .int .i64 b.x3, .int .i64 b.x4, .int .i64 b.x5, .int .i64 b.x6, .int .i64 b.x7, .bool b.ch, .bool b.od, .int .i64 0, .pointer none, nil] : List Value).toArray 55 (0, 0))) (hB : B ≤ g) : Calls Tryz.prog 59 #[ptr g, .int .i64 1, .int .i64 b.x0] w fun r w' =>
    r = .returned (.tuple #[]) ∧ ∃ q1, PR w' B g q1 nil nil nil nil nil p b (T.new p b) ∧ Keeps [some g] w w' := by
  have hlt := Ln.row_lt hrow
  have HR1 := Lib.hid (row_setL hrow 24 (.int .i64 1))
  have HK1 := Lib.hid (Keeps.set (w := w) (L := [some g]) g 24 (.int .i64 1) (by simp))
  have HLT := Lib.hid (show g < (w.setCell ⟨g, 24, none⟩ (.int .i64 1)).heap.size by simpa using hlt)
  have HB := Lib.hid hB
  have c24 := row_cellL hrow (k := 24) rfl; have z24 := Ln.row_frozen hrow 24
  clear hrow hB hlt
  go_enter Tryz.func59, Tryz.ntmps59
  go_upto_region 1 with fail
  generalize w.setCell ⟨g, 24, none⟩ (.int .i64 1) = W1 at *
  clear c24 z24
  have c13 : W1.cell? ⟨g, 13, none⟩ = some (.int .u32 (p : Int)) := row_cellL HR1.out (k := 13) rfl
  have HNL := Lib.hid (line_new hp B b.x0 W1 (Nat.le_trans HB.out (Nat.le_of_lt HLT.out)))
  go_wp2_with
    (go_at_call 90; with_reducible refine HNL.out.mono ?_; rintro r w8 ⟨q1, rfl, hq1, hr1, hb8⟩
     have hrow8 := (hb8.block g HLT.out).trans HR1.out
     have d25 := row_cellL hrow8 (k := 25) rfl; have y25 := Ln.row_frozen hrow8 25
     have HR8 := Lib.hid hrow8; have HD8 := Lib.hid hr1; have HQ8 := Lib.hid hq1; have HB8 := Lib.hid hb8
     clear hb8 hr1 hq1 hrow8)
  go_end0
  have hgq : g ≠ q1 := by have := HLT.out; have := HQ8.out; omega
  have hk : Keeps [some g] w8 (w8.setCell ⟨g, 25, none⟩ (ptr q1)) := Keeps.set g 25 _ (by simp)
  refine ⟨rfl, q1, ⟨row_setL HR8.out 25 (ptr q1), ⟨⟨hk.row HD8.out.row (by simpa using fun e => hgq e.symm), hk.own HD8.out.own (by simp [Value.ownBlock]), HD8.out.ge, HD8.out.ne⟩, World.ownsRow_nil _ _ _ _, World.ownsRow_nil _ _ _ _, World.ownsRow_nil _ _ _ _, ⟨[], rfl, (by intro x hx; cases hx), World.ownsRow_nil _ _ _ _⟩, ?_, HB.out, by have := HLT.out; have := HB8.out.size; simp; omega, by rw [hz]; exact Clear.nil⟩⟩, (HK1.out.trans (Keeps.of_below HB8.out) Of.refl).trans hk Of.refl⟩
  intro i j k hi hj
  rcases i with _ | _ | _ | _ | _ | _ | _ | i <;> rcases j with _ | _ | _ | _ | _ | _ | _ | j <;> simp [Value.ownBlock] at hi hj ⊢ <;> omega
theorem T.new_ok (p : Nat) (b : Bd) : (T.new p b).Ok :=
  ⟨Ln.M.new_ok _ _ _ (Ln.mid_le _), rfl, ⟨Nat.le_refl _, by show 1 ≤ 7; omega⟩, Nat.zero_le _, Nat.zero_le _, Nat.le_refl _, Nat.le_refl _, (by intro y hy; cases hy), (by intro y hy; cases hy), Nat.zero_le _, Nat.zero_le _, Nat.zero_le _, fun h => (by cases h), fun _ => rfl, Nat.zero_le _⟩
theorem Q.new_ok (p : Nat) (b : Bd) : (Q.new p b).Ok b := by
  unfold Q.new
  split
  · rename_i h
    simp only [Bool.and_eq_true] at h
    exact ⟨T.new_ok p b, h.1⟩
  · trivial
theorem dead_new {W : World} (hz : B.z = []) (hrow : W.heap[g]? = some (.cells ([.int .i64 20, .int .i64 0, nil, .string E0, .string E0, .int .i64 0, .int .i64 0, .bool false, .int .i64 0, nil, .bool false, nil, .int .i64 0, .int .u32 0, .int .i64 0, .int .i64 0, .int .i64 0, .int .i64 0, .int .i64 0, .int .i64 0, .int .i64 0, .int .i64 0, .bool false, .bool false, .int .i64 0, .pointer none, nil] : List Value).toArray 55 (0, 0))) (hB : B ≤ g) : At W B g p b [some g, none] (.dead 20 []) :=
  ⟨nil, rfl, ⟨hrow, ⟨[], rfl, (by intro x hx; cases hx), World.ownsRow_nil _ _ _ _⟩, by simp [Value.ownBlock], hB, Ln.row_lt hrow, by decide, by rw [hz]; exact Clear.nil⟩⟩
theorem new_any (hp : p < 4294967296) (w : World) : Calls Tryz.prog 20 #[.int .u32 (p : Int), .agg #[.int .i64 b.x0, .int .i64 b.x1, .int .i64 b.x2, .int .i64 b.x3, .int .i64 b.x4, .int .i64 b.x5, .int .i64 b.x6, .int .i64 b.x7, .bool b.ch, .bool b.od]] w fun r w' =>
    ∃ g L', r = .returned (ptr g) ∧ w.heap.size ≤ g ∧ At w' ⟨w.heap.size, []⟩ g p b L' (Q.new p b) ∧ Below w.heap.size w w' := by
  have hqr := fun w => Qk.right_any p hp w
  have hbr := fun w => Bnd.right_any b.x0 b.x1 b.x2 b.x3 b.x4 b.x5 b.x6 b.x7 b.ch b.od w
  have HB0 := Lib.hid (((Below.refl _ _).alloc (Nat.le_refl _) (.cells #[.int .i64 b.x0, .int .i64 b.x1, .int .i64 b.x2, .int .i64 b.x3, .int .i64 b.x4, .int .i64 b.x5, .int .i64 b.x6, .int .i64 b.x7, .bool b.ch, .bool b.od] 29)) : Below w.heap.size w _)
  have HZ0 := Lib.hid (Rec.Bk.new w w.heap.size rfl 29 [.int .i64 b.x0, .int .i64 b.x1, .int .i64 b.x2, .int .i64 b.x3, .int .i64 b.x4, .int .i64 b.x5, .int .i64 b.x6, .int .i64 b.x7, .bool b.ch, .bool b.od])
  have HSZ := Lib.hid (show w.heap.size < (w.alloc (.cells #[.int .i64 b.x0, .int .i64 b.x1, .int .i64 b.x2, .int .i64 b.x3, .int .i64 b.x4, .int .i64 b.x5, .int .i64 b.x6, .int .i64 b.x7, .bool b.ch, .bool b.od] 29)).heap.size by simp)
  unfold Q.new
  by_cases hP : p < 1073741824
  · rw [decide_eq_true hP] at hqr ⊢
    rw [Bool.and_true]
    have HQR := Lib.hid hqr
    unfold Bd.right
    cases hb : Bnd.right b.x0 b.x1 b.x2 b.x3 b.x4 b.x5 b.x6 b.x7 with
    | true =>
      rw [hb] at hbr
      have HBR := Lib.hid hbr
      rw [if_pos rfl]
      clear hqr hbr hb hP
      go_enter Tryz.func20, Tryz.ntmps20
      go_upto_region 1 with fail
      generalize w.alloc (.cells #[.int .i64 b.x0, .int .i64 b.x1, .int .i64 b.x2, .int .i64 b.x3, .int .i64 b.x4, .int .i64 b.x5, .int .i64 b.x6, .int .i64 b.x7, .bool b.ch, .bool b.od] 29) = W0 at *
      have y0 := HZ0.out.c 0 _ rfl; have y1 := HZ0.out.c 1 _ rfl; have y2 := HZ0.out.c 2 _ rfl; have y3 := HZ0.out.c 3 _ rfl; have y4 := HZ0.out.c 4 _ rfl; have y5 := HZ0.out.c 5 _ rfl; have y6 := HZ0.out.c 6 _ rfl; have y7 := HZ0.out.c 7 _ rfl; have y8 := HZ0.out.c 8 _ rfl; have y9 := HZ0.out.c 9 _ rfl
      go_upto_region 4 with (first
        | (go_at_call 58; with_reducible refine (HBR.out _).mono ?_; rintro r w3 ⟨rfl, hb3⟩
           have HB3 := Lib.hid hb3; have HZ3 := Lib.hid (HZ0.out.below hb3)
           have x0 := HZ3.out.c 0 _ rfl; have x1 := HZ3.out.c 1 _ rfl; have x2 := HZ3.out.c 2 _ rfl; have x3 := HZ3.out.c 3 _ rfl; have x4 := HZ3.out.c 4 _ rfl; have x5 := HZ3.out.c 5 _ rfl; have x6 := HZ3.out.c 6 _ rfl; have x7 := HZ3.out.c 7 _ rfl; have x8 := HZ3.out.c 8 _ rfl; have x9 := HZ3.out.c 9 _ rfl
           clear hb3)
        | (go_at_call 57; with_reducible refine (HQR.out _).mono ?_; rintro r w2 ⟨rfl, hw⟩; rw [hw]; clear hw))
      have HB4 := Lib.hid (Base.below_step HB0.out HB3.out)
      have HR4 := Lib.hid (heap_alloc_new w3 (.cells ([.int .i64 0, .int .i64 0, nil, .string E0, .string E0, .int .i64 0, .int .i64 0, .bool false, .int .i64 0, nil, .bool false, nil, .int .i64 0, .int .u32 (p : Int), .int .i64 b.x0, .int .i64 b.x1, .int .i64 b.x2, .int .i64 b.x3, .int .i64 b.x4, .int .i64 b.x5, .int .i64 b.x6, .int .i64 b.x7, .bool b.ch, .bool b.od, .int .i64 0, .pointer none, nil] : List Value).toArray 55))
      have HG := Lib.hid (show w.heap.size ≤ w3.heap.size from Nat.le_trans (Nat.le_of_lt HSZ.out) HB3.out.size)
      have HBW := Lib.hid (HB4.out.alloc HG.out (.cells ([.int .i64 0, .int .i64 0, nil, .string E0, .string E0, .int .i64 0, .int .i64 0, .bool false, .int .i64 0, nil, .bool false, nil, .int .i64 0, .int .u32 (p : Int), .int .i64 b.x0, .int .i64 b.x1, .int .i64 b.x2, .int .i64 b.x3, .int .i64 b.x4, .int .i64 b.x5, .int .i64 b.x6, .int .i64 b.x7, .bool b.ch, .bool b.od, .int .i64 0, .pointer none, nil] : List Value).toArray 55))
      have HX4 := Lib.hid ((HZ3.out.alloc (.cells ([.int .i64 0, .int .i64 0, nil, .string E0, .string E0, .int .i64 0, .int .i64 0, .bool false, .int .i64 0, nil, .bool false, nil, .int .i64 0, .int .u32 (p : Int), .int .i64 b.x0, .int .i64 b.x1, .int .i64 b.x2, .int .i64 b.x3, .int .i64 b.x4, .int .i64 b.x5, .int .i64 b.x6, .int .i64 b.x7, .bool b.ch, .bool b.od, .int .i64 0, .pointer none, nil] : List Value).toArray 55)).c 0 _ rfl)
      have HE := Lib.hid (enter_new (B := ⟨w.heap.size, []⟩) hp rfl HR4.out HG.out)
      clear y0 y1 y2 y3 y4 y5 y6 y7 y8 y9 x0 x1 x2 x3 x4 x5 x6 x7 x8 x9 HR4
      have x0 := HX4.out
      go_wp2_with (go_at_call 59; with_reducible refine HE.out.mono ?_; rintro r w5 ⟨rfl, q1, hP, hK⟩)
      go_ret
      exact ⟨_, _, rfl, HG.out, ⟨_, _, _, _, _, _, rfl, hP⟩, HBW.out.trans (hK.below HBW.out.size (fun k hk => by rw [Option.some.inj (List.mem_singleton.1 hk)]; exact HG.out))⟩
    | false =>
      rw [hb] at hbr
      have HBR := Lib.hid hbr
      rw [if_neg (by decide)]
      clear hqr hbr hb hP
      go_enter Tryz.func20, Tryz.ntmps20
      go_upto_region 1 with fail
      generalize w.alloc (.cells #[.int .i64 b.x0, .int .i64 b.x1, .int .i64 b.x2, .int .i64 b.x3, .int .i64 b.x4, .int .i64 b.x5, .int .i64 b.x6, .int .i64 b.x7, .bool b.ch, .bool b.od] 29) = W0 at *
      have y0 := HZ0.out.c 0 _ rfl; have y1 := HZ0.out.c 1 _ rfl; have y2 := HZ0.out.c 2 _ rfl; have y3 := HZ0.out.c 3 _ rfl; have y4 := HZ0.out.c 4 _ rfl; have y5 := HZ0.out.c 5 _ rfl; have y6 := HZ0.out.c 6 _ rfl; have y7 := HZ0.out.c 7 _ rfl; have y8 := HZ0.out.c 8 _ rfl; have y9 := HZ0.out.c 9 _ rfl
      go_wp2_with (first
        | (go_at_call 58; with_reducible refine (HBR.out _).mono ?_; rintro r w3 ⟨rfl, hb3⟩
           have HB3 := Lib.hid hb3
           clear hb3)
        | (go_at_call 57; with_reducible refine (HQR.out _).mono ?_; rintro r w2 ⟨rfl, hw⟩; rw [hw]; clear hw))
      go_ret
      have hg := Nat.le_trans (Nat.le_of_lt HSZ.out) HB3.out.size
      exact ⟨_, _, rfl, hg, dead_new (B := ⟨w.heap.size, []⟩) rfl (heap_alloc_new w3 (.cells ([.int .i64 20, .int .i64 0, nil, .string E0, .string E0, .int .i64 0, .int .i64 0, .bool false, .int .i64 0, nil, .bool false, nil, .int .i64 0, .int .u32 0, .int .i64 0, .int .i64 0, .int .i64 0, .int .i64 0, .int .i64 0, .int .i64 0, .int .i64 0, .int .i64 0, .bool false, .bool false, .int .i64 0, .pointer none, nil] : List Value).toArray 55)) hg, (Base.below_step HB0.out HB3.out).alloc hg _⟩
  · rw [decide_eq_false hP] at hqr ⊢
    rw [Bool.and_false, if_neg (by decide)]
    have HQR := Lib.hid hqr
    clear hqr hbr hP
    go_enter Tryz.func20, Tryz.ntmps20
    go_upto_region 1 with fail
    generalize w.alloc (.cells #[.int .i64 b.x0, .int .i64 b.x1, .int .i64 b.x2, .int .i64 b.x3, .int .i64 b.x4, .int .i64 b.x5, .int .i64 b.x6, .int .i64 b.x7, .bool b.ch, .bool b.od] 29) = W0 at *
    go_wp2_with (go_at_call 57; with_reducible refine (HQR.out _).mono ?_; rintro r w2 ⟨rfl, hw⟩; rw [hw]; clear hw)
    go_ret
    have hg := Nat.le_of_lt HSZ.out
    exact ⟨_, _, rfl, hg, dead_new (B := ⟨w.heap.size, []⟩) rfl (heap_alloc_new W0 (.cells ([.int .i64 20, .int .i64 0, nil, .string E0, .string E0, .int .i64 0, .int .i64 0, .bool false, .int .i64 0, nil, .bool false, nil, .int .i64 0, .int .u32 0, .int .i64 0, .int .i64 0, .int .i64 0, .int .i64 0, .int .i64 0, .int .i64 0, .int .i64 0, .int .i64 0, .bool false, .bool false, .int .i64 0, .pointer none, nil] : List Value).toArray 55)) hg, HB0.out.alloc hg _⟩
end code
end Go.Proofs.YtbineebnhjifiaaGreatDoor.Pg
/- PgRead -/
namespace Go.Proofs.YtbineebnhjifiaaGreatDoor.Pg
open Go.RowKit Base Txt Mem Par

theorem told_err (x : Q) : x.told.err = x.err := by cases x <;> rfl
theorem told_clean (x : Q) : x.told.clean = x.clean := by cases x <;> rfl
theorem told_waits (x : Q) : x.told.waits = x.waits := by cases x <;> rfl
theorem told_held (x : Q) : x.told.held = x.held := by cases x <;> rfl
theorem told_ok {b : Bd} {x : Q} (h : x.Ok b) : x.told.Ok b := by
  cases x with
  | live t => exact ⟨⟨h.1.rd, h.1.nf, h.1.st, h.1.hl, h.1.bl, h.1.fsl, h.1.tsl, h.1.fss, h.1.tss, h.1.m, h.1.x, h.1.body, h.1.left, h.1.early, h.1.size⟩, h.2⟩
  | dead e o => trivial
theorem told_out (x : Q) : x.told.out = [] := by cases x <;> rfl
/-- One slice of bytes, as a slice of such. -/
theorem Parts.one {L : List (Option Nat)} {w : World} {a : Option Addr} {c : Nat} {l : List UInt8} (h : Bts L w a l) (hin : In w L) (ty : TypeId) : Parts L (w.alloc (.cells #[.slice a l.length c] ty)) (some ⟨w.heap.size, 0, none⟩) [l] := by
  have hb : Below w.heap.size w (w.alloc (.cells #[.slice a l.length c] ty)) := (Below.refl _ _).alloc (Nat.le_refl _) _
  refine ⟨fun _ => ⟨w.heap.size, 0, rfl, by simp, fun hm => by have := hin _ hm; omega, fun k hk => ?_⟩⟩
  have hk : k < 1 := hk
  obtain rfl : k = 0 := by omega
  refine ⟨a, c, ?_, ?_⟩
  · have := cell_of_row (w.alloc (.cells #[.slice a l.length c] ty)) w.heap.size 0 _ ty (0, 0) (heap_alloc_new w _)
    exact this.trans rfl
  · exact h.step (Step.of_below hb)
section code
set_option maxHeartbeats 4000000
set_option maxRecDepth 20000
attribute [local go_sem] Base.some_undef
variable {w : World} {B : Zone} {g q : Nat} {v f bd t o : Value} {p : Nat} {b : Bd} {s : T}
theorem read_any (hp : p < 4294967296) (w : World) (a : Option Addr) (c : Nat) (l : List UInt8) (hl : Bts [] w a l) (hn : l.length ≤ 400000000) : Calls Tryz.prog 32 #[.int .u32 (p : Int), .agg #[.int .i64 b.x0, .int .i64 b.x1, .int .i64 b.x2, .int .i64 b.x3, .int .i64 b.x4, .int .i64 b.x5, .int .i64 b.x6, .int .i64 b.x7, .bool b.ch, .bool b.od], .slice a l.length c] w fun r w' =>
    ∃ o L B0, r = .returned (.tuple #[o, .int .i64 ((Q.read p b l).err : Int), .bool (Q.read p b l).clean]) ∧ Told L B0 w' o (Q.read p b l).out ∧ Below w.heap.size w w' := by
  have HB0 := Lib.hid (((Below.refl _ _).alloc (Nat.le_refl _) (.cells #[.int .i64 b.x0, .int .i64 b.x1, .int .i64 b.x2, .int .i64 b.x3, .int .i64 b.x4, .int .i64 b.x5, .int .i64 b.x6, .int .i64 b.x7, .bool b.ch, .bool b.od] 29)) : Below w.heap.size w _)
  have HZ0 := Lib.hid (Rec.Bk.new w w.heap.size rfl 29 [.int .i64 b.x0, .int .i64 b.x1, .int .i64 b.x2, .int .i64 b.x3, .int .i64 b.x4, .int .i64 b.x5, .int .i64 b.x6, .int .i64 b.x7, .bool b.ch, .bool b.od])
  have HSZ := Lib.hid (show w.heap.size < (w.alloc (.cells #[.int .i64 b.x0, .int .i64 b.x1, .int .i64 b.x2, .int .i64 b.x3, .int .i64 b.x4, .int .i64 b.x5, .int .i64 b.x6, .int .i64 b.x7, .bool b.ch, .bool b.od] 29)).heap.size by simp)
  have HL := Lib.hid hl; have HN := Lib.hid hn
  unfold Q.read
  obtain ⟨X, hX⟩ : ∃ X, Q.feed p b (Q.new p b) l = X := ⟨_, rfl⟩
  rw [hX]
  have HX := Lib.hid hX
  obtain ⟨m, hm⟩ : ∃ m, l.length = m := ⟨_, rfl⟩
  have HM := Lib.hid hm
  rw [hm]
  clear hl hn hm hX
  go_enter Tryz.func32, Tryz.ntmps32
  go_upto_region 1 with fail
  generalize w.alloc (.cells #[.int .i64 b.x0, .int .i64 b.x1, .int .i64 b.x2, .int .i64 b.x3, .int .i64 b.x4, .int .i64 b.x5, .int .i64 b.x6, .int .i64 b.x7, .bool b.ch, .bool b.od] 29) = W0 at *
  have y0 := HZ0.out.c 0 _ rfl; have y1 := HZ0.out.c 1 _ rfl; have y2 := HZ0.out.c 2 _ rfl; have y3 := HZ0.out.c 3 _ rfl; have y4 := HZ0.out.c 4 _ rfl; have y5 := HZ0.out.c 5 _ rfl; have y6 := HZ0.out.c 6 _ rfl; have y7 := HZ0.out.c 7 _ rfl; have y8 := HZ0.out.c 8 _ rfl; have y9 := HZ0.out.c 9 _ rfl
  have HNW := Lib.hid (new_any (b := b) hp W0)
  go_upto_region 2 with
    (go_at_call 20; with_reducible refine HNW.out.mono ?_; rintro r w1 ⟨g, L1, rfl, hg, hA, hb1⟩
     have HG := Lib.hid hg; have HA := Lib.hid hA; have HB1 := Lib.hid hb1
     clear hg hA hb1)
  have hlow := HA.out.low
  have hlA : Bts L1 w1 a l := by
    refine ⟨HL.out.nums.below (Base.below_step HB0.out HB1.out), fun ad e => ?_⟩
    have := (HL.out.far ad e).2
    refine ⟨fun hm => ?_, Nat.lt_of_lt_of_le this (Nat.le_trans (Nat.le_of_lt HSZ.out) HB1.out.size)⟩
    have : W0.heap.size ≤ ad.block := hlow _ hm
    have := HSZ.out
    omega
  have hpa := Parts.one (c := c) hlA HA.out.in 22
  rw [HM.out] at hpa
  have hb2 : Below w1.heap.size w1 (w1.alloc (.cells #[.slice a m c] 22)) := (Below.refl _ _).alloc (Nat.le_refl _) _
  have hfe := feed_any hp _ (HA.out.below hb2) (Q.new_ok p b) (some ⟨w1.heap.size, 0, none⟩) 1 [l] hpa (by simp) (by
    have h1 : (Q.new p b).out.length = 0 := by unfold Q.new; split <;> rfl
    have h2 := HN.out
    rw [h1]
    simp only [List.flatten_cons, List.flatten_nil, List.append_nil]
    omega)
  have efl : [l].flatten = l := by simp
  rw [efl] at hfe
  have HFE := Lib.hid (show Calls Tryz.prog 22 #[ptr g, .slice (some ⟨w1.heap.size, 0, none⟩) 1 1] (w1.alloc (.cells #[.slice a m c] 22)) fun r w' => ∃ o L', r = .returned o ∧ At w' ⟨W0.heap.size, []⟩ g p b L' (Q.feed p b (Q.new p b) l).told ∧ Told L' ⟨W0.heap.size, []⟩ w' o (Q.feed p b (Q.new p b) l).out ∧ Step L1 L' (w1.alloc (.cells #[.slice a m c] 22)) w' from hfe)
  have HLOW := Lib.hid hlow
  have HB2 := Lib.hid (Base.below_step (Base.below_step HB0.out HB1.out) hb2)
  rw [HX.out] at HFE
  clear hlA hpa hb2 hfe efl hlow y0 y1 y2 y3 y4 y5 y6 y7 y8 y9
  go_wp2_with (first
    | (go_at_call 30; with_reducible refine HC.out.mono ?_; rintro r w3 ⟨rfl, hw⟩; rw [hw]; clear hw)
    | (go_at_call 25; with_reducible refine HE.out.mono ?_; rintro r w3 ⟨rfl, hw⟩; rw [hw]; clear hw)
    | (go_at_call 22; with_reducible refine HFE.out.mono ?_; rintro r w3 ⟨o, L', rfl, hA3, hT3, hS3⟩
       have HE := Lib.hid (errq_any hA3); have HC := Lib.hid (cleanq_any hA3)
       rw [told_err] at HE; rw [told_clean] at HC
       have HT3 := Lib.hid hT3; have HS3 := Lib.hid hS3
       clear hA3 hT3 hS3))
  refine bodyPost_ret (v := .tuple #[o, .int .i64 (X.err : Int), .bool X.clean]) (by simp [results, Tryz.results32, go_sem]) rfl ?_
  refine ⟨_, _, _, rfl, HT3.out, HB2.out.trans (HS3.out.keeps.below HB2.out.size (fun k hk => ?_))⟩
  have := HLOW.out k hk
  have := HSZ.out
  omega
end code
theorem flat_at : ∀ (ps : List (Array Value × Rec.R)), (∀ x ∈ ps, x.1.size = 7) → ∀ k (hk : k < ps.length) j, j < 7 → (ps.flatMap (·.1.toList))[k * 7 + j]? = ps[k].1.toList[j]?
  | [], _, k, hk, _, _ => by cases hk
  | x :: ps, h, 0, _, j, hj => by
    have hx : x.1.toList.length = 7 := by simpa using h x (by simp)
    rw [List.flatMap_cons, List.getElem?_append_left (by omega), Nat.zero_mul, Nat.zero_add]
    rfl
  | x :: ps, h, k + 1, hk, j, hj => by
    have hx : x.1.toList.length = 7 := by simpa using h x (by simp)
    rw [List.flatMap_cons, List.getElem?_append_right (by omega), hx, show (k + 1) * 7 + j - 7 = k * 7 + j by omega]
    exact flat_at ps (fun y hy => h y (by simp [hy])) k (by simpa using hk) j hj
/-- Records that were told, one by one. -/
theorem Told.at {L : List (Option Nat)} {B : Zone} {w : World} {o : Value} {out : List Rec.R} (h : Told L B w o out) : ∃ a c, o = .slice a out.length c ∧ (0 < out.length → ∃ bk, a = some ⟨bk, 0, none⟩ ∧ bk < w.heap.size ∧
    ∀ k (hk : k < out.length), ∃ fa fc ba bc ta tc, Flds w fa out[k].fs.length out[k].fs ∧ Nums .u8 w ba out[k].body.length (out[k].body.map fun c => (c.toNat : Int)) ∧ Flds w ta out[k].ts.length out[k].ts ∧
      w.cell? ⟨bk, k * 7, none⟩ = some (.string out[k].m) ∧ w.cell? ⟨bk, k * 7 + 1, none⟩ = some (.string out[k].x) ∧ w.cell? ⟨bk, k * 7 + 2, none⟩ = some (.int .i64 out[k].k) ∧ w.cell? ⟨bk, k * 7 + 3, none⟩ = some (.slice fa out[k].fs.length fc) ∧
      w.cell? ⟨bk, k * 7 + 4, none⟩ = some (.bool out[k].ch) ∧ w.cell? ⟨bk, k * 7 + 5, none⟩ = some (.slice ba out[k].body.length bc) ∧ w.cell? ⟨bk, k * 7 + 6, none⟩ = some (.slice ta out[k].ts.length tc)) := by
  obtain ⟨ps, h1, h2, h3⟩ := h.outs
  obtain ⟨a, c, e, -⟩ := Ln.own_slice h3
  subst e
  refine ⟨a, c, rfl, fun h0 => ?_⟩
  obtain ⟨bk, cf, hform, -, hlt⟩ := h3.form h0
  simp only [Value.slice.injEq, true_and] at hform
  obtain ⟨rfl, rfl⟩ := hform
  refine ⟨bk, rfl, hlt, fun k hk => ?_⟩
  have hkp : k < ps.length := by rw [← h1, List.length_map] at hk; exact hk
  have hr : out[k] = ps[k].2 := by simp [← h1]
  obtain ⟨h7, hF⟩ := h2 ps[k] (List.getElem_mem hkp)
  obtain ⟨fa, fc, ba, bc, ta, tc, hV, f1, f2, f3⟩ := hF.reads
  have hcs : ps[k].1 = #[.string ps[k].2.m, .string ps[k].2.x, .int .i64 ps[k].2.k, .slice fa ps[k].2.fs.length fc, .bool ps[k].2.ch, .slice ba ps[k].2.body.length bc, .slice ta ps[k].2.ts.length tc] := by injection hV
  have key : ∀ j, j < 7 → w.cell? ⟨bk, k * 7 + j, none⟩ = ps[k].1.toList[j]? := by
    intro j hj
    have hc := h3.cellAt (k * 7 + j) (by omega)
    have e : (ps.flatMap (·.1.toList))[k * 7 + j]? = ps[k].1.toList[j]? := flat_at ps (fun x hx => (h2 x hx).1) k hkp j hj
    exact hc.trans e
  rw [hr]
  rw [hcs] at key
  exact ⟨fa, fc, ba, bc, ta, tc, f1, f2, f3, key 0 (by decide), key 1 (by decide), key 2 (by decide), key 3 (by decide), key 4 (by decide), key 5 (by decide), key 6 (by decide)⟩
end Go.Proofs.YtbineebnhjifiaaGreatDoor.Pg
/- Bytes -/
namespace Go.Proofs.YtbineebnhjifiaaGreatDoor.By
open Go.RowKit Base

/-- A block whose first cells are the bytes l, and may be written. -/
def Bytes (w : World) (g : Nat) (l : List UInt8) : Prop := ∀ j (h : j < l.length), w.cell? ⟨g, j, none⟩ = some (.int .u8 (l[j].toNat : Int)) ∧ w.frozen? ⟨g, j, none⟩ = false
theorem conv_bytes (s : ByteArray) (w : World) : ∃ W cap, (convert 9 22 (.string s)).run Tryz.prog w = .ok (.slice (some ⟨w.heap.size, 0, none⟩) s.size cap) W ∧ Bytes W w.heap.size s.data.toList ∧ w.heap.size < W.heap.size ∧ Below w.heap.size w W := by
  have hcv := run_bytes_of_string (P := Tryz.prog) w 9 22 5 s Tryz.underlying9 Tryz.underlying22 Tryz.underlying5
  refine ⟨_, _, hcv, fun j hj => ?_, by simp, (Below.refl _ _).drew.alloc (Nat.le_refl _) _⟩
  have hj' : j < s.data.size := by simpa using hj
  refine ⟨(World.cell?_alloc_mark w.drew _ _ _ j).trans (bytesRow_at s _ j hj'), (World.frozen?_alloc_mark w.drew _ _ _ _ j).trans ?_⟩
  have : ¬ (bytesRow s (grownCap w s.size 0 5)).size ≤ j := by
    unfold bytesRow
    rw [Array.size_append, Array.size_map]; omega
  simp [this]
end Go.Proofs.YtbineebnhjifiaaGreatDoor.By
/- PgSaid -/
namespace Go.Proofs.YtbineebnhjifiaaGreatDoor.Pg
open Go.RowKit Base Txt Mem Par

abbrev usual : Bd := ⟨1024, 32, 8192, 65536, 32, 8, 4, 20, true, true⟩
abbrev bdV (b : Bd) : Value := .agg #[.int .i64 b.x0, .int .i64 b.x1, .int .i64 b.x2, .int .i64 b.x3, .int .i64 b.x4, .int .i64 b.x5, .int .i64 b.x6, .int .i64 b.x7, .bool b.ch, .bool b.od]
/-- A record at a place of a block. -/
def RecAt (w : World) (bk j : Nat) (r : Rec.R) : Prop := ∃ fa fc ba bc ta tc, Flds w fa r.fs.length r.fs ∧ Nums .u8 w ba r.body.length (r.body.map fun c => (c.toNat : Int)) ∧ Flds w ta r.ts.length r.ts ∧
  w.cell? ⟨bk, j, none⟩ = some (.string r.m) ∧ w.cell? ⟨bk, j + 1, none⟩ = some (.string r.x) ∧ w.cell? ⟨bk, j + 2, none⟩ = some (.int .i64 r.k) ∧ w.cell? ⟨bk, j + 3, none⟩ = some (.slice fa r.fs.length fc) ∧
  w.cell? ⟨bk, j + 4, none⟩ = some (.bool r.ch) ∧ w.cell? ⟨bk, j + 5, none⟩ = some (.slice ba r.body.length bc) ∧ w.cell? ⟨bk, j + 6, none⟩ = some (.slice ta r.ts.length tc)
/-- A slice of records. -/
def Said (w : World) (o : Value) (out : List Rec.R) : Prop := ∃ a c, o = .slice a out.length c ∧ (0 < out.length → ∃ bk, a = some ⟨bk, 0, none⟩ ∧ bk < w.heap.size ∧ ∀ k (hk : k < out.length), RecAt w bk (k * 7) out[k])
theorem Told.said {L : List (Option Nat)} {B : Zone} {w : World} {o : Value} {out : List Rec.R} (h : Told L B w o out) : Said w o out := h.at
theorem RecAt.below {w w' : World} {bk j : Nat} {r : Rec.R} (h : RecAt w bk j r) (hlt : bk < w.heap.size) (hb : Below w.heap.size w w') : RecAt w' bk j r := by
  obtain ⟨fa, fc, ba, bc, ta, tc, f1, f2, f3, c0, c1, c2, c3, c4, c5, c6⟩ := h
  exact ⟨fa, fc, ba, bc, ta, tc, f1.below hb, f2.below hb, f3.below hb, (hb.cell (p := ⟨bk, j, none⟩) hlt).trans c0, (hb.cell (p := ⟨bk, j + 1, none⟩) hlt).trans c1, (hb.cell (p := ⟨bk, j + 2, none⟩) hlt).trans c2, (hb.cell (p := ⟨bk, j + 3, none⟩) hlt).trans c3, (hb.cell (p := ⟨bk, j + 4, none⟩) hlt).trans c4, (hb.cell (p := ⟨bk, j + 5, none⟩) hlt).trans c5, (hb.cell (p := ⟨bk, j + 6, none⟩) hlt).trans c6⟩
theorem Said.below {w w' : World} {o : Value} {out : List Rec.R} (h : Said w o out) (hb : Below w.heap.size w w') : Said w' o out := by
  obtain ⟨a, c, e, hc⟩ := h
  refine ⟨a, c, e, fun h0 => ?_⟩
  obtain ⟨bk, e1, hlt, h1⟩ := hc h0
  exact ⟨bk, e1, Nat.lt_of_lt_of_le hlt hb.size, fun k hk => (h1 k hk).below hlt hb⟩
abbrev bytesV (l : List UInt8) : Array Value := (l.map fun c => Value.int .u8 (c.toNat : Int)).toArray
/-- Bytes written out, in a block that was made last. -/
theorem Bts.lit {L : List (Option Nat)} {w : World} (hin : In w L) (l : List UInt8) (V : Array Value) (hV : V = bytesV l) (ty : TypeId) (fr : Nat × Nat) : Bts L (w.alloc (.cells V ty fr)) (some ⟨w.heap.size, 0, none⟩) l := by
  subst hV
  refine ⟨⟨by simp, fun h0 => ⟨w.heap.size, 0, rfl, by simp, fun k hk => ?_⟩⟩, fun ad e => ?_⟩
  · rw [Nat.zero_add, cell_of_row _ _ k _ ty fr (heap_alloc_new _ _)]
    simp [bytesV, hk]
  · obtain rfl : ad = ⟨w.heap.size, 0, none⟩ := by simpa using e.symm
    exact ⟨fun hm => by have : w.heap.size < w.heap.size := hin _ hm; omega, by simp⟩
theorem Bts.alloc {L : List (Option Nat)} {w : World} {a : Option Addr} {l : List UInt8} (h : Bts L w a l) (o : Obj) : Bts L (w.alloc o) a l := h.step (Step.of_below ((Below.refl _ _).alloc (Nat.le_refl _) _))
/-- Bytes of a text. -/
theorem Bts.conv {L : List (Option Nat)} {w W : World} (hin : In w L) (s : ByteArray) (hb : By.Bytes W w.heap.size s.data.toList) (hlt : w.heap.size < W.heap.size) : Bts L W (some ⟨w.heap.size, 0, none⟩) s.data.toList := by
  refine ⟨⟨by simp, fun h0 => ⟨w.heap.size, 0, rfl, hlt, fun k hk => ?_⟩⟩, fun ad e => ?_⟩
  · rw [Nat.zero_add, (hb k hk).1, List.getElem?_map, List.getElem?_eq_getElem hk]
    rfl
  · obtain rfl : ad = ⟨w.heap.size, 0, none⟩ := by simpa using e.symm
    exact ⟨fun hm => by have : w.heap.size < w.heap.size := hin _ hm; omega, hlt⟩
theorem Parts.two {L : List (Option Nat)} {w : World} {a a' : Option Addr} {c c' : Nat} {l l' : List UInt8} (h : Bts L w a l) (h' : Bts L w a' l') (hin : In w L) (ty : TypeId) : Parts L (w.alloc (.cells #[.slice a l.length c, .slice a' l'.length c'] ty)) (some ⟨w.heap.size, 0, none⟩) [l, l'] := by
  have hb : Below w.heap.size w (w.alloc (.cells #[.slice a l.length c, .slice a' l'.length c'] ty)) := (Below.refl _ _).alloc (Nat.le_refl _) _
  refine ⟨fun _ => ⟨w.heap.size, 0, rfl, by simp, fun hm => by have := hin _ hm; omega, fun k hk => ?_⟩⟩
  have hk : k < 2 := hk
  have hr := fun j => cell_of_row (w.alloc (.cells #[.slice a l.length c, .slice a' l'.length c'] ty)) w.heap.size j _ ty (0, 0) (heap_alloc_new w _)
  rcases (by omega : k = 0 ∨ k = 1) with rfl | rfl
  · exact ⟨a, c, (hr 0).trans rfl, h.step (Step.of_below hb)⟩
  · exact ⟨a', c', (hr 1).trans rfl, h'.step (Step.of_below hb)⟩
theorem in_alloc {L : List (Option Nat)} {w : World} (h : In w L) (o : Obj) : In (w.alloc o) L := h.mono (by simp)
theorem in_nil (w : World) : In w [] := fun k hk => by cases hk
/-- A reading of bytes that are known. -/
theorem read_said {p : Nat} (hp : p < 4294967296) (b : Bd) (w : World) (a : Option Addr) (c : Nat) (l : List UInt8) (hl : Bts [] w a l) (hn : l.length ≤ 400000000) (e : Nat) (cl : Bool) (out : List Rec.R) (he : (Q.read p b l).err = e) (hc : (Q.read p b l).clean = cl) (ho : (Q.read p b l).out = out) : Calls Tryz.prog 32 #[.int .u32 (p : Int), bdV b, .slice a l.length c] w fun r w' =>
    ∃ o, r = .returned (.tuple #[o, .int .i64 (e : Int), .bool cl]) ∧ Said w' o out ∧ Below w.heap.size w w' := by
  refine (read_any (b := b) hp w a c l hl hn).mono ?_
  rintro r w' ⟨o, L, B0, rfl, hT, hb⟩
  rw [he, hc]
  rw [ho] at hT
  exact ⟨o, rfl, hT.said, hb⟩
end Go.Proofs.YtbineebnhjifiaaGreatDoor.Pg
