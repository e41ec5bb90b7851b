/-
  Layer 9 (field): the document's Right: it answers the same as package field's. (Its walks are printed by tools/gen_rright.py.)
-/
import Derived.Test.YtmbjnolikofaoaaFieldRef
namespace Go.Proofs.Ytmbjnolikofaoaa.Fd
open Go.RowKit Base Txt Tgt

section code
set_option maxHeartbeats 4000000
set_option maxRecDepth 100000
attribute [local go_sem] Base.some_undef
theorem rright_any (n v : ByteArray) (w : World) (hn : n.size ≤ 1000000000) (hv : v.size ≤ 1000000000) : Calls Try.prog 20 #[fv n v] w fun e w' => e = .returned (.bool (right n.data.toList v.data.toList)) ∧ Below w.heap.size w w' := by
  have HN := Lib.hid (fun w a (hk : Ints w a 1 [1]) => Oct.rall_any n a 1 1 [1] w (by unfold maxLen; omega) hk (by decide))
  have HV := Lib.hid (fun w a (hk : Ints w a 1 [6]) => Oct.rall_any v a 1 1 [6] w (by unfold maxLen; omega) hk (by decide))
  have HT := Lib.hid (fun w => rtrim_any v w (by unfold maxLen; omega))
  have HX := Lib.hid ((Keep.new w 25 n v).drew 1)
  unfold right
  rw [show decide (trimL Txt.blank v.data.toList = v.data.toList) = decide (trim v = v) by
    rw [Bool.eq_iff_iff, decide_eq_true_eq, decide_eq_true_eq]
    exact ⟨fun h => ba_ext (by rw [trim, trimB_list]; exact h), fun h => congrArg (fun x : ByteArray => x.data.toList) h⟩]
  generalize Oct.allOf [1] n.data.toList = tn at *
  generalize Oct.allOf [6] v.data.toList = tv at *
  rcases Nat.eq_zero_or_pos n.size with h0 | h0
  · obtain rfl : n = E0 := ba_ext (List.length_eq_zero_iff.1 (by rw [len]; exact h0))
    clear hn hv h0
    go_enter Try.func20, Try.ntmps20
    go_wp2_with fail
    refine Sched.region [(0, false), (1, false), (2, false), (3, false), (4, false), (5, false), (6, true), (7, true), (8, false), (9, false), (10, false), (11, false), (12, true), (13, true), (14, false), (15, false), (16, false), (17, false), (19, false), (20, false), (18, true), (21, false), (22, false), (23, false)] (fun w' => Keep w E0 v w') (by kernel_rfl) (by kernel_rfl) (fun _ _ d _ _ h => by cases d <;> exact h) HX.out ?_
    simp only [Sched.picked, List.filterMap_cons, List.filterMap_nil, List.getElem?_cons_zero, List.getElem?_cons_succ, Option.map_some]
    generalize World.drewN (w.alloc (.cells #[.string E0, .string v] 25)) 1 = W at *
    refine Sched.quiet (by rfl) ?_ ?_ ?_
    rotate_left 1
    · intro w' hS
      obtain ⟨⟨q0, q1, q2, q3⟩, _, _⟩ := hS
      go_simp
      with_reducible rfl
    simp only [Act.put, List.setIfInBounds_toArray, List.set_cons_zero, List.set_cons_succ]
    refine Sched.quiet (by rfl) ?_ ?_ ?_
    rotate_left 1
    · intro w' hS
      obtain ⟨⟨q0, q1, q2, q3⟩, _, _⟩ := hS
      go_simp
      with_reducible rfl
    simp only [Act.put, List.setIfInBounds_toArray, List.set_cons_zero, List.set_cons_succ]
    refine Sched.quiet (by rfl) ?_ ?_ ?_
    rotate_left 1
    · intro w' hS
      obtain ⟨⟨q0, q1, q2, q3⟩, _, _⟩ := hS
      go_simp
      with_reducible rfl
    simp only [Act.put, List.setIfInBounds_toArray, List.set_cons_zero, List.set_cons_succ]
    refine Sched.quiet (by rfl) ?_ ?_ ?_
    rotate_left 1
    · intro w' hS
      obtain ⟨⟨q0, q1, q2, q3⟩, _, _⟩ := hS
      go_simp
      with_reducible rfl
    simp only [Act.put, List.setIfInBounds_toArray, List.set_cons_zero, List.set_cons_succ]
    refine Sched.skip (by rfl) ?_
    simp only [Act.put, List.setIfInBounds_toArray, List.set_cons_zero, List.set_cons_succ]
    refine Sched.skip (by rfl) ?_
    simp only [Act.put, List.setIfInBounds_toArray, List.set_cons_zero, List.set_cons_succ]
    refine Sched.skip (by rfl) ?_
    simp only [Act.put, List.setIfInBounds_toArray, List.set_cons_zero, List.set_cons_succ]
    refine Sched.skip (by rfl) ?_
    simp only [Act.put, List.setIfInBounds_toArray, List.set_cons_zero, List.set_cons_succ]
    refine Sched.quiet (by rfl) ?_ ?_ ?_
    rotate_left 1
    · intro w' hS
      obtain ⟨⟨q0, q1, q2, q3⟩, _, _⟩ := hS
      go_simp
      with_reducible rfl
    simp only [Act.put, List.setIfInBounds_toArray, List.set_cons_zero, List.set_cons_succ]
    refine Sched.quiet (by rfl) ?_ ?_ ?_
    rotate_left 1
    · intro w' hS
      obtain ⟨⟨q0, q1, q2, q3⟩, _, _⟩ := hS
      go_simp
      with_reducible rfl
    simp only [Act.put, List.setIfInBounds_toArray, List.set_cons_zero, List.set_cons_succ]
    refine Sched.skip (by rfl) ?_
    simp only [Act.put, List.setIfInBounds_toArray, List.set_cons_zero, List.set_cons_succ]
    refine Sched.skip (by rfl) ?_
    simp only [Act.put, List.setIfInBounds_toArray, List.set_cons_zero, List.set_cons_succ]
    refine Sched.skip (by rfl) ?_
    simp only [Act.put, List.setIfInBounds_toArray, List.set_cons_zero, List.set_cons_succ]
    refine Sched.skip (by rfl) ?_
    simp only [Act.put, List.setIfInBounds_toArray, List.set_cons_zero, List.set_cons_succ]
    refine Sched.quiet (by rfl) ?_ ?_ ?_
    rotate_left 1
    · intro w' hS
      obtain ⟨⟨q0, q1, q2, q3⟩, _, _⟩ := hS
      go_simp
      with_reducible rfl
    simp only [Act.put, List.setIfInBounds_toArray, List.set_cons_zero, List.set_cons_succ]
    refine Sched.quiet (by rfl) ?_ ?_ ?_
    rotate_left 1
    · intro w' hS
      obtain ⟨⟨q0, q1, q2, q3⟩, _, _⟩ := hS
      go_simp
      with_reducible rfl
    simp only [Act.put, List.setIfInBounds_toArray, List.set_cons_zero, List.set_cons_succ]
    refine Sched.skip (by rfl) ?_
    simp only [Act.put, List.setIfInBounds_toArray, List.set_cons_zero, List.set_cons_succ]
    refine Sched.skip (by rfl) ?_
    simp only [Act.put, List.setIfInBounds_toArray, List.set_cons_zero, List.set_cons_succ]
    refine Sched.skip (by rfl) ?_
    simp only [Act.put, List.setIfInBounds_toArray, List.set_cons_zero, List.set_cons_succ]
    refine Sched.skip (by rfl) ?_
    simp only [Act.put, List.setIfInBounds_toArray, List.set_cons_zero, List.set_cons_succ]
    refine Sched.skip (by rfl) ?_
    simp only [Act.put, List.setIfInBounds_toArray, List.set_cons_zero, List.set_cons_succ]
    refine Sched.skip (by rfl) ?_
    simp only [Act.put, List.setIfInBounds_toArray, List.set_cons_zero, List.set_cons_succ]
    refine Sched.quiet (by rfl) ?_ ?_ ?_
    rotate_left 1
    · intro w' hS
      obtain ⟨⟨q0, q1, q2, q3⟩, _, _⟩ := hS
      go_simp
      with_reducible rfl
    simp only [Act.put, List.setIfInBounds_toArray, List.set_cons_zero, List.set_cons_succ]
    refine Sched.quiet (by rfl) ?_ ?_ ?_
    rotate_left 1
    · intro w' hS
      obtain ⟨⟨q0, q1, q2, q3⟩, _, _⟩ := hS
      go_simp
      with_reducible rfl
    simp only [Act.put, List.setIfInBounds_toArray, List.set_cons_zero, List.set_cons_succ]
    refine Sched.done ?_
    have hbk := HX.out.b
    go_wp2
    go_ret
    exact ⟨by rfl, hbk⟩
  have t0 := first_no n h0
  have e1 : n.data.toList.isEmpty = false := by rw [← Lib.toList_data]; exact t0
  rw [e1]
  clear e1 h0 hn hv
  cases tn with
  | false =>
    go_enter Try.func20, Try.ntmps20
    go_wp2_with fail
    refine Sched.region [(0, false), (1, false), (2, false), (3, false), (4, false), (5, false), (6, true), (7, true), (8, false), (9, false), (10, false), (11, false), (12, true), (13, true), (14, false), (15, false), (16, false), (17, false), (19, false), (20, false), (18, true), (21, false), (22, false), (23, false)] (fun w' => Keep w n v w') (by kernel_rfl) (by kernel_rfl) (fun _ _ d _ _ h => by cases d <;> exact h) HX.out ?_
    simp only [Sched.picked, List.filterMap_cons, List.filterMap_nil, List.getElem?_cons_zero, List.getElem?_cons_succ, Option.map_some]
    generalize World.drewN (w.alloc (.cells #[.string n, .string v] 25)) 1 = W at *
    refine Sched.quiet (by rfl) ?_ ?_ ?_
    rotate_left 1
    · intro w' hS
      obtain ⟨⟨q0, q1, q2, q3⟩, _, _⟩ := hS
      go_simp
      with_reducible rfl
    simp only [Act.put, List.setIfInBounds_toArray, List.set_cons_zero, List.set_cons_succ]
    refine Sched.quiet (by rfl) ?_ ?_ ?_
    rotate_left 1
    · intro w' hS
      obtain ⟨⟨q0, q1, q2, q3⟩, _, _⟩ := hS
      go_simp
      with_reducible rfl
    simp only [Act.put, List.setIfInBounds_toArray, List.set_cons_zero, List.set_cons_succ]
    refine Sched.quiet (by rfl) ?_ ?_ ?_
    rotate_left 1
    · intro w' hS
      obtain ⟨⟨q0, q1, q2, q3⟩, _, _⟩ := hS
      go_simp
      with_reducible rfl
    simp only [Act.put, List.setIfInBounds_toArray, List.set_cons_zero, List.set_cons_succ]
    refine Sched.quiet (by rfl) ?_ ?_ ?_
    rotate_left 1
    · intro w' hS
      obtain ⟨⟨q0, q1, q2, q3⟩, _, _⟩ := hS
      go_simp
      with_reducible rfl
    simp only [Act.put, List.setIfInBounds_toArray, List.set_cons_zero, List.set_cons_succ]
    refine Sched.quiet (by rfl) ?_ ?_ ?_
    rotate_left 1
    · intro w' hS
      obtain ⟨⟨q0, q1, q2, q3⟩, _, _⟩ := hS
      go_simp
      with_reducible rfl
    simp only [Act.put, List.setIfInBounds_toArray, List.set_cons_zero, List.set_cons_succ]
    refine Sched.quiet (by rfl) ?_ ?_ ?_
    rotate_left 1
    · intro w' hS
      obtain ⟨⟨q0, q1, q2, q3⟩, _, _⟩ := hS
      go_simp
      with_reducible rfl
    simp only [Act.put, List.setIfInBounds_toArray, List.set_cons_zero, List.set_cons_succ]
    refine Sched.change (by rfl) (fun K hK => ?_)
    go_simp
    replace HX := Lib.hid (HX.out.step ((Below.refl _ _).alloc (Nat.le_refl _) (.cells #[.int .i64 1] 3)))
    refine hK _ _ HX.out ?_
    clear hK K
    refine Sched.change (by rfl) (fun K hK => ?_)
    go_simp
    (with_reducible refine (HN.out _ _ (Ints.one _ _ rfl _ _)).mono ?_)
    rintro e w1 ⟨rfl, m, hw⟩
    replace HX := Lib.hid (HX.out.drew m)
    rw [← hw] at HX
    dsimp only
    refine hK _ _ HX.out ?_
    clear hK K hw m
    refine Sched.quiet (by rfl) ?_ ?_ ?_
    rotate_left 1
    · intro w' hS
      obtain ⟨⟨q0, q1, q2, q3⟩, _, _⟩ := hS
      go_simp
      with_reducible rfl
    simp only [Act.put, List.setIfInBounds_toArray, List.set_cons_zero, List.set_cons_succ]
    refine Sched.quiet (by rfl) ?_ ?_ ?_
    rotate_left 1
    · intro w' hS
      obtain ⟨⟨q0, q1, q2, q3⟩, _, _⟩ := hS
      go_simp
      with_reducible rfl
    simp only [Act.put, List.setIfInBounds_toArray, List.set_cons_zero, List.set_cons_succ]
    refine Sched.skip (by rfl) ?_
    simp only [Act.put, List.setIfInBounds_toArray, List.set_cons_zero, List.set_cons_succ]
    refine Sched.skip (by rfl) ?_
    simp only [Act.put, List.setIfInBounds_toArray, List.set_cons_zero, List.set_cons_succ]
    refine Sched.skip (by rfl) ?_
    simp only [Act.put, List.setIfInBounds_toArray, List.set_cons_zero, List.set_cons_succ]
    refine Sched.skip (by rfl) ?_
    simp only [Act.put, List.setIfInBounds_toArray, List.set_cons_zero, List.set_cons_succ]
    refine Sched.quiet (by rfl) ?_ ?_ ?_
    rotate_left 1
    · intro w' hS
      obtain ⟨⟨q0, q1, q2, q3⟩, _, _⟩ := hS
      go_simp
      with_reducible rfl
    simp only [Act.put, List.setIfInBounds_toArray, List.set_cons_zero, List.set_cons_succ]
    refine Sched.quiet (by rfl) ?_ ?_ ?_
    rotate_left 1
    · intro w' hS
      obtain ⟨⟨q0, q1, q2, q3⟩, _, _⟩ := hS
      go_simp
      with_reducible rfl
    simp only [Act.put, List.setIfInBounds_toArray, List.set_cons_zero, List.set_cons_succ]
    refine Sched.skip (by rfl) ?_
    simp only [Act.put, List.setIfInBounds_toArray, List.set_cons_zero, List.set_cons_succ]
    refine Sched.skip (by rfl) ?_
    simp only [Act.put, List.setIfInBounds_toArray, List.set_cons_zero, List.set_cons_succ]
    refine Sched.skip (by rfl) ?_
    simp only [Act.put, List.setIfInBounds_toArray, List.set_cons_zero, List.set_cons_succ]
    refine Sched.skip (by rfl) ?_
    simp only [Act.put, List.setIfInBounds_toArray, List.set_cons_zero, List.set_cons_succ]
    refine Sched.skip (by rfl) ?_
    simp only [Act.put, List.setIfInBounds_toArray, List.set_cons_zero, List.set_cons_succ]
    refine Sched.skip (by rfl) ?_
    simp only [Act.put, List.setIfInBounds_toArray, List.set_cons_zero, List.set_cons_succ]
    refine Sched.quiet (by rfl) ?_ ?_ ?_
    rotate_left 1
    · intro w' hS
      obtain ⟨⟨q0, q1, q2, q3⟩, _, _⟩ := hS
      go_simp
      with_reducible rfl
    simp only [Act.put, List.setIfInBounds_toArray, List.set_cons_zero, List.set_cons_succ]
    refine Sched.quiet (by rfl) ?_ ?_ ?_
    rotate_left 1
    · intro w' hS
      obtain ⟨⟨q0, q1, q2, q3⟩, _, _⟩ := hS
      go_simp
      with_reducible rfl
    simp only [Act.put, List.setIfInBounds_toArray, List.set_cons_zero, List.set_cons_succ]
    refine Sched.done ?_
    have hbk := HX.out.b
    go_wp2
    go_ret
    exact ⟨by rfl, hbk⟩
  | true =>
    cases tv with
    | false =>
      go_enter Try.func20, Try.ntmps20
      go_wp2_with fail
      refine Sched.region [(0, false), (1, false), (2, false), (3, false), (4, false), (5, false), (6, true), (7, true), (8, false), (9, false), (10, false), (11, false), (12, true), (13, true), (14, false), (15, false), (16, false), (17, false), (19, false), (20, false), (18, true), (21, false), (22, false), (23, false)] (fun w' => Keep w n v w') (by kernel_rfl) (by kernel_rfl) (fun _ _ d _ _ h => by cases d <;> exact h) HX.out ?_
      simp only [Sched.picked, List.filterMap_cons, List.filterMap_nil, List.getElem?_cons_zero, List.getElem?_cons_succ, Option.map_some]
      generalize World.drewN (w.alloc (.cells #[.string n, .string v] 25)) 1 = W at *
      refine Sched.quiet (by rfl) ?_ ?_ ?_
      rotate_left 1
      · intro w' hS
        obtain ⟨⟨q0, q1, q2, q3⟩, _, _⟩ := hS
        go_simp
        with_reducible rfl
      simp only [Act.put, List.setIfInBounds_toArray, List.set_cons_zero, List.set_cons_succ]
      refine Sched.quiet (by rfl) ?_ ?_ ?_
      rotate_left 1
      · intro w' hS
        obtain ⟨⟨q0, q1, q2, q3⟩, _, _⟩ := hS
        go_simp
        with_reducible rfl
      simp only [Act.put, List.setIfInBounds_toArray, List.set_cons_zero, List.set_cons_succ]
      refine Sched.quiet (by rfl) ?_ ?_ ?_
      rotate_left 1
      · intro w' hS
        obtain ⟨⟨q0, q1, q2, q3⟩, _, _⟩ := hS
        go_simp
        with_reducible rfl
      simp only [Act.put, List.setIfInBounds_toArray, List.set_cons_zero, List.set_cons_succ]
      refine Sched.quiet (by rfl) ?_ ?_ ?_
      rotate_left 1
      · intro w' hS
        obtain ⟨⟨q0, q1, q2, q3⟩, _, _⟩ := hS
        go_simp
        with_reducible rfl
      simp only [Act.put, List.setIfInBounds_toArray, List.set_cons_zero, List.set_cons_succ]
      refine Sched.quiet (by rfl) ?_ ?_ ?_
      rotate_left 1
      · intro w' hS
        obtain ⟨⟨q0, q1, q2, q3⟩, _, _⟩ := hS
        go_simp
        with_reducible rfl
      simp only [Act.put, List.setIfInBounds_toArray, List.set_cons_zero, List.set_cons_succ]
      refine Sched.quiet (by rfl) ?_ ?_ ?_
      rotate_left 1
      · intro w' hS
        obtain ⟨⟨q0, q1, q2, q3⟩, _, _⟩ := hS
        go_simp
        with_reducible rfl
      simp only [Act.put, List.setIfInBounds_toArray, List.set_cons_zero, List.set_cons_succ]
      refine Sched.change (by rfl) (fun K hK => ?_)
      go_simp
      replace HX := Lib.hid (HX.out.step ((Below.refl _ _).alloc (Nat.le_refl _) (.cells #[.int .i64 1] 3)))
      refine hK _ _ HX.out ?_
      clear hK K
      refine Sched.change (by rfl) (fun K hK => ?_)
      go_simp
      (with_reducible refine (HN.out _ _ (Ints.one _ _ rfl _ _)).mono ?_)
      rintro e w1 ⟨rfl, m, hw⟩
      replace HX := Lib.hid (HX.out.drew m)
      rw [← hw] at HX
      dsimp only
      refine hK _ _ HX.out ?_
      clear hK K hw m
      refine Sched.quiet (by rfl) ?_ ?_ ?_
      rotate_left 1
      · intro w' hS
        obtain ⟨⟨q0, q1, q2, q3⟩, _, _⟩ := hS
        go_simp
        with_reducible rfl
      simp only [Act.put, List.setIfInBounds_toArray, List.set_cons_zero, List.set_cons_succ]
      refine Sched.quiet (by rfl) ?_ ?_ ?_
      rotate_left 1
      · intro w' hS
        obtain ⟨⟨q0, q1, q2, q3⟩, _, _⟩ := hS
        go_simp
        with_reducible rfl
      simp only [Act.put, List.setIfInBounds_toArray, List.set_cons_zero, List.set_cons_succ]
      refine Sched.quiet (by rfl) ?_ ?_ ?_
      rotate_left 1
      · intro w' hS
        obtain ⟨⟨q0, q1, q2, q3⟩, _, _⟩ := hS
        go_simp
        with_reducible rfl
      simp only [Act.put, List.setIfInBounds_toArray, List.set_cons_zero, List.set_cons_succ]
      refine Sched.quiet (by rfl) ?_ ?_ ?_
      rotate_left 1
      · intro w' hS
        obtain ⟨⟨q0, q1, q2, q3⟩, _, _⟩ := hS
        go_simp
        with_reducible rfl
      simp only [Act.put, List.setIfInBounds_toArray, List.set_cons_zero, List.set_cons_succ]
      refine Sched.change (by rfl) (fun K hK => ?_)
      go_simp
      replace HX := Lib.hid (HX.out.step ((Below.refl _ _).alloc (Nat.le_refl _) (.cells #[.int .i64 6] 3)))
      refine hK _ _ HX.out ?_
      clear hK K
      refine Sched.change (by rfl) (fun K hK => ?_)
      go_simp
      (with_reducible refine (HV.out _ _ (Ints.one _ _ rfl _ _)).mono ?_)
      rintro e w1 ⟨rfl, m, hw⟩
      replace HX := Lib.hid (HX.out.drew m)
      rw [← hw] at HX
      dsimp only
      refine hK _ _ HX.out ?_
      clear hK K hw m
      refine Sched.quiet (by rfl) ?_ ?_ ?_
      rotate_left 1
      · intro w' hS
        obtain ⟨⟨q0, q1, q2, q3⟩, _, _⟩ := hS
        go_simp
        with_reducible rfl
      simp only [Act.put, List.setIfInBounds_toArray, List.set_cons_zero, List.set_cons_succ]
      refine Sched.quiet (by rfl) ?_ ?_ ?_
      rotate_left 1
      · intro w' hS
        obtain ⟨⟨q0, q1, q2, q3⟩, _, _⟩ := hS
        go_simp
        with_reducible rfl
      simp only [Act.put, List.setIfInBounds_toArray, List.set_cons_zero, List.set_cons_succ]
      refine Sched.skip (by rfl) ?_
      simp only [Act.put, List.setIfInBounds_toArray, List.set_cons_zero, List.set_cons_succ]
      refine Sched.skip (by rfl) ?_
      simp only [Act.put, List.setIfInBounds_toArray, List.set_cons_zero, List.set_cons_succ]
      refine Sched.skip (by rfl) ?_
      simp only [Act.put, List.setIfInBounds_toArray, List.set_cons_zero, List.set_cons_succ]
      refine Sched.skip (by rfl) ?_
      simp only [Act.put, List.setIfInBounds_toArray, List.set_cons_zero, List.set_cons_succ]
      refine Sched.skip (by rfl) ?_
      simp only [Act.put, List.setIfInBounds_toArray, List.set_cons_zero, List.set_cons_succ]
      refine Sched.skip (by rfl) ?_
      simp only [Act.put, List.setIfInBounds_toArray, List.set_cons_zero, List.set_cons_succ]
      refine Sched.quiet (by rfl) ?_ ?_ ?_
      rotate_left 1
      · intro w' hS
        obtain ⟨⟨q0, q1, q2, q3⟩, _, _⟩ := hS
        go_simp
        with_reducible rfl
      simp only [Act.put, List.setIfInBounds_toArray, List.set_cons_zero, List.set_cons_succ]
      refine Sched.quiet (by rfl) ?_ ?_ ?_
      rotate_left 1
      · intro w' hS
        obtain ⟨⟨q0, q1, q2, q3⟩, _, _⟩ := hS
        go_simp
        with_reducible rfl
      simp only [Act.put, List.setIfInBounds_toArray, List.set_cons_zero, List.set_cons_succ]
      refine Sched.done ?_
      have hbk := HX.out.b
      go_wp2
      go_ret
      exact ⟨by rfl, hbk⟩
    | true =>
      have g := Ls.toList_iff (trim v) v
      by_cases h : trim v = v
      · rw [h] at HT
        rw [decide_eq_true h]
        clear g h
        go_enter Try.func20, Try.ntmps20
        go_wp2_with fail
        refine Sched.region [(0, false), (1, false), (2, false), (3, false), (4, false), (5, false), (6, true), (7, true), (8, false), (9, false), (10, false), (11, false), (12, true), (13, true), (14, false), (15, false), (16, false), (17, false), (19, false), (20, false), (18, true), (21, false), (22, false), (23, false)] (fun w' => Keep w n v w') (by kernel_rfl) (by kernel_rfl) (fun _ _ d _ _ h => by cases d <;> exact h) HX.out ?_
        simp only [Sched.picked, List.filterMap_cons, List.filterMap_nil, List.getElem?_cons_zero, List.getElem?_cons_succ, Option.map_some]
        generalize World.drewN (w.alloc (.cells #[.string n, .string v] 25)) 1 = W at *
        refine Sched.quiet (by rfl) ?_ ?_ ?_
        rotate_left 1
        · intro w' hS
          obtain ⟨⟨q0, q1, q2, q3⟩, _, _⟩ := hS
          go_simp
          with_reducible rfl
        simp only [Act.put, List.setIfInBounds_toArray, List.set_cons_zero, List.set_cons_succ]
        refine Sched.quiet (by rfl) ?_ ?_ ?_
        rotate_left 1
        · intro w' hS
          obtain ⟨⟨q0, q1, q2, q3⟩, _, _⟩ := hS
          go_simp
          with_reducible rfl
        simp only [Act.put, List.setIfInBounds_toArray, List.set_cons_zero, List.set_cons_succ]
        refine Sched.quiet (by rfl) ?_ ?_ ?_
        rotate_left 1
        · intro w' hS
          obtain ⟨⟨q0, q1, q2, q3⟩, _, _⟩ := hS
          go_simp
          with_reducible rfl
        simp only [Act.put, List.setIfInBounds_toArray, List.set_cons_zero, List.set_cons_succ]
        refine Sched.quiet (by rfl) ?_ ?_ ?_
        rotate_left 1
        · intro w' hS
          obtain ⟨⟨q0, q1, q2, q3⟩, _, _⟩ := hS
          go_simp
          with_reducible rfl
        simp only [Act.put, List.setIfInBounds_toArray, List.set_cons_zero, List.set_cons_succ]
        refine Sched.quiet (by rfl) ?_ ?_ ?_
        rotate_left 1
        · intro w' hS
          obtain ⟨⟨q0, q1, q2, q3⟩, _, _⟩ := hS
          go_simp
          with_reducible rfl
        simp only [Act.put, List.setIfInBounds_toArray, List.set_cons_zero, List.set_cons_succ]
        refine Sched.quiet (by rfl) ?_ ?_ ?_
        rotate_left 1
        · intro w' hS
          obtain ⟨⟨q0, q1, q2, q3⟩, _, _⟩ := hS
          go_simp
          with_reducible rfl
        simp only [Act.put, List.setIfInBounds_toArray, List.set_cons_zero, List.set_cons_succ]
        refine Sched.change (by rfl) (fun K hK => ?_)
        go_simp
        replace HX := Lib.hid (HX.out.step ((Below.refl _ _).alloc (Nat.le_refl _) (.cells #[.int .i64 1] 3)))
        refine hK _ _ HX.out ?_
        clear hK K
        refine Sched.change (by rfl) (fun K hK => ?_)
        go_simp
        (with_reducible refine (HN.out _ _ (Ints.one _ _ rfl _ _)).mono ?_)
        rintro e w1 ⟨rfl, m, hw⟩
        replace HX := Lib.hid (HX.out.drew m)
        rw [← hw] at HX
        dsimp only
        refine hK _ _ HX.out ?_
        clear hK K hw m
        refine Sched.quiet (by rfl) ?_ ?_ ?_
        rotate_left 1
        · intro w' hS
          obtain ⟨⟨q0, q1, q2, q3⟩, _, _⟩ := hS
          go_simp
          with_reducible rfl
        simp only [Act.put, List.setIfInBounds_toArray, List.set_cons_zero, List.set_cons_succ]
        refine Sched.quiet (by rfl) ?_ ?_ ?_
        rotate_left 1
        · intro w' hS
          obtain ⟨⟨q0, q1, q2, q3⟩, _, _⟩ := hS
          go_simp
          with_reducible rfl
        simp only [Act.put, List.setIfInBounds_toArray, List.set_cons_zero, List.set_cons_succ]
        refine Sched.quiet (by rfl) ?_ ?_ ?_
        rotate_left 1
        · intro w' hS
          obtain ⟨⟨q0, q1, q2, q3⟩, _, _⟩ := hS
          go_simp
          with_reducible rfl
        simp only [Act.put, List.setIfInBounds_toArray, List.set_cons_zero, List.set_cons_succ]
        refine Sched.quiet (by rfl) ?_ ?_ ?_
        rotate_left 1
        · intro w' hS
          obtain ⟨⟨q0, q1, q2, q3⟩, _, _⟩ := hS
          go_simp
          with_reducible rfl
        simp only [Act.put, List.setIfInBounds_toArray, List.set_cons_zero, List.set_cons_succ]
        refine Sched.change (by rfl) (fun K hK => ?_)
        go_simp
        replace HX := Lib.hid (HX.out.step ((Below.refl _ _).alloc (Nat.le_refl _) (.cells #[.int .i64 6] 3)))
        refine hK _ _ HX.out ?_
        clear hK K
        refine Sched.change (by rfl) (fun K hK => ?_)
        go_simp
        (with_reducible refine (HV.out _ _ (Ints.one _ _ rfl _ _)).mono ?_)
        rintro e w1 ⟨rfl, m, hw⟩
        replace HX := Lib.hid (HX.out.drew m)
        rw [← hw] at HX
        dsimp only
        refine hK _ _ HX.out ?_
        clear hK K hw m
        refine Sched.quiet (by rfl) ?_ ?_ ?_
        rotate_left 1
        · intro w' hS
          obtain ⟨⟨q0, q1, q2, q3⟩, _, _⟩ := hS
          go_simp
          with_reducible rfl
        simp only [Act.put, List.setIfInBounds_toArray, List.set_cons_zero, List.set_cons_succ]
        refine Sched.quiet (by rfl) ?_ ?_ ?_
        rotate_left 1
        · intro w' hS
          obtain ⟨⟨q0, q1, q2, q3⟩, _, _⟩ := hS
          go_simp
          with_reducible rfl
        simp only [Act.put, List.setIfInBounds_toArray, List.set_cons_zero, List.set_cons_succ]
        refine Sched.quiet (by rfl) ?_ ?_ ?_
        rotate_left 1
        · intro w' hS
          obtain ⟨⟨q0, q1, q2, q3⟩, _, _⟩ := hS
          go_simp
          with_reducible rfl
        simp only [Act.put, List.setIfInBounds_toArray, List.set_cons_zero, List.set_cons_succ]
        refine Sched.quiet (by rfl) ?_ ?_ ?_
        rotate_left 1
        · intro w' hS
          obtain ⟨⟨q0, q1, q2, q3⟩, _, _⟩ := hS
          go_simp
          with_reducible rfl
        simp only [Act.put, List.setIfInBounds_toArray, List.set_cons_zero, List.set_cons_succ]
        refine Sched.quiet (by rfl) ?_ ?_ ?_
        rotate_left 1
        · intro w' hS
          obtain ⟨⟨q0, q1, q2, q3⟩, _, _⟩ := hS
          go_simp
          with_reducible rfl
        simp only [Act.put, List.setIfInBounds_toArray, List.set_cons_zero, List.set_cons_succ]
        refine Sched.quiet (by rfl) ?_ ?_ ?_
        rotate_left 1
        · intro w' hS
          obtain ⟨⟨q0, q1, q2, q3⟩, _, _⟩ := hS
          go_simp
          with_reducible rfl
        simp only [Act.put, List.setIfInBounds_toArray, List.set_cons_zero, List.set_cons_succ]
        refine Sched.change (by rfl) (fun K hK => ?_)
        go_simp
        (with_reducible refine (HT.out _).mono ?_)
        rintro e w1 ⟨rfl, hw⟩
        rw [hw]
        clear hw
        dsimp only
        refine hK _ _ HX.out ?_
        clear hK K
        refine Sched.quiet (by rfl) ?_ ?_ ?_
        rotate_left 1
        · intro w' hS
          obtain ⟨⟨q0, q1, q2, q3⟩, _, _⟩ := hS
          go_simp
          with_reducible rfl
        simp only [Act.put, List.setIfInBounds_toArray, List.set_cons_zero, List.set_cons_succ]
        refine Sched.quiet (by rfl) ?_ ?_ ?_
        rotate_left 1
        · intro w' hS
          obtain ⟨⟨q0, q1, q2, q3⟩, _, _⟩ := hS
          go_simp
          with_reducible rfl
        simp only [Act.put, List.setIfInBounds_toArray, List.set_cons_zero, List.set_cons_succ]
        refine Sched.quiet (by rfl) ?_ ?_ ?_
        rotate_left 1
        · intro w' hS
          obtain ⟨⟨q0, q1, q2, q3⟩, _, _⟩ := hS
          go_simp
          with_reducible rfl
        simp only [Act.put, List.setIfInBounds_toArray, List.set_cons_zero, List.set_cons_succ]
        refine Sched.done ?_
        have hbk := HX.out.b
        go_wp2
        go_ret
        exact ⟨by rfl, hbk⟩
      · have f1 : ¬ (trim v).toList = v.toList := fun e => h (g.1 e)
        have f2 := Ls.beq_text h
        rw [decide_eq_false h]
        clear g h
        generalize trim v = T at *
        go_enter Try.func20, Try.ntmps20
        go_wp2_with fail
        refine Sched.region [(0, false), (1, false), (2, false), (3, false), (4, false), (5, false), (6, true), (7, true), (8, false), (9, false), (10, false), (11, false), (12, true), (13, true), (14, false), (15, false), (16, false), (17, false), (19, false), (20, false), (18, true), (21, false), (22, false), (23, false)] (fun w' => Keep w n v w') (by kernel_rfl) (by kernel_rfl) (fun _ _ d _ _ h => by cases d <;> exact h) HX.out ?_
        simp only [Sched.picked, List.filterMap_cons, List.filterMap_nil, List.getElem?_cons_zero, List.getElem?_cons_succ, Option.map_some]
        generalize World.drewN (w.alloc (.cells #[.string n, .string v] 25)) 1 = W at *
        refine Sched.quiet (by rfl) ?_ ?_ ?_
        rotate_left 1
        · intro w' hS
          obtain ⟨⟨q0, q1, q2, q3⟩, _, _⟩ := hS
          go_simp
          with_reducible rfl
        simp only [Act.put, List.setIfInBounds_toArray, List.set_cons_zero, List.set_cons_succ]
        refine Sched.quiet (by rfl) ?_ ?_ ?_
        rotate_left 1
        · intro w' hS
          obtain ⟨⟨q0, q1, q2, q3⟩, _, _⟩ := hS
          go_simp
          with_reducible rfl
        simp only [Act.put, List.setIfInBounds_toArray, List.set_cons_zero, List.set_cons_succ]
        refine Sched.quiet (by rfl) ?_ ?_ ?_
        rotate_left 1
        · intro w' hS
          obtain ⟨⟨q0, q1, q2, q3⟩, _, _⟩ := hS
          go_simp
          with_reducible rfl
        simp only [Act.put, List.setIfInBounds_toArray, List.set_cons_zero, List.set_cons_succ]
        refine Sched.quiet (by rfl) ?_ ?_ ?_
        rotate_left 1
        · intro w' hS
          obtain ⟨⟨q0, q1, q2, q3⟩, _, _⟩ := hS
          go_simp
          with_reducible rfl
        simp only [Act.put, List.setIfInBounds_toArray, List.set_cons_zero, List.set_cons_succ]
        refine Sched.quiet (by rfl) ?_ ?_ ?_
        rotate_left 1
        · intro w' hS
          obtain ⟨⟨q0, q1, q2, q3⟩, _, _⟩ := hS
          go_simp
          with_reducible rfl
        simp only [Act.put, List.setIfInBounds_toArray, List.set_cons_zero, List.set_cons_succ]
        refine Sched.quiet (by rfl) ?_ ?_ ?_
        rotate_left 1
        · intro w' hS
          obtain ⟨⟨q0, q1, q2, q3⟩, _, _⟩ := hS
          go_simp
          with_reducible rfl
        simp only [Act.put, List.setIfInBounds_toArray, List.set_cons_zero, List.set_cons_succ]
        refine Sched.change (by rfl) (fun K hK => ?_)
        go_simp
        replace HX := Lib.hid (HX.out.step ((Below.refl _ _).alloc (Nat.le_refl _) (.cells #[.int .i64 1] 3)))
        refine hK _ _ HX.out ?_
        clear hK K
        refine Sched.change (by rfl) (fun K hK => ?_)
        go_simp
        (with_reducible refine (HN.out _ _ (Ints.one _ _ rfl _ _)).mono ?_)
        rintro e w1 ⟨rfl, m, hw⟩
        replace HX := Lib.hid (HX.out.drew m)
        rw [← hw] at HX
        dsimp only
        refine hK _ _ HX.out ?_
        clear hK K hw m
        refine Sched.quiet (by rfl) ?_ ?_ ?_
        rotate_left 1
        · intro w' hS
          obtain ⟨⟨q0, q1, q2, q3⟩, _, _⟩ := hS
          go_simp
          with_reducible rfl
        simp only [Act.put, List.setIfInBounds_toArray, List.set_cons_zero, List.set_cons_succ]
        refine Sched.quiet (by rfl) ?_ ?_ ?_
        rotate_left 1
        · intro w' hS
          obtain ⟨⟨q0, q1, q2, q3⟩, _, _⟩ := hS
          go_simp
          with_reducible rfl
        simp only [Act.put, List.setIfInBounds_toArray, List.set_cons_zero, List.set_cons_succ]
        refine Sched.quiet (by rfl) ?_ ?_ ?_
        rotate_left 1
        · intro w' hS
          obtain ⟨⟨q0, q1, q2, q3⟩, _, _⟩ := hS
          go_simp
          with_reducible rfl
        simp only [Act.put, List.setIfInBounds_toArray, List.set_cons_zero, List.set_cons_succ]
        refine Sched.quiet (by rfl) ?_ ?_ ?_
        rotate_left 1
        · intro w' hS
          obtain ⟨⟨q0, q1, q2, q3⟩, _, _⟩ := hS
          go_simp
          with_reducible rfl
        simp only [Act.put, List.setIfInBounds_toArray, List.set_cons_zero, List.set_cons_succ]
        refine Sched.change (by rfl) (fun K hK => ?_)
        go_simp
        replace HX := Lib.hid (HX.out.step ((Below.refl _ _).alloc (Nat.le_refl _) (.cells #[.int .i64 6] 3)))
        refine hK _ _ HX.out ?_
        clear hK K
        refine Sched.change (by rfl) (fun K hK => ?_)
        go_simp
        (with_reducible refine (HV.out _ _ (Ints.one _ _ rfl _ _)).mono ?_)
        rintro e w1 ⟨rfl, m, hw⟩
        replace HX := Lib.hid (HX.out.drew m)
        rw [← hw] at HX
        dsimp only
        refine hK _ _ HX.out ?_
        clear hK K hw m
        refine Sched.quiet (by rfl) ?_ ?_ ?_
        rotate_left 1
        · intro w' hS
          obtain ⟨⟨q0, q1, q2, q3⟩, _, _⟩ := hS
          go_simp
          with_reducible rfl
        simp only [Act.put, List.setIfInBounds_toArray, List.set_cons_zero, List.set_cons_succ]
        refine Sched.quiet (by rfl) ?_ ?_ ?_
        rotate_left 1
        · intro w' hS
          obtain ⟨⟨q0, q1, q2, q3⟩, _, _⟩ := hS
          go_simp
          with_reducible rfl
        simp only [Act.put, List.setIfInBounds_toArray, List.set_cons_zero, List.set_cons_succ]
        refine Sched.quiet (by rfl) ?_ ?_ ?_
        rotate_left 1
        · intro w' hS
          obtain ⟨⟨q0, q1, q2, q3⟩, _, _⟩ := hS
          go_simp
          with_reducible rfl
        simp only [Act.put, List.setIfInBounds_toArray, List.set_cons_zero, List.set_cons_succ]
        refine Sched.quiet (by rfl) ?_ ?_ ?_
        rotate_left 1
        · intro w' hS
          obtain ⟨⟨q0, q1, q2, q3⟩, _, _⟩ := hS
          go_simp
          with_reducible rfl
        simp only [Act.put, List.setIfInBounds_toArray, List.set_cons_zero, List.set_cons_succ]
        refine Sched.quiet (by rfl) ?_ ?_ ?_
        rotate_left 1
        · intro w' hS
          obtain ⟨⟨q0, q1, q2, q3⟩, _, _⟩ := hS
          go_simp
          with_reducible rfl
        simp only [Act.put, List.setIfInBounds_toArray, List.set_cons_zero, List.set_cons_succ]
        refine Sched.quiet (by rfl) ?_ ?_ ?_
        rotate_left 1
        · intro w' hS
          obtain ⟨⟨q0, q1, q2, q3⟩, _, _⟩ := hS
          go_simp
          with_reducible rfl
        simp only [Act.put, List.setIfInBounds_toArray, List.set_cons_zero, List.set_cons_succ]
        refine Sched.change (by rfl) (fun K hK => ?_)
        go_simp
        (with_reducible refine (HT.out _).mono ?_)
        rintro e w1 ⟨rfl, hw⟩
        rw [hw]
        clear hw
        dsimp only
        refine hK _ _ HX.out ?_
        clear hK K
        refine Sched.quiet (by rfl) ?_ ?_ ?_
        rotate_left 1
        · intro w' hS
          obtain ⟨⟨q0, q1, q2, q3⟩, _, _⟩ := hS
          go_simp
          with_reducible rfl
        simp only [Act.put, List.setIfInBounds_toArray, List.set_cons_zero, List.set_cons_succ]
        refine Sched.quiet (by rfl) ?_ ?_ ?_
        rotate_left 1
        · intro w' hS
          obtain ⟨⟨q0, q1, q2, q3⟩, _, _⟩ := hS
          go_simp
          with_reducible rfl
        simp only [Act.put, List.setIfInBounds_toArray, List.set_cons_zero, List.set_cons_succ]
        refine Sched.quiet (by rfl) ?_ ?_ ?_
        rotate_left 1
        · intro w' hS
          obtain ⟨⟨q0, q1, q2, q3⟩, _, _⟩ := hS
          go_simp
          with_reducible rfl
        simp only [Act.put, List.setIfInBounds_toArray, List.set_cons_zero, List.set_cons_succ]
        refine Sched.done ?_
        have hbk := HX.out.b
        go_wp2
        go_ret
        exact ⟨by rfl, hbk⟩
end code
end Go.Proofs.Ytmbjnolikofaoaa.Fd
