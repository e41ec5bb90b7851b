/-
  Layer 9 (field): the contract of package field's Right. (Its walks are printed by tools/gen_right.py.)
-/
import Derived.Test.YtmbjnolikofaoaaFieldParse
namespace Go.Proofs.Ytmbjnolikofaoaa.Fd
open Go.RowKit Base Txt Tgt

theorem colon_list (n v : ByteArray) : ((n ++ ⟨#[58]⟩) ++ v).data.toList = n.data.toList ++ 58 :: v.data.toList := by
  simp [ByteArray.data_append]
theorem colon_size (n v : ByteArray) : ((n ++ ⟨#[58]⟩) ++ v).size = n.size + 1 + v.size := by
  rw [← len, colon_list]; simp; omega

section code
set_option maxHeartbeats 4000000
set_option maxRecDepth 100000
attribute [local go_sem] Base.some_undef
theorem right_any (n v : ByteArray) (w : World) (hs : n.size + 1 + v.size ≤ 1000000000) : Calls Try.prog 19 #[fv n v] w fun e w' => e = .returned (.bool (right n.data.toList v.data.toList)) ∧ Below w.heap.size w w' := by
  have HO : Hid (∀ w, Calls Try.prog 35 #[.slice none 0 0] w fun e w' => e = .returned (.int .u32 0) ∧ w' = w) := Lib.hid (fun w => Qk.of_any none 0 0 [] w (Ints.nil _ _) (by decide))
  have HP := Lib.hid (fun w => parse0_any ((n ++ ⟨#[58]⟩) ++ v) w (by rw [colon_size]; exact hs))
  rw [colon_list] at HP
  have hrp := right_parse n.data.toList v.data.toList
  rw [← hrp]
  have v1 : ¬ 9223372036854775807 < n.size + 1 := by omega
  have v2 : ¬ 9223372036854775807 < n.size + 1 + v.size := by omega
  have HX := Lib.hid ((Keep.new w 25 n v).drew 1)
  rcases parse_zero (n.data.toList ++ 58 :: v.data.toList) with h | ⟨n', v', h⟩
  · rw [h] at HP ⊢
    dsimp only [rv] at HP
    rw [decide_eq_false (by simp)]
    clear h hrp hs
    go_enter Try.func19, Try.ntmps19
    go_wp2_with fail
    refine Tree.region (.quiet 0 (.quiet 1 (.quiet 2 (.quiet 3 (.quiet 4 (.quiet 5 (.two 6 (.two 7 (.quiet 8 (.quiet 9 (.quiet 10 (.quiet 11 (.act 12 (.act 13 (.quiet 14 (.quiet 15 (.done))))))))) 12 (.act 7 (.quiet 8 (.quiet 9 (.quiet 10 (.quiet 11 (.act 13 (.quiet 14 (.quiet 15 (.done)))))))))) 12 (.act 6 (.act 7 (.quiet 8 (.quiet 9 (.quiet 10 (.quiet 11 (.act 13 (.quiet 14 (.quiet 15 (.done))))))))))))))))) (fun w' => Keep w n v w') (by kernel_rfl) (by kernel_rfl) (fun _ _ d _ _ h => by cases d <;> exact h) HX.out ?_
    simp only [Tree.grow, Tree.put1, List.getElem?_cons_zero, List.getElem?_cons_succ]
    generalize World.drewN (w.alloc (.cells #[.string n, .string v] 25)) 1 = W at *
    refine Tree.quiet (by rfl) ?_ ?_ ?_
    rotate_left 1
    · intro w' hS
      obtain ⟨⟨q0, q1, q2, q3⟩, _, _⟩ := hS
      go_simp
      with_reducible rfl
    simp only [Act.put, List.setIfInBounds_toArray, List.set_cons_zero, List.set_cons_succ]
    refine Tree.quiet (by rfl) ?_ ?_ ?_
    rotate_left 1
    · intro w' hS
      obtain ⟨⟨q0, q1, q2, q3⟩, _, _⟩ := hS
      go_simp
      with_reducible rfl
    simp only [Act.put, List.setIfInBounds_toArray, List.set_cons_zero, List.set_cons_succ]
    refine Tree.quiet (by rfl) ?_ ?_ ?_
    rotate_left 1
    · intro w' hS
      obtain ⟨⟨q0, q1, q2, q3⟩, _, _⟩ := hS
      go_simp
      with_reducible rfl
    simp only [Act.put, List.setIfInBounds_toArray, List.set_cons_zero, List.set_cons_succ]
    refine Tree.quiet (by rfl) ?_ ?_ ?_
    rotate_left 1
    · intro w' hS
      obtain ⟨⟨q0, q1, q2, q3⟩, _, _⟩ := hS
      go_simp
      with_reducible rfl
    simp only [Act.put, List.setIfInBounds_toArray, List.set_cons_zero, List.set_cons_succ]
    refine Tree.quiet (by rfl) ?_ ?_ ?_
    rotate_left 1
    · intro w' hS
      obtain ⟨⟨q0, q1, q2, q3⟩, _, _⟩ := hS
      go_simp
      with_reducible rfl
    simp only [Act.put, List.setIfInBounds_toArray, List.set_cons_zero, List.set_cons_succ]
    refine Tree.quiet (by rfl) ?_ ?_ ?_
    rotate_left 1
    · intro w' hS
      obtain ⟨⟨q0, q1, q2, q3⟩, _, _⟩ := hS
      go_simp
      with_reducible rfl
    simp only [Act.put, List.setIfInBounds_toArray, List.set_cons_zero, List.set_cons_succ]
    refine Tree.both ?_ ?_
    · refine Tree.change (by rfl) (fun K hK => ?_)
      go_simp
      (with_reducible refine (HO.out _).mono ?_)
      rintro e w1 ⟨rfl, hw⟩
      rw [hw]
      clear hw
      dsimp only
      refine hK _ _ HX.out ?_
      clear hK K
      refine Tree.both ?_ ?_
      · refine Tree.change (by rfl) (fun K hK => ?_)
        go_simp
        (with_reducible refine (HP.out _).mono ?_)
        rintro e w2 ⟨rfl, hb⟩
        dsimp only
        replace HX := Lib.hid (HX.out.step hb)
        refine hK _ _ HX.out ?_
        clear hK K hb
        refine Tree.quiet (by rfl) ?_ ?_ ?_
        rotate_left 1
        · intro w' hS
          obtain ⟨⟨q0, q1, q2, q3⟩, _, _⟩ := hS
          go_simp
          with_reducible rfl
        simp only [Act.put, List.setIfInBounds_toArray, List.set_cons_zero, List.set_cons_succ]
        refine Tree.quiet (by rfl) ?_ ?_ ?_
        rotate_left 1
        · intro w' hS
          obtain ⟨⟨q0, q1, q2, q3⟩, _, _⟩ := hS
          go_simp
          with_reducible rfl
        simp only [Act.put, List.setIfInBounds_toArray, List.set_cons_zero, List.set_cons_succ]
        refine Tree.quiet (by rfl) ?_ ?_ ?_
        rotate_left 1
        · intro w' hS
          obtain ⟨⟨q0, q1, q2, q3⟩, _, _⟩ := hS
          go_simp
          with_reducible rfl
        simp only [Act.put, List.setIfInBounds_toArray, List.set_cons_zero, List.set_cons_succ]
        refine Tree.quiet (by rfl) ?_ ?_ ?_
        rotate_left 1
        · intro w' hS
          obtain ⟨⟨q0, q1, q2, q3⟩, _, _⟩ := hS
          go_simp
          with_reducible rfl
        simp only [Act.put, List.setIfInBounds_toArray, List.set_cons_zero, List.set_cons_succ]
        refine Tree.change (by rfl) (fun K hK => ?_)
        go_simp
        replace HX := Lib.hid (Two.new HX.out 25 E0 E0)
        refine hK _ _ HX.out.k ?_
        clear hK K
        generalize w2.alloc (.cells #[.string E0, .string E0] 25) = Wa at *
        generalize w2.heap.size = t at *
        refine Tree.change (by rfl) (fun K hK => ?_)
        obtain ⟨d0, d1, y0, y1⟩ := HX.out.f
        replace HX := Lib.hid (HX.out.put E0 E0)
        go_simp
        refine hK _ _ HX.out.k ?_
        clear hK K d0 d1 y0 y1
        generalize (World.setCell (World.setCell Wa ⟨t, 0, none⟩ (.string E0)) ⟨t, 1, none⟩ (.string E0)) = Wf at *
        refine Tree.quiet (by rfl) ?_ ?_ ?_
        rotate_left 1
        · intro w' hS
          obtain ⟨⟨q0, q1, q2, q3⟩, _, _⟩ := hS
          go_simp
          with_reducible rfl
        simp only [Act.put, List.setIfInBounds_toArray, List.set_cons_zero, List.set_cons_succ]
        refine Tree.quiet (by rfl) ?_ ?_ ?_
        rotate_left 1
        · intro w' hS
          obtain ⟨⟨q0, q1, q2, q3⟩, _, _⟩ := hS
          go_simp
          with_reducible rfl
        simp only [Act.put, List.setIfInBounds_toArray, List.set_cons_zero, List.set_cons_succ]
        refine Tree.done ?_
        obtain ⟨⟨⟨q0, q1, q2, q3⟩, hg, hbk⟩, ⟨d0, d1, d2, d3⟩, hne, hlt, hge⟩ := HX.out
        clear hg hne hlt hge
        go_wp2
        go_ret
        exact ⟨rfl, hbk⟩
      · refine Tree.change (by rfl) (fun K hK => ?_)
        go_simp
        replace HX := Lib.hid (Two.new HX.out 25 E0 E0)
        refine hK _ _ HX.out.k ?_
        clear hK K
        generalize W.alloc (.cells #[.string E0, .string E0] 25) = Wa at *
        generalize W.heap.size = t at *
        refine Tree.change (by rfl) (fun K hK => ?_)
        go_simp
        (with_reducible refine (HP.out _).mono ?_)
        rintro e w2 ⟨rfl, hb⟩
        dsimp only
        replace HX := Lib.hid (HX.out.step hb)
        refine hK _ _ HX.out.k ?_
        clear hK K hb
        refine Tree.quiet (by rfl) ?_ ?_ ?_
        rotate_left 1
        · intro w' hS
          obtain ⟨⟨q0, q1, q2, q3⟩, _, _⟩ := hS
          go_simp
          with_reducible rfl
        simp only [Act.put, List.setIfInBounds_toArray, List.set_cons_zero, List.set_cons_succ]
        refine Tree.quiet (by rfl) ?_ ?_ ?_
        rotate_left 1
        · intro w' hS
          obtain ⟨⟨q0, q1, q2, q3⟩, _, _⟩ := hS
          go_simp
          with_reducible rfl
        simp only [Act.put, List.setIfInBounds_toArray, List.set_cons_zero, List.set_cons_succ]
        refine Tree.quiet (by rfl) ?_ ?_ ?_
        rotate_left 1
        · intro w' hS
          obtain ⟨⟨q0, q1, q2, q3⟩, _, _⟩ := hS
          go_simp
          with_reducible rfl
        simp only [Act.put, List.setIfInBounds_toArray, List.set_cons_zero, List.set_cons_succ]
        refine Tree.quiet (by rfl) ?_ ?_ ?_
        rotate_left 1
        · intro w' hS
          obtain ⟨⟨q0, q1, q2, q3⟩, _, _⟩ := hS
          go_simp
          with_reducible rfl
        simp only [Act.put, List.setIfInBounds_toArray, List.set_cons_zero, List.set_cons_succ]
        refine Tree.change (by rfl) (fun K hK => ?_)
        obtain ⟨d0, d1, y0, y1⟩ := HX.out.f
        replace HX := Lib.hid (HX.out.put E0 E0)
        go_simp
        refine hK _ _ HX.out.k ?_
        clear hK K d0 d1 y0 y1
        generalize (World.setCell (World.setCell w2 ⟨t, 0, none⟩ (.string E0)) ⟨t, 1, none⟩ (.string E0)) = Wf at *
        refine Tree.quiet (by rfl) ?_ ?_ ?_
        rotate_left 1
        · intro w' hS
          obtain ⟨⟨q0, q1, q2, q3⟩, _, _⟩ := hS
          go_simp
          with_reducible rfl
        simp only [Act.put, List.setIfInBounds_toArray, List.set_cons_zero, List.set_cons_succ]
        refine Tree.quiet (by rfl) ?_ ?_ ?_
        rotate_left 1
        · intro w' hS
          obtain ⟨⟨q0, q1, q2, q3⟩, _, _⟩ := hS
          go_simp
          with_reducible rfl
        simp only [Act.put, List.setIfInBounds_toArray, List.set_cons_zero, List.set_cons_succ]
        refine Tree.done ?_
        obtain ⟨⟨⟨q0, q1, q2, q3⟩, hg, hbk⟩, ⟨d0, d1, d2, d3⟩, hne, hlt, hge⟩ := HX.out
        clear hg hne hlt hge
        go_wp2
        go_ret
        exact ⟨rfl, hbk⟩
    · refine Tree.change (by rfl) (fun K hK => ?_)
      go_simp
      replace HX := Lib.hid (Two.new HX.out 25 E0 E0)
      refine hK _ _ HX.out.k ?_
      clear hK K
      generalize W.alloc (.cells #[.string E0, .string E0] 25) = Wa at *
      generalize W.heap.size = t at *
      refine Tree.change (by rfl) (fun K hK => ?_)
      go_simp
      (with_reducible refine (HO.out _).mono ?_)
      rintro e w1 ⟨rfl, hw⟩
      rw [hw]
      clear hw
      dsimp only
      refine hK _ _ HX.out.k ?_
      clear hK K
      refine Tree.change (by rfl) (fun K hK => ?_)
      go_simp
      (with_reducible refine (HP.out _).mono ?_)
      rintro e w2 ⟨rfl, hb⟩
      dsimp only
      replace HX := Lib.hid (HX.out.step hb)
      refine hK _ _ HX.out.k ?_
      clear hK K hb
      refine Tree.quiet (by rfl) ?_ ?_ ?_
      rotate_left 1
      · intro w' hS
        obtain ⟨⟨q0, q1, q2, q3⟩, _, _⟩ := hS
        go_simp
        with_reducible rfl
      simp only [Act.put, List.setIfInBounds_toArray, List.set_cons_zero, List.set_cons_succ]
      refine Tree.quiet (by rfl) ?_ ?_ ?_
      rotate_left 1
      · intro w' hS
        obtain ⟨⟨q0, q1, q2, q3⟩, _, _⟩ := hS
        go_simp
        with_reducible rfl
      simp only [Act.put, List.setIfInBounds_toArray, List.set_cons_zero, List.set_cons_succ]
      refine Tree.quiet (by rfl) ?_ ?_ ?_
      rotate_left 1
      · intro w' hS
        obtain ⟨⟨q0, q1, q2, q3⟩, _, _⟩ := hS
        go_simp
        with_reducible rfl
      simp only [Act.put, List.setIfInBounds_toArray, List.set_cons_zero, List.set_cons_succ]
      refine Tree.quiet (by rfl) ?_ ?_ ?_
      rotate_left 1
      · intro w' hS
        obtain ⟨⟨q0, q1, q2, q3⟩, _, _⟩ := hS
        go_simp
        with_reducible rfl
      simp only [Act.put, List.setIfInBounds_toArray, List.set_cons_zero, List.set_cons_succ]
      refine Tree.change (by rfl) (fun K hK => ?_)
      obtain ⟨d0, d1, y0, y1⟩ := HX.out.f
      replace HX := Lib.hid (HX.out.put E0 E0)
      go_simp
      refine hK _ _ HX.out.k ?_
      clear hK K d0 d1 y0 y1
      generalize (World.setCell (World.setCell w2 ⟨t, 0, none⟩ (.string E0)) ⟨t, 1, none⟩ (.string E0)) = Wf at *
      refine Tree.quiet (by rfl) ?_ ?_ ?_
      rotate_left 1
      · intro w' hS
        obtain ⟨⟨q0, q1, q2, q3⟩, _, _⟩ := hS
        go_simp
        with_reducible rfl
      simp only [Act.put, List.setIfInBounds_toArray, List.set_cons_zero, List.set_cons_succ]
      refine Tree.quiet (by rfl) ?_ ?_ ?_
      rotate_left 1
      · intro w' hS
        obtain ⟨⟨q0, q1, q2, q3⟩, _, _⟩ := hS
        go_simp
        with_reducible rfl
      simp only [Act.put, List.setIfInBounds_toArray, List.set_cons_zero, List.set_cons_succ]
      refine Tree.done ?_
      obtain ⟨⟨⟨q0, q1, q2, q3⟩, hg, hbk⟩, ⟨d0, d1, d2, d3⟩, hne, hlt, hge⟩ := HX.out
      clear hg hne hlt hge
      go_wp2
      go_ret
      exact ⟨rfl, hbk⟩
  · rw [h] at HP ⊢
    dsimp only [rv] at HP
    have hd : decide (some (some (n', v')) = (some (some (n.data.toList, v.data.toList)) : Ans)) = decide (((ba n', ba v') : Fld) = (n, v)) := by
      rw [Bool.eq_iff_iff, decide_eq_true_eq, decide_eq_true_eq]
      constructor
      · intro e
        obtain ⟨rfl, rfl⟩ : n' = n.data.toList ∧ v' = v.data.toList := by simpa using e
        rfl
      · intro e
        obtain ⟨e1, e2⟩ : ba n' = n ∧ ba v' = v := by simpa using e
        rw [← e1, ← e2]; rfl
    rw [hd]
    clear h hrp hs hd
    have hR : ∃ R, decide (((ba n', ba v') : Fld) = (n, v)) = R := ⟨_, rfl⟩
    obtain ⟨R, hR⟩ := hR
    rw [hR]
    have HR := Lib.hid hR.symm
    clear hR
    generalize ba n' = N at *
    generalize ba v' = V at *
    go_enter Try.func19, Try.ntmps19
    go_wp2_with fail
    refine Tree.region (.quiet 0 (.quiet 1 (.quiet 2 (.quiet 3 (.quiet 4 (.quiet 5 (.two 6 (.two 7 (.quiet 8 (.quiet 9 (.quiet 10 (.quiet 11 (.act 12 (.act 13 (.quiet 14 (.quiet 15 (.done))))))))) 12 (.act 7 (.quiet 8 (.quiet 9 (.quiet 10 (.quiet 11 (.act 13 (.quiet 14 (.quiet 15 (.done)))))))))) 12 (.act 6 (.act 7 (.quiet 8 (.quiet 9 (.quiet 10 (.quiet 11 (.act 13 (.quiet 14 (.quiet 15 (.done))))))))))))))))) (fun w' => Keep w n v w') (by kernel_rfl) (by kernel_rfl) (fun _ _ d _ _ h => by cases d <;> exact h) HX.out ?_
    simp only [Tree.grow, Tree.put1, List.getElem?_cons_zero, List.getElem?_cons_succ]
    generalize World.drewN (w.alloc (.cells #[.string n, .string v] 25)) 1 = W at *
    refine Tree.quiet (by rfl) ?_ ?_ ?_
    rotate_left 1
    · intro w' hS
      obtain ⟨⟨q0, q1, q2, q3⟩, _, _⟩ := hS
      go_simp
      with_reducible rfl
    simp only [Act.put, List.setIfInBounds_toArray, List.set_cons_zero, List.set_cons_succ]
    refine Tree.quiet (by rfl) ?_ ?_ ?_
    rotate_left 1
    · intro w' hS
      obtain ⟨⟨q0, q1, q2, q3⟩, _, _⟩ := hS
      go_simp
      with_reducible rfl
    simp only [Act.put, List.setIfInBounds_toArray, List.set_cons_zero, List.set_cons_succ]
    refine Tree.quiet (by rfl) ?_ ?_ ?_
    rotate_left 1
    · intro w' hS
      obtain ⟨⟨q0, q1, q2, q3⟩, _, _⟩ := hS
      go_simp
      with_reducible rfl
    simp only [Act.put, List.setIfInBounds_toArray, List.set_cons_zero, List.set_cons_succ]
    refine Tree.quiet (by rfl) ?_ ?_ ?_
    rotate_left 1
    · intro w' hS
      obtain ⟨⟨q0, q1, q2, q3⟩, _, _⟩ := hS
      go_simp
      with_reducible rfl
    simp only [Act.put, List.setIfInBounds_toArray, List.set_cons_zero, List.set_cons_succ]
    refine Tree.quiet (by rfl) ?_ ?_ ?_
    rotate_left 1
    · intro w' hS
      obtain ⟨⟨q0, q1, q2, q3⟩, _, _⟩ := hS
      go_simp
      with_reducible rfl
    simp only [Act.put, List.setIfInBounds_toArray, List.set_cons_zero, List.set_cons_succ]
    refine Tree.quiet (by rfl) ?_ ?_ ?_
    rotate_left 1
    · intro w' hS
      obtain ⟨⟨q0, q1, q2, q3⟩, _, _⟩ := hS
      go_simp
      with_reducible rfl
    simp only [Act.put, List.setIfInBounds_toArray, List.set_cons_zero, List.set_cons_succ]
    refine Tree.both ?_ ?_
    · refine Tree.change (by rfl) (fun K hK => ?_)
      go_simp
      (with_reducible refine (HO.out _).mono ?_)
      rintro e w1 ⟨rfl, hw⟩
      rw [hw]
      clear hw
      dsimp only
      refine hK _ _ HX.out ?_
      clear hK K
      refine Tree.both ?_ ?_
      · refine Tree.change (by rfl) (fun K hK => ?_)
        go_simp
        (with_reducible refine (HP.out _).mono ?_)
        rintro e w2 ⟨rfl, hb⟩
        dsimp only
        replace HX := Lib.hid (HX.out.step hb)
        refine hK _ _ HX.out ?_
        clear hK K hb
        refine Tree.quiet (by rfl) ?_ ?_ ?_
        rotate_left 1
        · intro w' hS
          obtain ⟨⟨q0, q1, q2, q3⟩, _, _⟩ := hS
          go_simp
          with_reducible rfl
        simp only [Act.put, List.setIfInBounds_toArray, List.set_cons_zero, List.set_cons_succ]
        refine Tree.quiet (by rfl) ?_ ?_ ?_
        rotate_left 1
        · intro w' hS
          obtain ⟨⟨q0, q1, q2, q3⟩, _, _⟩ := hS
          go_simp
          with_reducible rfl
        simp only [Act.put, List.setIfInBounds_toArray, List.set_cons_zero, List.set_cons_succ]
        refine Tree.quiet (by rfl) ?_ ?_ ?_
        rotate_left 1
        · intro w' hS
          obtain ⟨⟨q0, q1, q2, q3⟩, _, _⟩ := hS
          go_simp
          with_reducible rfl
        simp only [Act.put, List.setIfInBounds_toArray, List.set_cons_zero, List.set_cons_succ]
        refine Tree.quiet (by rfl) ?_ ?_ ?_
        rotate_left 1
        · intro w' hS
          obtain ⟨⟨q0, q1, q2, q3⟩, _, _⟩ := hS
          go_simp
          with_reducible rfl
        simp only [Act.put, List.setIfInBounds_toArray, List.set_cons_zero, List.set_cons_succ]
        refine Tree.change (by rfl) (fun K hK => ?_)
        go_simp
        replace HX := Lib.hid (Two.new HX.out 25 E0 E0)
        refine hK _ _ HX.out.k ?_
        clear hK K
        generalize w2.alloc (.cells #[.string E0, .string E0] 25) = Wa at *
        generalize w2.heap.size = t at *
        refine Tree.change (by rfl) (fun K hK => ?_)
        obtain ⟨d0, d1, y0, y1⟩ := HX.out.f
        replace HX := Lib.hid (HX.out.put N V)
        go_simp
        refine hK _ _ HX.out.k ?_
        clear hK K d0 d1 y0 y1
        generalize (World.setCell (World.setCell Wa ⟨t, 0, none⟩ (.string N)) ⟨t, 1, none⟩ (.string V)) = Wf at *
        refine Tree.quiet (by rfl) ?_ ?_ ?_
        rotate_left 1
        · intro w' hS
          obtain ⟨⟨q0, q1, q2, q3⟩, _, _⟩ := hS
          go_simp
          with_reducible rfl
        simp only [Act.put, List.setIfInBounds_toArray, List.set_cons_zero, List.set_cons_succ]
        refine Tree.quiet (by rfl) ?_ ?_ ?_
        rotate_left 1
        · intro w' hS
          obtain ⟨⟨q0, q1, q2, q3⟩, _, _⟩ := hS
          go_simp
          with_reducible rfl
        simp only [Act.put, List.setIfInBounds_toArray, List.set_cons_zero, List.set_cons_succ]
        refine Tree.done ?_
        obtain ⟨⟨⟨q0, q1, q2, q3⟩, hg, hbk⟩, ⟨d0, d1, d2, d3⟩, hne, hlt, hge⟩ := HX.out
        clear hg hne hlt hge
        have g1 := Ls.toList_iff N n
        have g2 := Ls.toList_iff V v
        by_cases h1 : N = n
        · by_cases h2 : V = v
          · subst h1
            subst h2
            have hR : R = true := by rw [HR.out]; simp
            clear g1 g2
            go_wp2
            go_ret
            exact ⟨by first | rfl | (rw [hR]; rfl), hbk⟩
          · subst h1
            have hR : R = false := by rw [HR.out]; simp [h2]
            have f1 : ¬ V.toList = v.toList := fun h => h2 (g2.1 h)
            have f2 := Ls.beq_text h2
            clear g1 g2 h2
            go_wp2
            go_ret
            exact ⟨by first | rfl | (rw [hR]; rfl), hbk⟩
        · have hR : R = false := by rw [HR.out]; simp [h1]
          have f1 : ¬ N.toList = n.toList := fun h => h1 (g1.1 h)
          have f2 := Ls.beq_text h1
          clear g1 g2 h1
          go_wp2
          go_ret
          exact ⟨by first | rfl | (rw [hR]; rfl), hbk⟩
      · refine Tree.change (by rfl) (fun K hK => ?_)
        go_simp
        replace HX := Lib.hid (Two.new HX.out 25 E0 E0)
        refine hK _ _ HX.out.k ?_
        clear hK K
        generalize W.alloc (.cells #[.string E0, .string E0] 25) = Wa at *
        generalize W.heap.size = t at *
        refine Tree.change (by rfl) (fun K hK => ?_)
        go_simp
        (with_reducible refine (HP.out _).mono ?_)
        rintro e w2 ⟨rfl, hb⟩
        dsimp only
        replace HX := Lib.hid (HX.out.step hb)
        refine hK _ _ HX.out.k ?_
        clear hK K hb
        refine Tree.quiet (by rfl) ?_ ?_ ?_
        rotate_left 1
        · intro w' hS
          obtain ⟨⟨q0, q1, q2, q3⟩, _, _⟩ := hS
          go_simp
          with_reducible rfl
        simp only [Act.put, List.setIfInBounds_toArray, List.set_cons_zero, List.set_cons_succ]
        refine Tree.quiet (by rfl) ?_ ?_ ?_
        rotate_left 1
        · intro w' hS
          obtain ⟨⟨q0, q1, q2, q3⟩, _, _⟩ := hS
          go_simp
          with_reducible rfl
        simp only [Act.put, List.setIfInBounds_toArray, List.set_cons_zero, List.set_cons_succ]
        refine Tree.quiet (by rfl) ?_ ?_ ?_
        rotate_left 1
        · intro w' hS
          obtain ⟨⟨q0, q1, q2, q3⟩, _, _⟩ := hS
          go_simp
          with_reducible rfl
        simp only [Act.put, List.setIfInBounds_toArray, List.set_cons_zero, List.set_cons_succ]
        refine Tree.quiet (by rfl) ?_ ?_ ?_
        rotate_left 1
        · intro w' hS
          obtain ⟨⟨q0, q1, q2, q3⟩, _, _⟩ := hS
          go_simp
          with_reducible rfl
        simp only [Act.put, List.setIfInBounds_toArray, List.set_cons_zero, List.set_cons_succ]
        refine Tree.change (by rfl) (fun K hK => ?_)
        obtain ⟨d0, d1, y0, y1⟩ := HX.out.f
        replace HX := Lib.hid (HX.out.put N V)
        go_simp
        refine hK _ _ HX.out.k ?_
        clear hK K d0 d1 y0 y1
        generalize (World.setCell (World.setCell w2 ⟨t, 0, none⟩ (.string N)) ⟨t, 1, none⟩ (.string V)) = Wf at *
        refine Tree.quiet (by rfl) ?_ ?_ ?_
        rotate_left 1
        · intro w' hS
          obtain ⟨⟨q0, q1, q2, q3⟩, _, _⟩ := hS
          go_simp
          with_reducible rfl
        simp only [Act.put, List.setIfInBounds_toArray, List.set_cons_zero, List.set_cons_succ]
        refine Tree.quiet (by rfl) ?_ ?_ ?_
        rotate_left 1
        · intro w' hS
          obtain ⟨⟨q0, q1, q2, q3⟩, _, _⟩ := hS
          go_simp
          with_reducible rfl
        simp only [Act.put, List.setIfInBounds_toArray, List.set_cons_zero, List.set_cons_succ]
        refine Tree.done ?_
        obtain ⟨⟨⟨q0, q1, q2, q3⟩, hg, hbk⟩, ⟨d0, d1, d2, d3⟩, hne, hlt, hge⟩ := HX.out
        clear hg hne hlt hge
        have g1 := Ls.toList_iff N n
        have g2 := Ls.toList_iff V v
        by_cases h1 : N = n
        · by_cases h2 : V = v
          · subst h1
            subst h2
            have hR : R = true := by rw [HR.out]; simp
            clear g1 g2
            go_wp2
            go_ret
            exact ⟨by first | rfl | (rw [hR]; rfl), hbk⟩
          · subst h1
            have hR : R = false := by rw [HR.out]; simp [h2]
            have f1 : ¬ V.toList = v.toList := fun h => h2 (g2.1 h)
            have f2 := Ls.beq_text h2
            clear g1 g2 h2
            go_wp2
            go_ret
            exact ⟨by first | rfl | (rw [hR]; rfl), hbk⟩
        · have hR : R = false := by rw [HR.out]; simp [h1]
          have f1 : ¬ N.toList = n.toList := fun h => h1 (g1.1 h)
          have f2 := Ls.beq_text h1
          clear g1 g2 h1
          go_wp2
          go_ret
          exact ⟨by first | rfl | (rw [hR]; rfl), hbk⟩
    · refine Tree.change (by rfl) (fun K hK => ?_)
      go_simp
      replace HX := Lib.hid (Two.new HX.out 25 E0 E0)
      refine hK _ _ HX.out.k ?_
      clear hK K
      generalize W.alloc (.cells #[.string E0, .string E0] 25) = Wa at *
      generalize W.heap.size = t at *
      refine Tree.change (by rfl) (fun K hK => ?_)
      go_simp
      (with_reducible refine (HO.out _).mono ?_)
      rintro e w1 ⟨rfl, hw⟩
      rw [hw]
      clear hw
      dsimp only
      refine hK _ _ HX.out.k ?_
      clear hK K
      refine Tree.change (by rfl) (fun K hK => ?_)
      go_simp
      (with_reducible refine (HP.out _).mono ?_)
      rintro e w2 ⟨rfl, hb⟩
      dsimp only
      replace HX := Lib.hid (HX.out.step hb)
      refine hK _ _ HX.out.k ?_
      clear hK K hb
      refine Tree.quiet (by rfl) ?_ ?_ ?_
      rotate_left 1
      · intro w' hS
        obtain ⟨⟨q0, q1, q2, q3⟩, _, _⟩ := hS
        go_simp
        with_reducible rfl
      simp only [Act.put, List.setIfInBounds_toArray, List.set_cons_zero, List.set_cons_succ]
      refine Tree.quiet (by rfl) ?_ ?_ ?_
      rotate_left 1
      · intro w' hS
        obtain ⟨⟨q0, q1, q2, q3⟩, _, _⟩ := hS
        go_simp
        with_reducible rfl
      simp only [Act.put, List.setIfInBounds_toArray, List.set_cons_zero, List.set_cons_succ]
      refine Tree.quiet (by rfl) ?_ ?_ ?_
      rotate_left 1
      · intro w' hS
        obtain ⟨⟨q0, q1, q2, q3⟩, _, _⟩ := hS
        go_simp
        with_reducible rfl
      simp only [Act.put, List.setIfInBounds_toArray, List.set_cons_zero, List.set_cons_succ]
      refine Tree.quiet (by rfl) ?_ ?_ ?_
      rotate_left 1
      · intro w' hS
        obtain ⟨⟨q0, q1, q2, q3⟩, _, _⟩ := hS
        go_simp
        with_reducible rfl
      simp only [Act.put, List.setIfInBounds_toArray, List.set_cons_zero, List.set_cons_succ]
      refine Tree.change (by rfl) (fun K hK => ?_)
      obtain ⟨d0, d1, y0, y1⟩ := HX.out.f
      replace HX := Lib.hid (HX.out.put N V)
      go_simp
      refine hK _ _ HX.out.k ?_
      clear hK K d0 d1 y0 y1
      generalize (World.setCell (World.setCell w2 ⟨t, 0, none⟩ (.string N)) ⟨t, 1, none⟩ (.string V)) = Wf at *
      refine Tree.quiet (by rfl) ?_ ?_ ?_
      rotate_left 1
      · intro w' hS
        obtain ⟨⟨q0, q1, q2, q3⟩, _, _⟩ := hS
        go_simp
        with_reducible rfl
      simp only [Act.put, List.setIfInBounds_toArray, List.set_cons_zero, List.set_cons_succ]
      refine Tree.quiet (by rfl) ?_ ?_ ?_
      rotate_left 1
      · intro w' hS
        obtain ⟨⟨q0, q1, q2, q3⟩, _, _⟩ := hS
        go_simp
        with_reducible rfl
      simp only [Act.put, List.setIfInBounds_toArray, List.set_cons_zero, List.set_cons_succ]
      refine Tree.done ?_
      obtain ⟨⟨⟨q0, q1, q2, q3⟩, hg, hbk⟩, ⟨d0, d1, d2, d3⟩, hne, hlt, hge⟩ := HX.out
      clear hg hne hlt hge
      have g1 := Ls.toList_iff N n
      have g2 := Ls.toList_iff V v
      by_cases h1 : N = n
      · by_cases h2 : V = v
        · subst h1
          subst h2
          have hR : R = true := by rw [HR.out]; simp
          clear g1 g2
          go_wp2
          go_ret
          exact ⟨by first | rfl | (rw [hR]; rfl), hbk⟩
        · subst h1
          have hR : R = false := by rw [HR.out]; simp [h2]
          have f1 : ¬ V.toList = v.toList := fun h => h2 (g2.1 h)
          have f2 := Ls.beq_text h2
          clear g1 g2 h2
          go_wp2
          go_ret
          exact ⟨by first | rfl | (rw [hR]; rfl), hbk⟩
      · have hR : R = false := by rw [HR.out]; simp [h1]
        have f1 : ¬ N.toList = n.toList := fun h => h1 (g1.1 h)
        have f2 := Ls.beq_text h1
        clear g1 g2 h1
        go_wp2
        go_ret
        exact ⟨by first | rfl | (rw [hR]; rfl), hbk⟩
end code
end Go.Proofs.Ytmbjnolikofaoaa.Fd
