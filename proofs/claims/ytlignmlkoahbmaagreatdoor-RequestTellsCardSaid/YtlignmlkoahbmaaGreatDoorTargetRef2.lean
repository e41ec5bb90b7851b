/-
  Layer 7 (target): what the document's origin answers, of every text up to a great size: the parts that package target's makes of it, and whether they may be.
-/
import Derived.Test.YtlignmlkoahbmaaGreatDoorTargetRefAll
import Derived.Test.YtlignmlkoahbmaaGreatDoorTargetParse
import Derived.Test.YtlignmlkoahbmaaGreatDoorSched
import Derived.Deep.CutBlock
import Derived.Deep.DeepCutAuto
namespace Go.Proofs.YtlignmlkoahbmaaGreatDoor.Tgt
open Go.RowKit Base Oct Num Txt

theorem cut_hit (c : UInt8) (l : List UInt8) (k : Nat) (hk : k < l.length) (hc : l[k] = c) (hno : c ∉ l.take k) : cutAt c l = (l.take k, l.drop (k + 1), true) := by
  have e : l = l.take k ++ c :: l.drop (k + 1) := by
    conv => lhs; rw [← List.take_append_drop k l, List.drop_eq_getElem_cons hk, hc]
  conv => lhs; rw [e]
  exact cutAt_app c _ _ hno
section code
set_option maxHeartbeats 1000000
attribute [local go_sem] Base.some_undef
set_option maxRecDepth 10000 in
theorem rorigin_any (s : ByteArray) (w : World) (hs : s.size ≤ 1000000000) :
    Calls Tryz.prog 43 #[.string s] w fun e w' => e = .returned (.tuple #[tv 0 E0 (ba (cutAt 63 s.data.toList).1) (ba (cutAt 63 s.data.toList).2.1) (cutAt 63 s.data.toList).2.2, .bool (pathB (cutAt 63 s.data.toList).1 && queryB (cutAt 63 s.data.toList).2.1)]) ∧ Below w.heap.size w w' := by
  obtain ⟨R, hR⟩ : ∃ R, cutAt 63 s.data.toList = R := ⟨_, rfl⟩
  rw [hR]
  have HR := Lib.hid hR
  have HRL := Lib.hid (cutAt_le 63 s.data.toList)
  rw [hR, len] at HRL
  clear hR
  obtain ⟨p, q, bb⟩ := R
  simp only at HRL
  simp only
  have HP := Lib.hid (fun w => rpath_any (ba p) w (by rw [ba_size]; have := HRL.out.1; omega))
  have HQ := Lib.hid (fun w => rquery_any (ba q) w (by rw [ba_size]; have := HRL.out.2; omega))
  rw [ba_list] at HP HQ
  generalize pathB p = pk at *
  generalize queryB q = qk at *
  have HPP : Hid (∀ k (hk : k < s.data.toList.length), s.data.toList[k] = 63 → (63 : UInt8) ∉ s.data.toList.take k → s.extract 0 k = ba p ∧ s.extract (k + 1) s.size = ba q ∧ true = bb) := Lib.hid fun k hk hc hno => by
    have h1 := HR.out
    rw [cut_hit 63 _ k hk hc hno] at h1
    simp only [Prod.mk.injEq] at h1
    exact ⟨ba_ext (by rw [Lib.extract_data, ← h1.1]; simp [ba]), ba_ext (by rw [drop_ext, ← h1.2.1]; rfl), h1.2.2⟩
  have HEE : Hid ((63 : UInt8) ∉ s.data.toList → s = ba p ∧ E0 = ba q ∧ false = bb) := Lib.hid fun hno => by
    have h1 := HR.out
    rw [cutAt_none 63 _ hno] at h1
    simp only [Prod.mk.injEq] at h1
    exact ⟨by rw [← h1.1]; rfl, by rw [← h1.2.1]; rfl, h1.2.2⟩
  clear HR HRL
  generalize ba p = PP at *
  generalize ba q = QQ at *
  have hc2 := Tgb.new w 57 0 E0 E0 E0 false
  have hg2' : w.heap.size < (w.alloc (.cells #[.int .i64 0, .string E0, .string E0, .string E0, .bool false] 57)).heap.size := by simp
  have hsz2 : (w.alloc (.cells #[.int .i64 0, .string E0, .string E0, .string E0, .bool false] 57)).heap.size = w.heap.size + 1 := by simp
  have hb2 : Below w.heap.size w (w.alloc (.cells #[.int .i64 0, .string E0, .string E0, .string E0, .bool false] 57)) := (Below.refl _ _).alloc (Nat.le_refl _) _
  have hn24 : ¬ w.heap.size = w.heap.size + 1 := by omega
  go_enter Tryz.func43, Tryz.ntmps43
  go_upto_region 2 with fail
  generalize w.alloc (.cells #[.int .i64 0, .string E0, .string E0, .string E0, .bool false] 57) = W2 at *
  have hc4 := Tgb.new W2 57 0 E0 s E0 false
  have hb4 : Below W2.heap.size W2 (W2.alloc (.cells #[.int .i64 0, .string E0, .string s, .string E0, .bool false] 57)) := (Below.refl _ _).alloc (Nat.le_refl _) _
  have hg4 : W2.heap.size < (W2.alloc (.cells #[.int .i64 0, .string E0, .string s, .string E0, .bool false] 57)).heap.size := by simp
  generalize W2.alloc (.cells #[.int .i64 0, .string E0, .string s, .string E0, .bool false] 57) = W at *
  have H2w := Lib.hid (hc2.below hg2' hb4)
  have HBw := Lib.hid (hb2.trans (hb4.mono (Nat.le_of_lt hg2')))
  have HG2w := Lib.hid (Nat.lt_trans hg2' hg4)
  rw [hsz2] at hc4 hg4
  have H4w := Lib.hid hc4
  have HG4w := Lib.hid hg4
  clear hc2 hg2' hsz2 hb2 hc4 hb4 hg4
  go_wp2_with fail
  go_loopw [5] (fun i wr => ∃ k : Nat, k ≤ s.size ∧ i = .int .i64 k ∧ wr = W ∧ Hid ((63 : UInt8) ∉ s.data.toList.take k)) (fun i _ => s.size - (intOf i).toNat)
  case atStart => exact ⟨0, Nat.zero_le _, rfl, rfl, Lib.hid (by simp)⟩
  case round =>
    obtain ⟨k, hk, rfl, rfl, hno⟩ := hrel
    rcases Nat.lt_or_ge k s.size with hlt | hge
    · have i1 : (k : Int) < (s.size : Int) := by omega
      have hkl : k < s.data.toList.length := by rw [len]; exact hlt
      obtain ⟨c, hc⟩ : ∃ c, s.data.toList[k] = c := ⟨_, rfl⟩
      have hx : ∀ h, s[k]'h = c := fun _ => hc
      by_cases h63 : c = 63
      · have t1 : ((c.toNat : Int) == 63) = true := by rw [h63]; rfl
        obtain ⟨e1, e2, e3⟩ := HPP.out k hkl (hc.trans h63) hno.out
        have j0 : (0 : Int) ≤ (k : Int) := by omega
        have j1 : (k : Int) ≤ (s.size : Int) := by omega
        have m1 : IntKind.i64.wrap ((k : Int) + 1) = ((k + 1 : Nat) : Int) := by rw [wrap_in _ (by omega) (by omega)]; omega
        have j2 : (k : Int) + 1 ≤ (s.size : Int) := by omega
        have j3 : (0 : Int) ≤ (k : Int) + 1 := by omega
        clear h63 hc hkl hno
        subst e3
        go_wp2_with fail
        refine Sched.region [(0, false), (1, false), (2, false), (3, false), (4, false), (5, false), (6, false), (7, false), (8, true), (9, false), (10, true), (11, false), (12, true)] (fun _ => True) (by kernel_rfl) (by kernel_rfl) (fun _ _ d _ _ h => by cases d <;> exact h) trivial ?_
        have HY4 := Lib.hid (H4w.out.below HG4w.out (Base.below_drewN (Below.refl _ _) 1))
        have HY2 := Lib.hid (H2w.out.below HG2w.out (Base.below_drewN (Below.refl _ _) 1))
        have HYB := Lib.hid (Base.below_drewN HBw.out 1)
        have HYG : Hid (w.heap.size + 1 < (World.drewN wr 1).heap.size) := HG4w
        generalize World.drewN wr 1 = W6 at *
        simp only [Sched.picked, List.filterMap_cons, List.filterMap_nil, List.getElem?_cons_zero, List.getElem?_cons_succ, Option.map_some]
        iterate 8
          refine Sched.quiet (by rfl) ?_ ?_ ?_
          rotate_left 1
          · intro w' hS
            clear hS
            go_simp
            with_reducible rfl
          simp only [Act.put, List.setIfInBounds_toArray, List.set_cons_zero, List.set_cons_succ]
        obtain ⟨c0, c1, c2, c3, c4, z0, z1, z2, z3, z4⟩ := HY4.out
        refine Sched.change (by rfl) (fun K hK => ?_)
        go_simp
        refine hK _ _ trivial ?_
        clear hK K
        refine Sched.quiet (by rfl) ?_ ?_ ?_
        rotate_left 1
        · intro w' hS
          clear hS
          go_simp
          with_reducible rfl
        simp only [Act.put, List.setIfInBounds_toArray, List.set_cons_zero, List.set_cons_succ]
        refine Sched.change (by rfl) (fun K hK => ?_)
        go_simp
        refine hK _ _ trivial ?_
        clear hK K
        refine Sched.quiet (by rfl) ?_ ?_ ?_
        rotate_left 1
        · intro w' hS
          clear hS
          go_simp
          with_reducible rfl
        simp only [Act.put, List.setIfInBounds_toArray, List.set_cons_zero, List.set_cons_succ]
        refine Sched.change (by rfl) (fun K hK => ?_)
        go_simp
        refine hK _ _ trivial ?_
        clear hK K
        refine Sched.done ?_
        have H4 : Hid (Tgb (((W6.setCell ⟨w.heap.size + 1, 2, none⟩ (.string PP)).setCell ⟨w.heap.size + 1, 3, none⟩ (.string QQ)).setCell ⟨w.heap.size + 1, 4, none⟩ (.bool true)) (w.heap.size + 1) 0 E0 PP QQ true) := Lib.hid (by
          refine ⟨?_, ?_, ?_, ?_, ?_, ?_, ?_, ?_, ?_, ?_⟩
          all_goals go_simp)
        have hn42 : ¬ w.heap.size + 1 = w.heap.size := by omega
        have H2 := Lib.hid (((HY2.out.other (w.heap.size + 1) 2 (.string PP) hn42).other (w.heap.size + 1) 3 (.string QQ) hn42).other (w.heap.size + 1) 4 (.bool true) hn42)
        have hle : w.heap.size ≤ w.heap.size + 1 := Nat.le_succ _
        have HB := Lib.hid (((HYB.out.setCell (p := ⟨w.heap.size + 1, 2, none⟩) hle (.string PP)).setCell (p := ⟨w.heap.size + 1, 3, none⟩) hle (.string QQ)).setCell (p := ⟨w.heap.size + 1, 4, none⟩) hle (.bool true))
        have HG4 : Hid (w.heap.size + 1 < (((W6.setCell ⟨w.heap.size + 1, 2, none⟩ (.string PP)).setCell ⟨w.heap.size + 1, 3, none⟩ (.string QQ)).setCell ⟨w.heap.size + 1, 4, none⟩ (.bool true)).heap.size) := Lib.hid (by simpa using HYG.out)
        have HG2 := Lib.hid (Nat.lt_of_le_of_lt hle HG4.out)
        clear HY4 HY2 HYB HYG c0 c1 c2 c3 c4 z0 z1 z2 z3 z4 H4w H2w HBw HG4w HG2w
        generalize ((W6.setCell ⟨w.heap.size + 1, 2, none⟩ (.string PP)).setCell ⟨w.heap.size + 1, 3, none⟩ (.string QQ)).setCell ⟨w.heap.size + 1, 4, none⟩ (.bool true) = W7 at *
        go_wp2_with fail
        have HW7 := Lib.hid (H4.out.below HG4.out (Base.below_drewN (Below.refl _ _) 1))
        have HX7 := Lib.hid (H2.out.below HG2.out (Base.below_drewN (Below.refl _ _) 1))
        have HB7 := Lib.hid (Base.below_drewN HB.out 1)
        refine Sched.region [(0, false), (1, false), (2, false), (3, true), (4, false), (5, false), (6, false), (7, true), (8, false), (9, true), (10, false)] (fun w' => Tgb w' (w.heap.size + 1) 0 E0 PP QQ true) (by kernel_rfl) (by kernel_rfl) (fun _ _ d _ _ h => by cases d <;> exact h) HW7.out ?_
        generalize World.drewN W7 1 = W8 at *
        simp only [Sched.picked, List.filterMap_cons, List.filterMap_nil, List.getElem?_cons_zero, List.getElem?_cons_succ, Option.map_some]
        iterate 3
          refine Sched.quiet (by rfl) ?_ ?_ ?_
          rotate_left 1
          · intro w' hS
            obtain ⟨c0, c1, c2, c3, c4, _, _, _, _, _⟩ := hS
            go_simp
            with_reducible rfl
          simp only [Act.put, List.setIfInBounds_toArray, List.set_cons_zero, List.set_cons_succ]
        refine Sched.change (by rfl) (fun K hK => ?_)
        go_simp
        with_reducible refine (HP.out _).mono ?_
        rintro e w1 ⟨rfl, hw⟩
        rw [hw]
        clear hw
        dsimp only
        refine hK _ _ HW7.out ?_
        clear hK K
        refine Sched.move _ (by rfl) (by rfl) ?_
        simp only [Act.put, Act.eval, Array.getD_eq_getD_getElem?, List.getElem?_toArray, List.getElem?_cons_zero, List.getElem?_cons_succ, Option.getD_some, List.setIfInBounds_toArray, List.set_cons_zero, List.set_cons_succ]
        cases pk with
        | false =>
          iterate 3
            refine Sched.skip (by rfl) ?_
            simp only [Act.put, List.setIfInBounds_toArray, List.set_cons_zero, List.set_cons_succ]
          refine Sched.quiet (by rfl) (.bool false) ?_ ?_
          · intro w' hS
            clear hS
            go_simp
          simp only [Act.put, List.setIfInBounds_toArray, List.set_cons_zero, List.set_cons_succ]
          refine Sched.change (by rfl) (fun K hK => ?_)
          obtain ⟨c0, c1, c2, c3, c4, z0, z1, z2, z3, z4⟩ := HX7.out
          obtain ⟨W9, hW9, ⟨d0, d1, d2, d3, d4, _, _, _, _, _⟩, hbW⟩ := Tgb.put ⟨c0, c1, c2, c3, c4, z0, z1, z2, z3, z4⟩ HB7.out (Nat.le_refl _) 0 E0 PP QQ true
          go_simp
          refine hK _ _ ?_ ?_
          · rw [← hW9]
            exact ((((HW7.out.other w.heap.size 0 _ hn24).other w.heap.size 1 _ hn24).other w.heap.size 2 _ hn24).other w.heap.size 3 _ hn24).other w.heap.size 4 _ hn24
          clear hK K
          refine Sched.assign _ (by rfl) (by rfl) ?_
          simp only [Act.put, Act.eval, Array.getD_eq_getD_getElem?, List.getElem?_toArray, List.getElem?_cons_zero, List.getElem?_cons_succ, Option.getD_some, List.setIfInBounds_toArray, List.set_cons_zero, List.set_cons_succ]
          refine Sched.done ?_
          go_wp2
          exact bodyPost_ret (v := .tuple #[tv 0 E0 PP QQ true, .bool false]) (by simp [results, Tryz.results43, go_sem, d0, d1, d2, d3, d4]) rfl ⟨rfl, hbW⟩
        | true =>
          iterate 2
            refine Sched.quiet (by rfl) ?_ ?_ ?_
            rotate_left 1
            · intro w' hS
              obtain ⟨c0, c1, c2, c3, c4, _, _, _, _, _⟩ := hS
              go_simp
              with_reducible rfl
            simp only [Act.put, List.setIfInBounds_toArray, List.set_cons_zero, List.set_cons_succ]
          refine Sched.change (by rfl) (fun K hK => ?_)
          go_simp
          with_reducible refine (HQ.out _).mono ?_
          rintro e w1 ⟨rfl, hw⟩
          rw [hw]
          clear hw
          dsimp only
          refine hK _ _ HW7.out ?_
          clear hK K
          refine Sched.quiet (by rfl) (.bool qk) ?_ ?_
          · intro w' hS
            clear hS
            go_simp
          simp only [Act.put, List.setIfInBounds_toArray, List.set_cons_zero, List.set_cons_succ]
          refine Sched.change (by rfl) (fun K hK => ?_)
          obtain ⟨c0, c1, c2, c3, c4, z0, z1, z2, z3, z4⟩ := HX7.out
          obtain ⟨W9, hW9, ⟨d0, d1, d2, d3, d4, _, _, _, _, _⟩, hbW⟩ := Tgb.put ⟨c0, c1, c2, c3, c4, z0, z1, z2, z3, z4⟩ HB7.out (Nat.le_refl _) 0 E0 PP QQ true
          go_simp
          refine hK _ _ ?_ ?_
          · rw [← hW9]
            exact ((((HW7.out.other w.heap.size 0 _ hn24).other w.heap.size 1 _ hn24).other w.heap.size 2 _ hn24).other w.heap.size 3 _ hn24).other w.heap.size 4 _ hn24
          clear hK K
          refine Sched.assign _ (by rfl) (by rfl) ?_
          simp only [Act.put, Act.eval, Array.getD_eq_getD_getElem?, List.getElem?_toArray, List.getElem?_cons_zero, List.getElem?_cons_succ, Option.getD_some, List.setIfInBounds_toArray, List.set_cons_zero, List.set_cons_succ]
          refine Sched.done ?_
          go_wp2
          exact bodyPost_ret (v := .tuple #[tv 0 E0 PP QQ true, .bool qk]) (by simp [results, Tryz.results43, go_sem, d0, d1, d2, d3, d4]) rfl ⟨rfl, hbW⟩
      · have t1 : ((c.toNat : Int) == 63) = false := beq_eq_false_iff_ne.2 fun e => h63 (UInt8.toNat_inj.1 (by show c.toNat = 63; omega))
        have HN : Hid ((63 : UInt8) ∉ s.data.toList.take (k + 1)) := Lib.hid (by
          rw [List.take_succ_eq_append_getElem hkl, hc, List.mem_append, not_or]
          exact ⟨hno.out, by rw [List.mem_singleton]; exact fun e => h63 e.symm⟩)
        clear h63 hc hkl hno
        go_wp2_with fail
        go_roundw
        case rel => first | exact ⟨k + 1, by omega, by go_num, rfl, HN⟩ | exact ⟨k + 1, by omega, by go_num, trivial, HN⟩
        case measure => simp [intOf]; omega
    · obtain rfl : k = s.size := by omega
      have h1 := hno.out
      rw [take_all s _ (Nat.le_refl _)] at h1
      obtain ⟨e1, e2, e3⟩ := HEE.out h1
      clear hno h1
      subst e1 e2 e3
      go_wp2_with fail
      have H4 := H4w; have H2 := H2w; have HB := HBw; have HG4 := HG4w; have HG2 := HG2w
      clear H4w H2w HBw HG4w HG2w
      generalize wr = W7 at *
      have HW7 := Lib.hid (H4.out.below HG4.out (Base.below_drewN (Below.refl _ _) 1))
      have HX7 := Lib.hid (H2.out.below HG2.out (Base.below_drewN (Below.refl _ _) 1))
      have HB7 := Lib.hid (Base.below_drewN HB.out 1)
      refine Sched.region [(0, false), (1, false), (2, false), (3, true), (4, false), (5, false), (6, false), (7, true), (8, false), (9, true), (10, false)] (fun w' => Tgb w' (w.heap.size + 1) 0 E0 s E0 false) (by kernel_rfl) (by kernel_rfl) (fun _ _ d _ _ h => by cases d <;> exact h) HW7.out ?_
      generalize World.drewN W7 1 = W8 at *
      simp only [Sched.picked, List.filterMap_cons, List.filterMap_nil, List.getElem?_cons_zero, List.getElem?_cons_succ, Option.map_some]
      iterate 3
        refine Sched.quiet (by rfl) ?_ ?_ ?_
        rotate_left 1
        · intro w' hS
          obtain ⟨c0, c1, c2, c3, c4, _, _, _, _, _⟩ := hS
          go_simp
          with_reducible rfl
        simp only [Act.put, List.setIfInBounds_toArray, List.set_cons_zero, List.set_cons_succ]
      refine Sched.change (by rfl) (fun K hK => ?_)
      go_simp
      with_reducible refine (HP.out _).mono ?_
      rintro e w1 ⟨rfl, hw⟩
      rw [hw]
      clear hw
      dsimp only
      refine hK _ _ HW7.out ?_
      clear hK K
      refine Sched.move _ (by rfl) (by rfl) ?_
      simp only [Act.put, Act.eval, Array.getD_eq_getD_getElem?, List.getElem?_toArray, List.getElem?_cons_zero, List.getElem?_cons_succ, Option.getD_some, List.setIfInBounds_toArray, List.set_cons_zero, List.set_cons_succ]
      cases pk with
      | false =>
        iterate 3
          refine Sched.skip (by rfl) ?_
          simp only [Act.put, List.setIfInBounds_toArray, List.set_cons_zero, List.set_cons_succ]
        refine Sched.quiet (by rfl) (.bool false) ?_ ?_
        · intro w' hS
          clear hS
          go_simp
        simp only [Act.put, List.setIfInBounds_toArray, List.set_cons_zero, List.set_cons_succ]
        refine Sched.change (by rfl) (fun K hK => ?_)
        obtain ⟨c0, c1, c2, c3, c4, z0, z1, z2, z3, z4⟩ := HX7.out
        obtain ⟨W9, hW9, ⟨d0, d1, d2, d3, d4, _, _, _, _, _⟩, hbW⟩ := Tgb.put ⟨c0, c1, c2, c3, c4, z0, z1, z2, z3, z4⟩ HB7.out (Nat.le_refl _) 0 E0 s E0 false
        go_simp
        refine hK _ _ ?_ ?_
        · rw [← hW9]
          exact ((((HW7.out.other w.heap.size 0 _ hn24).other w.heap.size 1 _ hn24).other w.heap.size 2 _ hn24).other w.heap.size 3 _ hn24).other w.heap.size 4 _ hn24
        clear hK K
        refine Sched.assign _ (by rfl) (by rfl) ?_
        simp only [Act.put, Act.eval, Array.getD_eq_getD_getElem?, List.getElem?_toArray, List.getElem?_cons_zero, List.getElem?_cons_succ, Option.getD_some, List.setIfInBounds_toArray, List.set_cons_zero, List.set_cons_succ]
        refine Sched.done ?_
        go_wp2
        exact bodyPost_ret (v := .tuple #[tv 0 E0 s E0 false, .bool false]) (by simp [results, Tryz.results43, go_sem, d0, d1, d2, d3, d4]) rfl ⟨rfl, hbW⟩
      | true =>
        iterate 2
          refine Sched.quiet (by rfl) ?_ ?_ ?_
          rotate_left 1
          · intro w' hS
            obtain ⟨c0, c1, c2, c3, c4, _, _, _, _, _⟩ := hS
            go_simp
            with_reducible rfl
          simp only [Act.put, List.setIfInBounds_toArray, List.set_cons_zero, List.set_cons_succ]
        refine Sched.change (by rfl) (fun K hK => ?_)
        go_simp
        with_reducible refine (HQ.out _).mono ?_
        rintro e w1 ⟨rfl, hw⟩
        rw [hw]
        clear hw
        dsimp only
        refine hK _ _ HW7.out ?_
        clear hK K
        refine Sched.quiet (by rfl) (.bool qk) ?_ ?_
        · intro w' hS
          clear hS
          go_simp
        simp only [Act.put, List.setIfInBounds_toArray, List.set_cons_zero, List.set_cons_succ]
        refine Sched.change (by rfl) (fun K hK => ?_)
        obtain ⟨c0, c1, c2, c3, c4, z0, z1, z2, z3, z4⟩ := HX7.out
        obtain ⟨W9, hW9, ⟨d0, d1, d2, d3, d4, _, _, _, _, _⟩, hbW⟩ := Tgb.put ⟨c0, c1, c2, c3, c4, z0, z1, z2, z3, z4⟩ HB7.out (Nat.le_refl _) 0 E0 s E0 false
        go_simp
        refine hK _ _ ?_ ?_
        · rw [← hW9]
          exact ((((HW7.out.other w.heap.size 0 _ hn24).other w.heap.size 1 _ hn24).other w.heap.size 2 _ hn24).other w.heap.size 3 _ hn24).other w.heap.size 4 _ hn24
        clear hK K
        refine Sched.assign _ (by rfl) (by rfl) ?_
        simp only [Act.put, Act.eval, Array.getD_eq_getD_getElem?, List.getElem?_toArray, List.getElem?_cons_zero, List.getElem?_cons_succ, Option.getD_some, List.setIfInBounds_toArray, List.set_cons_zero, List.set_cons_succ]
        refine Sched.done ?_
        go_wp2
        exact bodyPost_ret (v := .tuple #[tv 0 E0 s E0 false, .bool qk]) (by simp [results, Tryz.results43, go_sem, d0, d1, d2, d3, d4]) rfl ⟨rfl, hbW⟩
end code
end Go.Proofs.YtlignmlkoahbmaaGreatDoor.Tgt
