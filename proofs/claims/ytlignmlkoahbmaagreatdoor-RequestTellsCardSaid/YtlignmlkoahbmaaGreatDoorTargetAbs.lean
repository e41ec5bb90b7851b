/-
  Layer 7 (target): what package target's absolute and Parse answer, of every method and text up to a great size.
-/
import Derived.Test.YtlignmlkoahbmaaGreatDoorTargetParse
import Derived.Deep.CutBlock
import Derived.Deep.DeepCutAuto
namespace Go.Proofs.YtlignmlkoahbmaaGreatDoor.Tgt
open Go.RowKit Base Oct Num Txt

theorem hostOf_le (l : List UInt8) : (hostOf l).length ≤ l.length := (List.takeWhile_sublist _).length_le
theorem restOf_le (l : List UInt8) : (restOf l).length ≤ l.length := (List.dropWhile_sublist _).length_le
theorem slashed_le (l : List UInt8) : (slashed l).length ≤ l.length + 1 := by unfold slashed; split <;> simp
section code
set_option maxHeartbeats 1000000
attribute [local go_sem] Base.some_undef
theorem absolute_any (s : ByteArray) (w : World) (hs : s.size ≤ 900000000) : Calls Tryz.prog 56 #[.string s] w fun e w' => e = .returned (ans (absolute s.data.toList)) ∧ Below w.heap.size w w' := by
  have HI := Lib.hid (fun w => indexAny_any s w (by omega))
  obtain ⟨R, hR⟩ : ∃ R, absolute s.data.toList = R := ⟨_, rfl⟩
  rw [hR]
  unfold absolute at hR
  have hl1 := hostOf_le s.data.toList
  have hl2 := restOf_le s.data.toList
  have hl3 := slashed_le (restOf s.data.toList)
  rw [len] at hl1 hl2
  have hsp := idx_split s.data.toList
  rw [len] at hsp
  have e1 : ∀ i : Nat, i ≤ s.size → s.extract 0 i = ba (s.data.toList.take i) := fun i _ => ba_ext (by rw [Lib.extract_data]; simp [ba])
  have e2 : ∀ i : Nat, s.extract i s.size = ba (s.data.toList.drop i) := fun i => ba_ext (by rw [drop_ext]; rfl)
  have e3 : s = ba s.data.toList := rfl
  generalize hostOf s.data.toList = ho at *
  generalize restOf s.data.toList = re at *
  generalize Lib.indexAny s.data.toList [47, 63] = ix at *
  have HSP := Lib.hid hsp
  clear hsp
  have E1 := Lib.hid e1; have E2 := Lib.hid e2; have E3 := Lib.hid e3
  clear e1 e2 e3
  have HO := Lib.hid (fun (w : World) => origin_any (ba (slashed re)) w (by rw [ba_size]; omega))
  have HH := Lib.hid (fun (w : World) => host_any (ba ho) w (by rw [ba_size]; omega))
  have HS := Lib.hid (fun (w : World) => slash_any (ba re) w)
  rw [ba_list] at HO HH HS
  have hrz : (ba re).size ≤ 1000000000 := by rw [ba_size]; omega
  have hv : ¬ 9223372036854775807 < 1 + (ba re).size := by omega
  have hSl : slashed re = if re.head? = some 47 then re else 47 :: re := rfl
  have hbaS : ∀ l : List UInt8, (⟨#[47]⟩ : ByteArray) ++ ba l = ba (47 :: l) := fun l => ba_ext (by simp [ba])
  have HBA := Lib.hid hbaS
  clear hbaS hrz hl1 hl2 hl3
  have HCC := Lib.hid (Tgb.new w 57 0 E0 E0 E0 false)
  have HWW := Lib.hid (show Below w.heap.size w (w.alloc (.cells #[.int .i64 0, .string E0, .string E0, .string E0, .bool false] 57)) from (Below.refl _ _).alloc (Nat.le_refl _) _)
  have HG := Lib.hid (show w.heap.size < (w.alloc (.cells #[.int .i64 0, .string E0, .string E0, .string E0, .bool false] 57)).heap.size by simp)
  generalize hSS : slashed re = sl at *
  have HSl := Lib.hid hSl
  clear hSl hSS
  go_enter Tryz.func56, Tryz.ntmps56
  go_upto_if 13 with (go_at_call 78; with_reducible refine (HI.out _).mono ?_; rintro e w1 ⟨rfl, hb⟩)
  have HT1 := Lib.hid (HCC.out.below HG.out hb)
  have HB1 := Lib.hid (Base.below_step HWW.out hb)
  have HG1 := Lib.hid (Nat.lt_of_lt_of_le HG.out hb.size)
  clear hb HCC HWW HG HI
  go_cut [4, 5] from 12 (fun h r wx => h = .string (ba ho) ∧ r = .string (ba re) ∧ Hid (∃ n, wx = w1.drewN n))
  case first =>
    rcases HSP.out with ⟨rfl, h2, h3⟩ | ⟨i, h0, rfl, h2, h3⟩
    · have H2 := Lib.hid h2; have H3 := Lib.hid h3
      clear h2 h3
      go_wp2_with fail
      go_meet
      case rel => exact ⟨by rw [H2.out]; rfl, by rw [H3.out]; rfl, Lib.hid ⟨0, rfl⟩⟩
    · have H2 := Lib.hid h2; have H3 := Lib.hid h3
      have c0 : (0 : Int) ≤ (i : Int) := by omega
      have c1 : (i : Int) ≤ (s.size : Int) := by omega
      have hi := Lib.hid (Nat.le_of_lt h0)
      clear h2 h3 h0
      go_wp2_with fail
      go_quiet (fail)
      rename_i nq
      go_wp2_with fail
      go_meet
      case rel => exact ⟨by rw [H2.out, E1.out i hi.out], by rw [H3.out, E2.out i], Lib.hid ⟨nq, rfl⟩⟩
  case rest =>
    obtain ⟨rfl, rfl, hwc⟩ := hcut
    have HT2 : Hid (Tgb wc w.heap.size 0 E0 E0 E0 false) := by
      obtain ⟨n, hn⟩ := hwc.out
      exact Lib.hid (hn ▸ HT1.out.below HG1.out (Base.below_drewN (Below.refl _ _) n))
    have HB2 : Hid (Below w.heap.size w wc) := by
      obtain ⟨n, hn⟩ := hwc.out
      exact Lib.hid (hn ▸ Base.below_drewN HB1.out n)
    have HG2 : Hid (w.heap.size < wc.heap.size) := by
      obtain ⟨n, hn⟩ := hwc.out
      exact Lib.hid (hn ▸ HG1.out)
    clear hwc HT1 HB1 HG1
    go_upto_if 22 with (go_at_call 53; with_reducible refine (HS.out _).mono ?_; rintro e w2 ⟨rfl, hw⟩; rw [hw]; clear hw)
    go_cut [5] from 12 (fun r wx => r = .string (ba sl) ∧ wx = wc)
    case first =>
      by_cases hd : re.head? = some 47
      · have H1 := Lib.hid (HSl.out.trans (if_pos hd))
        rw [decide_eq_true hd]
        clear hd
        go_wp2_with fail
        go_meet
        case rel => exact ⟨by rw [H1.out], rfl⟩
      · have H1 := Lib.hid (HSl.out.trans (if_neg hd))
        rw [decide_eq_false hd]
        clear hd
        go_wp2_with fail
        go_meet
        case rel => exact ⟨by rw [H1.out, HBA.out], rfl⟩
    case rest =>
      obtain ⟨rfl, rfl⟩ := hcut
      clear HS HBA HSl HSP E1 E2 E3 hv
      generalize ba sl = SL at *
      cases hor : origin sl with
      | none =>
        rw [hor] at HO hR
        obtain rfl : none = R := hR
        have HO2 : Hid (∀ w, Calls Tryz.prog 54 #[.string SL] w fun e w' => e = .returned (.tuple #[tv 0 E0 E0 E0 false, .int .i64 400]) ∧ Below w.heap.size w w') := HO
        clear HO hor
        go_upto_if 36 with (go_at_call 54; with_reducible refine (HO2.out _).mono ?_; rintro e w2 ⟨rfl, hb⟩)
        have hb3 : Below wc.heap.size wc (w2.alloc (.cells #[.int .i64 0, .string E0, .string E0, .string E0, .bool false] 57)) := hb.alloc hb.size _
        generalize w2.alloc (.cells #[.int .i64 0, .string E0, .string E0, .string E0, .bool false] 57) = W3 at *
        obtain ⟨c0, c1, c2, c3, c4, z0, z1, z2, z3, z4⟩ := HT2.out.below HG2.out hb3
        have HB := Lib.hid (Base.below_step HB2.out hb3)
        clear hb hb3 HT2 HB2 HG2
        go_wp2_with fail
        obtain ⟨W, hW, ⟨d0, d1, d2, d3, d4, _, _, _, _, _⟩, hbW⟩ := Tgb.put ⟨c0, c1, c2, c3, c4, z0, z1, z2, z3, z4⟩ HB.out (Nat.le_refl _) 0 E0 E0 E0 false
        rw [hW]
        exact bodyPost_ret (v := .tuple #[tv 0 E0 E0 E0 false, .int .i64 400]) (by simp [results, Tryz.results56, go_sem, d0, d1, d2, d3, d4]) rfl ⟨rfl, hbW⟩
      | some u =>
        obtain ⟨_, f1, f2⟩ := putPath_origin hor
        rw [hor] at HO hR
        obtain ⟨uf, uh, up, uq, ua⟩ := u
        simp only at f1 f2
        subst f1 f2
        have HO2 : Hid (∀ w, Calls Tryz.prog 54 #[.string SL] w fun e w' => e = .returned (.tuple #[tv 1 E0 (ba up) (ba uq) ua, .int .i64 0]) ∧ Below w.heap.size w w') := HO
        clear HO hor
        simp only at hR
        cases hh : hostB ho with
        | false =>
          rw [hh] at HH hR
          obtain rfl : none = R := hR
          go_upto_if 36 with (first
            | (go_at_call 54; with_reducible refine (HO2.out _).mono ?_; rintro e w2 ⟨rfl, hb⟩
               have hb3 : Below wc.heap.size wc (w2.alloc (.cells #[.int .i64 1, .string E0, .string (ba up), .string (ba uq), .bool ua] 57)) := hb.alloc hb.size _
               clear hb)
            | (go_at_call 72; with_reducible refine (HH.out _).mono ?_; rintro e w4 ⟨rfl, hb4⟩))
          have hb' := Base.below_step hb3 hb4
          obtain ⟨c0, c1, c2, c3, c4, z0, z1, z2, z3, z4⟩ := HT2.out.below HG2.out hb'
          have HB := Lib.hid (Base.below_step HB2.out hb')
          clear hb3 hb4 hb' HT2 HB2 HG2
          go_wp2_with fail
          obtain ⟨W, hW, ⟨d0, d1, d2, d3, d4, _, _, _, _, _⟩, hbW⟩ := Tgb.put ⟨c0, c1, c2, c3, c4, z0, z1, z2, z3, z4⟩ HB.out (Nat.le_refl _) 0 E0 E0 E0 false
          rw [hW]
          exact bodyPost_ret (v := .tuple #[tv 0 E0 E0 E0 false, .int .i64 400]) (by simp [results, Tryz.results56, go_sem, d0, d1, d2, d3, d4]) rfl ⟨rfl, hbW⟩
        | true =>
          rw [hh] at HH hR
          obtain rfl : some ⟨2, ho, up, uq, ua⟩ = R := hR
          go_upto_if 36 with (first
            | (go_at_call 54; with_reducible refine (HO2.out _).mono ?_; rintro e w2 ⟨rfl, hb⟩
               have hb3 : Below wc.heap.size wc (w2.alloc (.cells #[.int .i64 1, .string E0, .string (ba up), .string (ba uq), .bool ua] 57)) := hb.alloc hb.size _
               have HT5 := Lib.hid (Tgb.new w2 57 1 E0 (ba up) (ba uq) ua)
               have HG5 := Lib.hid (show w2.heap.size < (w2.alloc (.cells #[.int .i64 1, .string E0, .string (ba up), .string (ba uq), .bool ua] 57)).heap.size by simp)
               have hne : w.heap.size < w2.heap.size := Nat.lt_of_lt_of_le HG2.out hb.size
               clear hb)
            | (go_at_call 72; with_reducible refine (HH.out _).mono ?_; rintro e w4 ⟨rfl, hb4⟩))
          have hb' := Base.below_step hb3 hb4
          obtain ⟨c0, c1, c2, c3, c4, z0, z1, z2, z3, z4⟩ := HT2.out.below HG2.out hb'
          obtain ⟨a0, a1, a2, a3, a4, y0, y1, y2, y3, y4⟩ := HT5.out.below HG5.out hb4
          have HB := Lib.hid (Base.below_step HB2.out hb')
          clear hb3 hb4 hb' HT2 HB2 HG2 HT5 HG5
          have n1 : ¬ w.heap.size = w2.heap.size := by omega
          have n2 : ¬ w2.heap.size = w.heap.size := by omega
          generalize w2.heap.size = g7 at *
          go_wp2_with fail
          have hB5 := (HB.out.setCell (p := ⟨g7, 0, none⟩) (Nat.le_of_lt hne) (.int .i64 2)).setCell (p := ⟨g7, 1, none⟩) (Nat.le_of_lt hne) (.string (ba ho))
          obtain ⟨W, hW, ⟨d0, d1, d2, d3, d4, _, _, _, _, _⟩, hbW⟩ := Tgb.put (((Tgb.mk c0 c1 c2 c3 c4 z0 z1 z2 z3 z4).other g7 0 (.int .i64 2) n2).other g7 1 (.string (ba ho)) n2) hB5 (Nat.le_refl _) 2 (ba ho) (ba up) (ba uq) ua
          rw [hW]
          exact bodyPost_ret (v := .tuple #[tv 2 (ba ho) (ba up) (ba uq) ua, .int .i64 0]) (by simp [results, Tryz.results56, go_sem, d0, d1, d2, d3, d4]) rfl ⟨rfl, hbW⟩

/-- Whether two texts are one. -/
theorem toList_ba (m : ByteArray) (l : List UInt8) : (m.toList == l) = decide (m.data.toList = l) := by
  rw [Lib.toList_data, Bool.eq_iff_iff, beq_iff_eq, decide_eq_true_eq]
/-- .. by the two ways that a walk writes it. -/
theorem eq_facts (m : ByteArray) (l : List UInt8) (b : Bool) (h : decide (m.data.toList = l) = b) : (m.toList == l) = b ∧ (m.toList == (ByteArray.mk l.toArray).toList) = b := by
  have h1 := toList_ba m l
  rw [h] at h1
  exact ⟨h1, by rw [show (ByteArray.mk l.toArray).toList = l from Lib.toList_data _]; exact h1⟩
theorem ans_form (R : Option Tg) : ∃ (f : Int) (h p q : ByteArray) (a : Bool) (e : Int), ans R = .tuple #[tv f h p q a, .int .i64 e] := by
  cases R with
  | none => exact ⟨_, _, _, _, _, _, rfl⟩
  | some t => exact ⟨_, _, _, _, _, _, rfl⟩
theorem parse_any (m s : ByteArray) (w : World) (hs : s.size ≤ 900000000) : Calls Tryz.prog 33 #[.string m, .string s] w fun e w' => e = .returned (ans (parse m.data.toList s.data.toList)) ∧ Below w.heap.size w w' := by
  have HCC := Lib.hid (Tgb.new w 57 0 E0 E0 E0 false)
  have HWW := Lib.hid (show Below w.heap.size w (w.alloc (.cells #[.int .i64 0, .string E0, .string E0, .string E0, .bool false] 57)) from (Below.refl _ _).alloc (Nat.le_refl _) _)
  have HG := Lib.hid (show w.heap.size < (w.alloc (.cells #[.int .i64 0, .string E0, .string E0, .string E0, .bool false] 57)).heap.size by simp)
  by_cases hm : m.data.toList = connect
  · have HA := Lib.hid (fun w => authority_any s w (by omega))
    rw [parse, if_pos hm]
    obtain ⟨t1, t2⟩ := eq_facts m [67, 79, 78, 78, 69, 67, 84] true (decide_eq_true hm)
    clear hm
    obtain ⟨f, h, p, q, a, en, hE⟩ := ans_form (authority s.data.toList)
    rw [hE] at HA ⊢
    clear hE
    go_enter Tryz.func33, Tryz.ntmps33
    go_wp2_with (go_at_call 52; with_reducible refine (HA.out _).mono ?_; rintro e w2 ⟨rfl, hb⟩
                 obtain ⟨c0, c1, c2, c3, c4, z0, z1, z2, z3, z4⟩ := HCC.out.below HG.out hb
                 have HB := Lib.hid (Base.below_step HWW.out hb)
                 clear hb)
    obtain ⟨W, hW, ⟨d0, d1, d2, d3, d4, _, _, _, _, _⟩, hbW⟩ := Tgb.put ⟨c0, c1, c2, c3, c4, z0, z1, z2, z3, z4⟩ HB.out (Nat.le_refl _) f h p q a
    rw [hW]
    exact bodyPost_ret (v := .tuple #[tv f h p q a, .int .i64 en]) (by simp [results, Tryz.results33, go_sem, d0, d1, d2, d3, d4]) rfl ⟨rfl, hbW⟩
  · obtain ⟨t1, t2⟩ := eq_facts m [67, 79, 78, 78, 69, 67, 84] false (decide_eq_false hm)
    rw [parse, if_neg hm]
    clear hm
    by_cases ho : m.data.toList = options ∧ s.data.toList = [42]
    · obtain ⟨t3, t4⟩ := eq_facts m [79, 80, 84, 73, 79, 78, 83] true (decide_eq_true ho.1)
      obtain ⟨t5, t6⟩ := eq_facts s [42] true (decide_eq_true ho.2)
      rw [if_pos ho]
      clear ho HCC HWW HG
      go_enter Tryz.func33, Tryz.ntmps33
      go_wp2_with fail
      exact bodyPost_ret (v := .tuple #[tv 4 E0 E0 E0 false, .int .i64 0]) (by simp [results, Tryz.results33, go_sem]) rfl ⟨rfl, (Below.refl _ _).alloc (Nat.le_refl _) _⟩
    · rw [if_neg ho]
      have hno : ((m.toList == [79, 80, 84, 73, 79, 78, 83]) = false ∧ (m.toList == (ByteArray.mk #[79, 80, 84, 73, 79, 78, 83]).toList) = false) ∨ ((m.toList == [79, 80, 84, 73, 79, 78, 83]) = true ∧ (m.toList == (ByteArray.mk #[79, 80, 84, 73, 79, 78, 83]).toList) = true ∧ (s.toList == [42]) = false ∧ (s.toList == (ByteArray.mk #[42]).toList) = false) := by
        by_cases h1 : m.data.toList = options
        · obtain ⟨t3, t4⟩ := eq_facts m [79, 80, 84, 73, 79, 78, 83] true (decide_eq_true h1)
          obtain ⟨t5, t6⟩ := eq_facts s [42] false (decide_eq_false fun e => ho ⟨h1, e⟩)
          exact .inr ⟨t3, t4, t5, t6⟩
        · obtain ⟨t3, t4⟩ := eq_facts m [79, 80, 84, 73, 79, 78, 83] false (decide_eq_false h1)
          exact .inl ⟨t3, t4⟩
      clear ho
      have HS := Lib.hid (fun w => slash_any s w)
      by_cases hd : s.data.toList.head? = some 47
      · rw [decide_eq_true hd] at HS
        rw [if_pos hd]
        clear hd
        have HO := Lib.hid (fun w => origin_any s w (by omega))
        obtain ⟨f, h, p, q, a, en, hE⟩ := ans_form (origin s.data.toList)
        rw [hE] at HO ⊢
        clear hE
        rcases hno with ⟨t3, t4⟩ | ⟨t3, t4, t5, t6⟩
        all_goals
          go_enter Tryz.func33, Tryz.ntmps33
          go_wp2_with (first
            | (go_at_call 53; with_reducible refine (HS.out _).mono ?_; rintro e w2 ⟨rfl, hw⟩; rw [hw]; clear hw)
            | (go_at_call 54; with_reducible refine (HO.out _).mono ?_; rintro e w2 ⟨rfl, hb⟩
               obtain ⟨c0, c1, c2, c3, c4, z0, z1, z2, z3, z4⟩ := HCC.out.below HG.out hb
               have HB := Lib.hid (Base.below_step HWW.out hb)
               clear hb))
          obtain ⟨W, hW, ⟨d0, d1, d2, d3, d4, _, _, _, _, _⟩, hbW⟩ := Tgb.put ⟨c0, c1, c2, c3, c4, z0, z1, z2, z3, z4⟩ HB.out (Nat.le_refl _) f h p q a
          rw [hW]
          exact bodyPost_ret (v := .tuple #[tv f h p q a, .int .i64 en]) (by simp [results, Tryz.results33, go_sem, d0, d1, d2, d3, d4]) rfl ⟨rfl, hbW⟩
      · rw [decide_eq_false hd] at HS
        rw [if_neg hd]
        clear hd
        by_cases h7 : 7 ≤ s.size
        · have q7 : (7 : Int) ≤ (s.size : Int) := by omega
          have x1 : (s.extract 0 7).data.toList = s.data.toList.take 7 := by rw [Lib.extract_data]; simp
          have hx1 : (s.extract 0 7).size ≤ maxLen := by rw [← len, x1, List.length_take]; unfold maxLen; omega
          have HM := Lib.hid (fun w => Txt.same_any (s.extract 0 7) ⟨#[104, 116, 116, 112, 58, 47, 47]⟩ w hx1)
          have hsm : same (s.extract 0 7) ⟨#[104, 116, 116, 112, 58, 47, 47]⟩ = schemed s.data.toList := by
            unfold same schemed
            rw [x1, len, decide_eq_true h7]; rfl
          rw [hsm] at HM
          clear x1 hx1 hsm h7
          cases hsc : schemed s.data.toList with
          | true =>
            rw [hsc] at HM
            rw [if_pos rfl]
            have x2 := drop_ext s 7
            have HO := Lib.hid (fun w => absolute_any (s.extract 7 s.size) w (by rw [← len, x2, List.length_drop, len]; omega))
            rw [x2] at HO
            obtain ⟨f, h, p, q, a, en, hE⟩ := ans_form (absolute (s.data.toList.drop 7))
            rw [hE] at HO ⊢
            clear hE x2 hsc
            rcases hno with ⟨t3, t4⟩ | ⟨t3, t4, t5, t6⟩
            all_goals
              go_enter Tryz.func33, Tryz.ntmps33
              go_wp2_with (first
                | (go_at_call 53; with_reducible refine (HS.out _).mono ?_; rintro e w2 ⟨rfl, hw⟩; rw [hw]; clear hw)
                | (go_at_call 55; with_reducible refine (HM.out _).mono ?_; rintro e w2 ⟨rfl, hb⟩)
                | (go_at_call 56; with_reducible refine (HO.out _).mono ?_; rintro e w3 ⟨rfl, hb3⟩
                   have hb' := Base.below_step hb hb3
                   obtain ⟨c0, c1, c2, c3, c4, z0, z1, z2, z3, z4⟩ := HCC.out.below HG.out hb'
                   have HB := Lib.hid (Base.below_step HWW.out hb')
                   clear hb hb3 hb'))
              obtain ⟨W, hW, ⟨d0, d1, d2, d3, d4, _, _, _, _, _⟩, hbW⟩ := Tgb.put ⟨c0, c1, c2, c3, c4, z0, z1, z2, z3, z4⟩ HB.out (Nat.le_refl _) f h p q a
              rw [hW]
              exact bodyPost_ret (v := .tuple #[tv f h p q a, .int .i64 en]) (by simp [results, Tryz.results33, go_sem, d0, d1, d2, d3, d4]) rfl ⟨rfl, hbW⟩
          | false =>
            rw [hsc] at HM
            rw [if_neg (by decide)]
            clear hsc
            rcases hno with ⟨t3, t4⟩ | ⟨t3, t4, t5, t6⟩
            all_goals
              go_enter Tryz.func33, Tryz.ntmps33
              go_wp2_with (first
                | (go_at_call 53; with_reducible refine (HS.out _).mono ?_; rintro e w2 ⟨rfl, hw⟩; rw [hw]; clear hw)
                | (go_at_call 55; with_reducible refine (HM.out _).mono ?_; rintro e w2 ⟨rfl, hb⟩
                   obtain ⟨c0, c1, c2, c3, c4, z0, z1, z2, z3, z4⟩ := HCC.out.below HG.out hb
                   have HB := Lib.hid (Base.below_step HWW.out hb)
                   clear hb))
              obtain ⟨W, hW, ⟨d0, d1, d2, d3, d4, _, _, _, _, _⟩, hbW⟩ := Tgb.put ⟨c0, c1, c2, c3, c4, z0, z1, z2, z3, z4⟩ HB.out (Nat.le_refl _) 0 E0 E0 E0 false
              rw [hW]
              exact bodyPost_ret (v := .tuple #[tv 0 E0 E0 E0 false, .int .i64 400]) (by simp [results, Tryz.results33, go_sem, d0, d1, d2, d3, d4]) rfl ⟨rfl, hbW⟩
        · have q7 : ¬ (7 : Int) ≤ (s.size : Int) := by omega
          have hsc : schemed s.data.toList = false := by unfold schemed; rw [len, decide_eq_false h7, Bool.false_and]
          rw [hsc, if_neg (by decide)]
          clear hsc h7 HCC HWW HG
          rcases hno with ⟨t3, t4⟩ | ⟨t3, t4, t5, t6⟩
          all_goals
            go_enter Tryz.func33, Tryz.ntmps33
            go_wp2_with (go_at_call 53; with_reducible refine (HS.out _).mono ?_; rintro e w2 ⟨rfl, hw⟩; rw [hw]; clear hw)
            exact bodyPost_ret (v := .tuple #[tv 0 E0 E0 E0 false, .int .i64 400]) (by simp [results, Tryz.results33, go_sem]) rfl ⟨rfl, (Below.refl _ _).alloc (Nat.le_refl _) _⟩
end code
end Go.Proofs.YtlignmlkoahbmaaGreatDoor.Tgt
