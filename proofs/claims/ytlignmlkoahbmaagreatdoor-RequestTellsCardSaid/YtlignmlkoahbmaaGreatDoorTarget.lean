/-
  Layer 7 (target): what package target's Host, Path, Query answer, of every text up to a great size.
-/
import Derived.Test.YtlignmlkoahbmaaGreatDoorTargetCut
import Derived.Test.YtlignmlkoahbmaaGreatDoorNumReads
import Derived.Test.YtlignmlkoahbmaaGreatDoorText
namespace Go.Proofs.YtlignmlkoahbmaaGreatDoor.Tgt
open Go.RowKit Base Oct Num Txt

/-- Two answers, one a list's. -/
theorem size_cons {s : ByteArray} {c : UInt8} {r : List UInt8} (h : s.data.toList = c :: r) : s.size = r.length + 1 := by rw [← len, h]; rfl
theorem empty_of {s : ByteArray} (h : s.data.toList = []) : s.toList.isEmpty = true := by rw [Lib.toList_data, h]; rfl
theorem full_of {s : ByteArray} {c : UInt8} {r : List UInt8} (h : s.data.toList = c :: r) : s.toList.isEmpty = false := by rw [Lib.toList_data, h]; rfl
theorem ba_list (l : List UInt8) : (ba l).data.toList = l := rfl
theorem ba_size (l : List UInt8) : (ba l).size = l.length := len_mk l
theorem at_zero {s : ByteArray} {c : UInt8} {r : List UInt8} (h : s.data.toList = c :: r) (h0 : 0 < s.size) : s[0] = c := by
  have := Lib.data_getElem? s 0 h0
  rw [h] at this
  exact (Option.some.inj this).symm
theorem drop_ext (s : ByteArray) (k : Nat) : (s.extract k s.size).data.toList = s.data.toList.drop k := by
  rw [Lib.extract_data, List.take_of_length_le (by rw [List.length_drop, len]; omega)]

section code
set_option maxHeartbeats 1000000
attribute [local go_sem] Base.some_undef
theorem plain_any (c : UInt8) (ms : ByteArray) (w : World) : Calls Tryz.prog 102 #[.int .u8 c.toNat, .string ms] w fun e w' => e = .returned (.bool (plainB ms.data.toList c)) ∧ w' = w := by
  have HD := Lib.hid (fun w => Oct.digit_any (c.toNat : Int) w)
  have HI := Lib.hid (fun w => Tryz.strings_IndexByte ms (c.toNat : Int) w)
  have hcon := Lib.hid (Lib.contains_iff_indexByte ms.data.toList c)
  have hback : ((c.toNat : Int)).toNat.toUInt8 = c := by simp
  rw [hback] at HI
  clear hback
  have hP := Lib.hid (show plainB ms.data.toList c = (Oct.letter (c.toNat : Int) || Oct.digit (c.toNat : Int) || ms.data.toList.contains c) from rfl)
  rw [hcon.out] at hP
  clear hcon
  generalize Lib.indexByte ms.data.toList c = ix at *
  generalize plainB ms.data.toList c = r at *
  generalize (c.toNat : Int) = n at *
  go_enter Tryz.func102, Tryz.ntmps102
  go_wp2_with (first
    | (go_at_call 57; with_reducible refine (HD.out _).mono ?_; rintro e w1 ⟨rfl, hw⟩; rw [hw]; clear hw)
    | (go_at_call 101; with_reducible refine (HI.out _).mono ?_; rintro e w1 ⟨rfl, hw⟩; rw [hw]; clear hw))
  all_goals (go_ret; exact ⟨ret_bool (by rw [hP.out]; simp [Oct.letter, *] <;> omega), rfl⟩)

theorem isName_any (s : ByteArray) (w : World) (hs : s.size ≤ 1000000000) : Calls Tryz.prog 88 #[.string s] w fun e w' => e = .returned (.bool (s.data.toList.all (plainB nameMarks))) ∧ w' = w := by
  obtain ⟨A, hA⟩ : ∃ A, s.data.toList.all (plainB nameMarks) = A := ⟨_, rfl⟩
  rw [hA]
  have HA := Lib.hid hA
  clear hA
  go_enter Tryz.func88, Tryz.ntmps88
  go_wp2
  go_loop [3, 6] (fun _ i => ∃ k : Nat, k ≤ s.size ∧ i = .int .i64 k ∧ Hid ((s.data.toList.take k).all (plainB nameMarks) = true)) (fun _ i => s.size - (intOf i).toNat)
  case atStart => exact ⟨0, Nat.zero_le _, rfl, rfl⟩
  case round =>
    obtain ⟨k, hk, rfl, hno⟩ := hrel
    rcases Nat.lt_or_ge k s.size with hlt | hge
    · have HS := Lib.hid (take_snoc s k hlt)
      have HM := Lib.hid (byte_mem s k hlt)
      have HP := Lib.hid (fun w => plain_any s[k] ⟨#[45, 46, 95, 126]⟩ w)
      rw [show (ByteArray.mk #[45, 46, 95, 126]).data.toList = nameMarks from rfl] at HP
      cases hq : plainB nameMarks s[k] with
      | true =>
        rw [hq] at HP
        go_wp2_with (go_at_call 102; with_reducible refine (HP.out _).mono ?_; rintro e w1 ⟨rfl, hw⟩; rw [hw]; clear hw)
        go_round
        case rel => exact ⟨k + 1, by omega, by go_num, Lib.hid (by rw [HS.out, List.all_append, hno.out]; simp [hq])⟩
        case measure => simp [intOf]; omega
      | false =>
        rw [hq] at HP
        go_wp2_with (go_at_call 102; with_reducible refine (HP.out _).mono ?_; rintro e w1 ⟨rfl, hw⟩; rw [hw]; clear hw)
        go_ret
        exact ⟨by rw [← HA.out, List.all_eq_false.2 ⟨s[k], HM.out, by rw [hq]; decide⟩]; rfl, rfl⟩
    · obtain rfl : k = s.size := by omega
      have hno1 := hno.out
      rw [take_all s _ (Nat.le_refl _)] at hno1
      have HN := Lib.hid (HA.out.symm.trans hno1)
      clear hno hno1
      go_wp2
      go_ret
      exact ⟨by rw [HN.out]; rfl, rfl⟩

theorem hex_all (a b : UInt8) : allOf [5] [a, b] = (hexB a && hexB b) := by
  simp [allOf, oneOf, ofKind, hexB]
theorem isWritten_any (s ms : ByteArray) (w : World) (hm : ms.data.toList.contains 37 = false) :
    Calls Tryz.prog 91 #[.string s, .string ms] w fun e w' => e = .returned (.bool (written ms.data.toList s.data.toList)) ∧ Below w.heap.size w w' := by
  have HM := Lib.hid hm
  clear hm
  obtain ⟨A, hA⟩ : ∃ A, written ms.data.toList s.data.toList = A := ⟨_, rfl⟩
  rw [hA]
  have HA := Lib.hid hA
  clear hA
  go_enter Tryz.func91, Tryz.ntmps91
  go_wp2
  go_loopw [0] (fun v wr => ∃ S : ByteArray, v = .string S ∧ S.size ≤ s.size ∧ Hid (written ms.data.toList S.data.toList = A) ∧ Hid (Below w.heap.size w wr)) (fun v _ => match v with | .string S => S.size | _ => 0)
  case atStart => exact ⟨s, rfl, Nat.le_refl _, HA, Lib.hid (Below.refl _ _)⟩
  case round =>
    obtain ⟨S, rfl, hS, hw, hb⟩ := hrel
    cases hl : S.data.toList with
    | nil =>
      have he := empty_of hl
      rw [hl] at hw
      have HW := Lib.hid (show true = A from hw.out)
      clear hl hw
      go_wp2
      go_ret
      exact ⟨by rw [← HW.out]; rfl, hb.out⟩
    | cons c r =>
      have he := full_of hl
      have hz := size_cons hl
      have h0 : (0 : Int) < (S.size : Int) := by omega
      have h1 : (1 : Int) ≤ (S.size : Int) := by omega
      have e0 : ∀ h, S[0]'h = c := fun h => at_zero hl h
      have HP := Lib.hid (fun w => plain_any c ms w)
      rw [hl] at hw
      have x1 := drop_ext S 1
      rw [hl, List.drop_succ_cons, List.drop_zero] at x1
      cases hq : plainB ms.data.toList c with
      | true =>
        rw [hq] at HP
        have HW := Lib.hid (show written ms.data.toList (S.extract 1 S.size).data.toList = A by rw [x1, ← hw.out, written_plain HM.out c r hq])
        have hz1 := Lib.hid (show (S.extract 1 S.size).size + 1 = S.size by rw [← len, x1, hz])
        clear hw hl hq x1 hz
        go_wp2_with (go_at_call 102; with_reducible refine (HP.out _).mono ?_; rintro e w1 ⟨rfl, hw⟩; rw [hw]; clear hw)
        go_roundw
        case rel => exact ⟨_, rfl, by have := hz1.out; omega, HW, hb⟩
        case measure => have := hz1.out; simp only; omega
      | false =>
        rw [hq] at HP
        by_cases hc : c = 37
        · subst hc
          have HP3 : Hid (∀ w, Calls Tryz.prog 102 #[.int .u8 37, .string ms] w fun e w' => e = .returned (.bool false) ∧ w' = w) := HP
          clear HP
          rcases r with _ | ⟨a, _ | ⟨b, r'⟩⟩
          · have t2 : ¬ (2 : Int) < (S.size : Int) := by simp at hz; omega
            clear hz
            have HW := Lib.hid ((written_not (ms := ms.data.toList) 37 [] hq (.inr (by decide))).symm.trans hw.out)
            clear hw hl hq x1
            go_wp2_with (go_at_call 102; with_reducible refine (HP3.out _).mono ?_; rintro e w1 ⟨rfl, hw⟩; rw [hw]; clear hw)
            go_ret
            exact ⟨by rw [← HW.out]; rfl, hb.out⟩
          · have t2 : ¬ (2 : Int) < (S.size : Int) := by simp at hz; omega
            clear hz
            have HW := Lib.hid ((written_not (ms := ms.data.toList) 37 [a] hq (.inr (by simp))).symm.trans hw.out)
            clear hw hl hq x1
            go_wp2_with (go_at_call 102; with_reducible refine (HP3.out _).mono ?_; rintro e w1 ⟨rfl, hw⟩; rw [hw]; clear hw)
            go_ret
            exact ⟨by rw [← HW.out]; rfl, hb.out⟩
          · simp only [List.length_cons] at hz
            have t2 : (2 : Int) < (S.size : Int) := by omega
            have t3 : (3 : Int) ≤ (S.size : Int) := by omega
            have x3 := drop_ext S 3
            rw [hl] at x3
            simp only [List.drop_succ_cons, List.drop_zero] at x3
            have x2 : (S.extract 1 3).data.toList = [a, b] := by rw [Lib.extract_data, hl]; rfl
            have hsz2 : (S.extract 1 3).size ≤ maxLen := by rw [← len, x2]; unfold maxLen; simp
            have HA5 := Lib.hid (fun (w : World) (g : Nat) hk => Oct.all_any (S.extract 1 3) (some ⟨g, 0, none⟩) 1 1 [5] w hsz2 hk (by decide))
            rw [x2, hex_all] at HA5
            rw [written_pct] at hw
            have hz3 := Lib.hid (show (S.extract 3 S.size).size + 3 = S.size by rw [← len, x3]; omega)
            clear hz
            cases hab : (hexB a && hexB b) with
            | true =>
              rw [hab] at HA5 hw
              rw [Bool.true_and, ← x3] at hw
              clear hl hq x1 hsz2 x2 x3
              go_wp2_with (first
                | (go_at_call 102; with_reducible refine (HP3.out _).mono ?_; rintro e w1 ⟨rfl, hw⟩; rw [hw]; clear hw)
                | (go_at_call 29; with_reducible refine (HA5.out _ _ ?_).mono ?_; exact Ints.one _ _ rfl _ _; rintro e w1 ⟨rfl, hw⟩; rw [hw]; clear hw))
              go_roundw
              case rel => exact ⟨_, rfl, by have := hz3.out; omega, hw, Lib.hid (hb.out.alloc hb.out.size _)⟩
              case measure => have := hz3.out; simp only; omega
            | false =>
              rw [hab] at HA5 hw
              rw [Bool.false_and] at hw
              clear hl hq x1 hsz2 x2 x3
              go_wp2_with (first
                | (go_at_call 102; with_reducible refine (HP3.out _).mono ?_; rintro e w1 ⟨rfl, hw⟩; rw [hw]; clear hw)
                | (go_at_call 29; with_reducible refine (HA5.out _ _ ?_).mono ?_; exact Ints.one _ _ rfl _ _; rintro e w1 ⟨rfl, hw⟩; rw [hw]; clear hw))
              go_ret
              exact ⟨by rw [← hw.out]; rfl, hb.out.alloc hb.out.size _⟩
        · have t1 : ((c.toNat : Int) == 37) = false := beq_eq_false_iff_ne.2 fun e => hc (UInt8.toNat_inj.1 (by show c.toNat = 37; omega))
          have HW := Lib.hid ((written_not (ms := ms.data.toList) c r hq (.inl hc)).symm.trans hw.out)
          clear hw hl hq x1 hz
          go_wp2_with (go_at_call 102; with_reducible refine (HP.out _).mono ?_; rintro e w1 ⟨rfl, hw⟩; rw [hw]; clear hw)
          go_ret
          exact ⟨by rw [← HW.out]; rfl, hb.out⟩

theorem isPort_any (s : ByteArray) (w : World) (hs : s.size ≤ 1000000000) : Calls Tryz.prog 89 #[.string s] w fun e w' => e = .returned (.bool (portOk s.data.toList)) ∧ Below w.heap.size w w' := by
  have HD := Lib.hid (fun w => Num.dec_any 65535 (by decide) s w (by unfold maxLen; omega))
  have hP : portOk s.data.toList = (decide (s.size ≤ 5) && decide ((readOf 10 65535 s.data.toList).2 = 0)) := by unfold portOk; rw [len]
  rw [hP]
  clear hP
  generalize (readOf 10 65535 s.data.toList).2 = e at *
  generalize (readOf 10 65535 s.data.toList).1 = n at *
  by_cases h5 : s.size ≤ 5
  · rw [decide_eq_true h5, Bool.true_and]
    have t1 : (s.size : Int) ≤ 5 := by omega
    by_cases he : e = 0
    · subst he
      go_enter Tryz.func89, Tryz.ntmps89
      go_wp2_with (go_at_call 103; with_reducible refine (HD.out _).mono ?_; rintro e w1 ⟨rfl, hb⟩)
      go_ret
      exact ⟨rfl, hb⟩
    · have t2 : (e == 0) = false := beq_eq_false_iff_ne.2 he
      rw [decide_eq_false he]
      clear he
      go_enter Tryz.func89, Tryz.ntmps89
      go_wp2_with (go_at_call 103; with_reducible refine (HD.out _).mono ?_; rintro e w1 ⟨rfl, hb⟩)
      go_ret
      exact ⟨rfl, hb⟩
  · rw [decide_eq_false h5, Bool.false_and]
    have t1 : ¬ (s.size : Int) ≤ 5 := by omega
    go_enter Tryz.func89, Tryz.ntmps89
    go_wp2_with (go_at_call 103; with_reducible refine (HD.out _).mono ?_; rintro e w1 ⟨rfl, hb⟩)
    go_ret
    exact ⟨rfl, hb⟩

theorem host_any (s : ByteArray) (w : World) (hs : s.size ≤ 1000000000) : Calls Tryz.prog 72 #[.string s] w fun e w' => e = .returned (.bool (hostB s.data.toList)) ∧ Below w.heap.size w w' := by
  have HC := Lib.hid (fun w => cut_any s 58 w hs)
  obtain ⟨hl1, hl2⟩ := cutAt_le 58 s.data.toList
  rw [len] at hl1 hl2
  have hH : hostB s.data.toList = (nameOk (cutAt 58 s.data.toList).1 && (!(cutAt 58 s.data.toList).2.2 || portOk (cutAt 58 s.data.toList).2.1)) := rfl
  rw [hH]
  clear hH
  generalize (cutAt 58 s.data.toList).1 = n at *
  generalize (cutAt 58 s.data.toList).2.1 = p at *
  generalize (cutAt 58 s.data.toList).2.2 = b at *
  have HN := Lib.hid (fun w => isName_any (ba n) w (by rw [ba_size]; omega))
  have HP := Lib.hid (fun w => isPort_any (ba p) w (by rw [ba_size]; omega))
  rw [ba_list] at HN HP
  have hsz := ba_size n
  clear hl1 hl2
  cases n with
  | nil =>
    have hE : (ba []).toList.isEmpty = true := empty_of rfl
    clear hsz
    have e : nameOk [] = false := rfl
    rw [e, Bool.false_and]
    clear e
    generalize ba [] = N at *
    generalize ba p = PP at *
    go_enter Tryz.func72, Tryz.ntmps72
    go_wp2_with (go_at_call 74; with_reducible refine (HC.out _).mono ?_; rintro e w1 ⟨rfl, m, hw⟩; rw [hw]; clear hw)
    go_ret
    exact ⟨rfl, Base.below_drewN (Below.refl _ _) _⟩
  | cons c r =>
    have hE : (ba (c :: r)).toList.isEmpty = false := by rw [Lib.toList_data]; rfl
    have e : nameOk (c :: r) = (decide ((c :: r).length ≤ 255) && (c :: r).all (plainB nameMarks)) := rfl
    rw [e]
    clear e
    by_cases hn : (c :: r).length ≤ 255
    · rw [decide_eq_true hn, Bool.true_and]
      have t1 : ((ba (c :: r)).size : Int) ≤ 255 := by omega
      clear hsz hn
      generalize (c :: r).all (plainB nameMarks) = q at *
      generalize ba (c :: r) = N at *
      generalize ba p = PP at *
      generalize portOk p = pk at *
      cases q with
      | false =>
        rw [Bool.false_and]
        go_enter Tryz.func72, Tryz.ntmps72
        go_wp2_with (first
          | (go_at_call 74; with_reducible refine (HC.out _).mono ?_; rintro e w1 ⟨rfl, m, hw⟩; rw [hw]; clear hw)
          | (go_at_call 88; with_reducible refine (HN.out _).mono ?_; rintro e w1 ⟨rfl, hw⟩; rw [hw]; clear hw))
        go_ret
        exact ⟨rfl, Base.below_drewN (Below.refl _ _) _⟩
      | true =>
        rw [Bool.true_and]
        cases b with
        | false =>
          go_enter Tryz.func72, Tryz.ntmps72
          go_wp2_with (first
            | (go_at_call 74; with_reducible refine (HC.out _).mono ?_; rintro e w1 ⟨rfl, m, hw⟩; rw [hw]; clear hw)
            | (go_at_call 88; with_reducible refine (HN.out _).mono ?_; rintro e w1 ⟨rfl, hw⟩; rw [hw]; clear hw))
          go_ret
          exact ⟨rfl, Base.below_drewN (Below.refl _ _) _⟩
        | true =>
          rw [Bool.not_true, Bool.false_or]
          go_enter Tryz.func72, Tryz.ntmps72
          go_wp2_with (first
            | (go_at_call 74; with_reducible refine (HC.out _).mono ?_; rintro e w1 ⟨rfl, m, hw⟩; rw [hw]; clear hw)
            | (go_at_call 88; with_reducible refine (HN.out _).mono ?_; rintro e w1 ⟨rfl, hw⟩; rw [hw]; clear hw)
            | (go_at_call 89; with_reducible refine (HP.out _).mono ?_; rintro e w2 ⟨rfl, hb⟩))
          go_ret
          exact ⟨rfl, Base.below_step (Base.below_drewN (Below.refl _ _) _) hb⟩
    · rw [decide_eq_false hn, Bool.false_and, Bool.false_and]
      have t1 : ¬ ((ba (c :: r)).size : Int) ≤ 255 := by omega
      clear hsz hn
      generalize ba (c :: r) = N at *
      generalize ba p = PP at *
      go_enter Tryz.func72, Tryz.ntmps72
      go_wp2_with (go_at_call 74; with_reducible refine (HC.out _).mono ?_; rintro e w1 ⟨rfl, m, hw⟩; rw [hw]; clear hw)
      go_ret
      exact ⟨rfl, Base.below_drewN (Below.refl _ _) _⟩

theorem prefix_slash (l : List UInt8) : Lib.hasPrefix l [47] = decide (l.head? = some 47) := by
  cases l with
  | nil => rfl
  | cons c r =>
    have : Lib.hasPrefix (c :: r) [47] = (47 == c) := by simp [Lib.hasPrefix, List.isPrefixOf]
    rw [this, List.head?_cons]
    by_cases h : c = 47
    · subst h; rfl
    · rw [decide_eq_false (fun e => h (Option.some.inj e)), beq_eq_false_iff_ne]
      exact fun e => h e.symm
theorem slash_any (s : ByteArray) (w : World) : Calls Tryz.prog 53 #[.string s, .string ⟨#[47]⟩] w fun e w' => e = .returned (.bool (decide (s.data.toList.head? = some 47))) ∧ w' = w := by
  have h := Tryz.strings_HasPrefix s ⟨#[47]⟩ w
  rw [show (ByteArray.mk #[47]).data.toList = [47] from rfl, prefix_slash] at h
  exact h
theorem path_any (s : ByteArray) (w : World) : Calls Tryz.prog 75 #[.string s] w fun e w' => e = .returned (.bool (pathB s.data.toList)) ∧ Below w.heap.size w w' := by
  have HS := Lib.hid (fun w => slash_any s w)
  have HW := Lib.hid (fun w => isWritten_any s ⟨#[45, 46, 95, 126, 33, 36, 38, 39, 40, 41, 42, 43, 44, 59, 61, 58, 64, 47]⟩ w (by decide))
  rw [show (ByteArray.mk #[45, 46, 95, 126, 33, 36, 38, 39, 40, 41, 42, 43, 44, 59, 61, 58, 64, 47]).data.toList = pathMarks from rfl] at HW
  unfold pathB
  generalize written pathMarks s.data.toList = q at *
  generalize decide (s.data.toList.head? = some 47) = h at *
  cases h with
  | false =>
    go_enter Tryz.func75, Tryz.ntmps75
    go_wp2_with (go_at_call 53; with_reducible refine (HS.out _).mono ?_; rintro e w1 ⟨rfl, hw⟩; rw [hw]; clear hw)
    go_ret
    exact ⟨rfl, Below.refl _ _⟩
  | true =>
    go_enter Tryz.func75, Tryz.ntmps75
    go_wp2_with (first
      | (go_at_call 53; with_reducible refine (HS.out _).mono ?_; rintro e w1 ⟨rfl, hw⟩; rw [hw]; clear hw)
      | (go_at_call 91; with_reducible refine (HW.out _).mono ?_; rintro e w1 ⟨rfl, hb⟩))
    go_ret
    exact ⟨by rw [Bool.true_and]; rfl, hb⟩
theorem query_any (s : ByteArray) (w : World) : Calls Tryz.prog 76 #[.string s] w fun e w' => e = .returned (.bool (queryB s.data.toList)) ∧ Below w.heap.size w w' := by
  have HW := Lib.hid (fun w => isWritten_any s ⟨#[45, 46, 95, 126, 33, 36, 38, 39, 40, 41, 42, 43, 44, 59, 61, 58, 64, 47, 63]⟩ w (by decide))
  rw [show (ByteArray.mk #[45, 46, 95, 126, 33, 36, 38, 39, 40, 41, 42, 43, 44, 59, 61, 58, 64, 47, 63]).data.toList = queryMarks from rfl] at HW
  unfold queryB
  generalize written queryMarks s.data.toList = q at *
  go_enter Tryz.func76, Tryz.ntmps76
  go_wp2_with (go_at_call 91; with_reducible refine (HW.out _).mono ?_; rintro e w1 ⟨rfl, hb⟩)
  go_ret
  exact ⟨rfl, hb⟩
end code
end Go.Proofs.YtlignmlkoahbmaaGreatDoor.Tgt
