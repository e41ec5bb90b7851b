/-
  Layer 8 (request): contracts of package request's smaller functions: the method, the version, what stands between.
-/
import Derived.Test.YtlignmlkoahbmaaGreatDoorReqLine
import Derived.Test.YtlignmlkoahbmaaGreatDoorOctet
import Derived.Test.YtlignmlkoahbmaaGreatDoorQuirks
import Derived.Test.YtlignmlkoahbmaaGreatDoorText
import Derived.Deep.QuietTactic
import Derived.BigQuiet
namespace Go.Proofs.YtlignmlkoahbmaaGreatDoor.Rq
open Go.RowKit Base Txt

theorem first_no (s : ByteArray) (h : 0 < s.size) : s.toList.isEmpty = false := by
  have e : s.toList = s.data.toList := Lib.toList_data s
  rw [e, List.isEmpty_eq_false_iff]
  intro h0
  have : s.size = 0 := by rw [← len, h0]; rfl
  omega
theorem len8 (s : ByteArray) (h : s.size = 8) : (s.data.toList.getD 7 0) = s[7] ∧ (s.extract 0 7).data.toList = s.data.toList.take 7 := by
  refine ⟨?_, by rw [Lib.extract_data]; simp⟩
  rw [List.getD, List.getElem?_eq_getElem (by rw [len]; omega), Option.getD_some]; rfl

/-- Whether two texts are one, by the two ways that a walk writes it. -/
theorem eq_facts (m : ByteArray) (l : List UInt8) (b : Bool) (h : decide (m.data.toList = l) = b) : (m.toList == l) = b ∧ (m.toList == (ByteArray.mk l.toArray).toList) = b := by
  have h1 : (m.toList == l) = b := by rw [← h, Lib.toList_data, Bool.eq_iff_iff, beq_iff_eq, decide_eq_true_eq]
  exact ⟨h1, by rw [show (ByteArray.mk l.toArray).toList = l from Lib.toList_data _]; exact h1⟩

section code
set_option maxHeartbeats 1000000
attribute [local go_sem] Base.some_undef
theorem method_any (s : ByteArray) (w : World) (h0 : 0 < s.size) : Calls Tryz.prog 16 #[.string s] w fun e w' => e = .returned (.bool (methOk s.data.toList)) ∧ Below w.heap.size w w' := by
  have t0 := first_no s h0
  rcases Nat.lt_or_ge 32 s.size with h | h
  · have h1 : ¬ (s.size : Int) ≤ 32 := by omega
    have e : methOk s.data.toList = false := by unfold methOk; rw [len, decide_eq_false (by omega)]; rfl
    rw [e]; clear e
    go_enter Tryz.func16, Tryz.ntmps16
    go_wp2_with fail
    go_ret
    exact ⟨rfl, Below.refl _ _⟩
  · have h1 : (s.size : Int) ≤ 32 := by omega
    have HA := Lib.hid (fun w a (hk : Ints w a 1 [1]) => Oct.all_any s a 1 1 [1] w (by unfold maxLen; omega) hk (by decide))
    have e : methOk s.data.toList = Oct.allOf [1] s.data.toList := by unfold methOk; rw [len, decide_eq_true h]; rfl
    rw [e]; clear e
    generalize Oct.allOf [1] s.data.toList = r at *
    go_enter Tryz.func16, Tryz.ntmps16
    go_wp2_with (go_at_call 29; with_reducible refine (HA.out _ _ (Ints.one _ _ rfl _ _)).mono ?_; rintro e w1 ⟨rfl, hw⟩; rw [hw]; clear hw)
    go_ret
    exact ⟨by rfl, (Below.refl _ _).alloc (Nat.le_refl _) _⟩

/-- The last digit of a version, and whether it is one. -/
theorem lastDigit_any (s : ByteArray) (p : Nat) (hp : p < 4294967296) (w : World) : Calls Tryz.prog 34 #[.string s, .int .u32 (p : Nat)] w fun e w' =>
    (∃ d : UInt8, e = .returned (.tuple #[.int .u8 (d.toNat : Int), .bool (knownV (clOf p) s.data.toList)]) ∧ (knownV (clOf p) s.data.toList = true → d = s.data.toList.getD 7 0)) ∧ Below w.heap.size w w' := by
  by_cases h8 : s.size = 8
  · obtain ⟨e1, e2⟩ := len8 s h8
    have hx : (s.extract 0 7).size = 7 := by rw [← len, e2, List.length_take, len]; omega
    have H := Lib.hid (fun w => Qk.has_any p hp 5 w)
    have HS := Lib.hid (fun w => same_any (s.extract 0 7) ⟨#[72, 84, 84, 80, 47, 49, 46]⟩ w (by rw [hx]; decide))
    have HD := Lib.hid (fun w => Oct.digit_any ((s[7]'(by omega)).toNat : Int) w)
    have ek : knownV (clOf p) s.data.toList = (Oct.digit ((s[7]'(by omega)).toNat : Int) && (((s.extract 0 7).data.toList == http1) || (Qk.has p 5 && same (s.extract 0 7) ⟨#[72, 84, 84, 80, 47, 49, 46]⟩))) := by
      unfold knownV same
      have hl : decide (s.data.toList.length = 8) = true := decide_eq_true (by rw [len]; exact h8)
      rw [hl, Bool.true_and, e1, e2]; rfl
    have ev : s.data.toList.getD 7 0 = s[7] := e1
    rw [ek, ev]
    obtain ⟨t1, t2⟩ := eq_facts (s.extract 0 7) [72, 84, 84, 80, 47, 49, 46] (decide ((s.extract 0 7).data.toList = http1)) rfl
    have e3 : ((s.extract 0 7).data.toList == http1) = decide ((s.extract 0 7).data.toList = http1) := by rw [Bool.eq_iff_iff, beq_iff_eq, decide_eq_true_eq]
    rw [e3]
    clear e1 e2 ek ev e3 hx
    have hsz : (s.size : Int) = 8 := by omega
    obtain ⟨d, hd⟩ : ∃ d, s[7]'(by omega) = d := ⟨_, rfl⟩
    have hn : ∀ hh, s[7]'hh = d := fun _ => hd
    rw [hd] at HD ⊢
    clear hd
    generalize decide ((s.extract 0 7).data.toList = http1) = r1 at *
    generalize same (s.extract 0 7) ⟨#[72, 84, 84, 80, 47, 49, 46]⟩ = r2 at *
    generalize Qk.has p 5 = r3 at *
    generalize Oct.digit (d.toNat : Int) = r4 at *
    obtain ⟨x, hx⟩ : ∃ x, s.extract 0 7 = x := ⟨_, rfl⟩
    rw [hx] at HS t1 t2
    cases r1 <;> cases r3 <;> cases r2
    all_goals
      go_enter Tryz.func34, Tryz.ntmps34
      go_wp2_with fail
      go_quiet (fail)
      rename_i nq
      go_wp2_with (first
        | (go_at_call 27; with_reducible refine (H.out _).mono ?_; rintro e w1 ⟨rfl, hw⟩; rw [hw]; clear hw)
        | (go_at_call 55; with_reducible refine (HS.out _).mono ?_; rintro e w2 ⟨rfl, hb⟩)
        | (go_at_call 57; with_reducible refine (HD.out _).mono ?_; rintro e w1 ⟨rfl, hw⟩; rw [hw]; clear hw))
      go_ret2
      first
        | exact ⟨⟨d, by simp, fun _ => rfl⟩, Base.below_step (Base.below_drewN (Below.refl _ _) nq) hb⟩
        | exact ⟨⟨d, by simp, fun _ => rfl⟩, Base.below_drewN (Below.refl _ _) nq⟩
  · have e : knownV (clOf p) s.data.toList = false := by unfold knownV; rw [len, decide_eq_false h8]; rfl
    rw [e]; clear e
    have h1 : ¬ (s.size : Int) = 8 := by omega
    go_enter Tryz.func34, Tryz.ntmps34
    go_wp2_with fail
    go_ret2
    exact ⟨⟨0, rfl, fun h => by cases h⟩, Below.refl _ _⟩
theorem minorOf_any (s : ByteArray) (p : Nat) (hp : p < 4294967296) (w : World) : Calls Tryz.prog 18 #[.string s, .int .u32 (p : Nat)] w fun e w' =>
    e = .returned (.tuple #[.int .i64 (((verL (clOf p) s.data.toList).getD 0 : Nat) : Int), .bool (verL (clOf p) s.data.toList).isSome]) ∧ Below w.heap.size w w' := by
  by_cases h0 : s.size = 0
  · have e : s.data.toList = [] := List.eq_nil_of_length_eq_zero (by rw [len]; exact h0)
    have t0 : s.toList.isEmpty = true := by rw [Lib.toList_data, e]; rfl
    rw [e]; clear e h0
    go_enter Tryz.func18, Tryz.ntmps18
    go_wp2_with fail
    go_ret2
    exact ⟨rfl, Below.refl _ _⟩
  · have t0 := first_no s (by omega)
    have e : s.data.toList ≠ [] := fun h => h0 (by rw [← len, h]; rfl)
    have HL := Lib.hid (fun w => lastDigit_any s p hp w)
    have H := Lib.hid (fun w => Qk.has_any p hp 4 w)
    have ev : verL (clOf p) s.data.toList = if knownV (clOf p) s.data.toList = true then (if s.data.toList.getD 7 0 = 48 then some 0 else if (s.data.toList.getD 7 0 == 49 || Qk.has p 4) = true then some 1 else none) else none := by
      rw [verL, if_neg e]; rfl
    rw [ev]
    clear ev e h0
    generalize knownV (clOf p) s.data.toList = q at *
    generalize s.data.toList.getD 7 0 = d at *
    generalize Qk.has p 4 = r at *
    cases q with
    | false =>
      go_enter Tryz.func18, Tryz.ntmps18
      go_wp2_with (go_at_call 34; with_reducible refine (HL.out _).mono ?_; rintro e w1 ⟨⟨d', rfl, _⟩, hb⟩)
      go_ret2
      exact ⟨rfl, hb⟩
    | true =>
      have HL' := Lib.hid (fun w => (HL.out w).mono (R' := fun e w' => e = .returned (.tuple #[.int .u8 (d.toNat : Int), .bool true]) ∧ Below w.heap.size w w') (by
        rintro e w' ⟨⟨d', rfl, hd⟩, hb⟩
        rw [hd rfl]; exact ⟨rfl, hb⟩))
      clear HL
      by_cases h48 : d = 48
      · subst h48
        go_enter Tryz.func18, Tryz.ntmps18
        go_wp2_with (go_at_call 34; with_reducible refine (HL'.out _).mono ?_; rintro e w1 ⟨rfl, hb⟩)
        go_ret2
        exact ⟨rfl, hb⟩
      · have n48 : ¬ (d.toNat : Int) = 48 := fun h => h48 (UInt8.toNat_inj.1 (by show d.toNat = 48; omega))
        rw [if_pos rfl, if_neg h48]
        clear h48
        by_cases h49 : d = 49
        · subst h49
          go_enter Tryz.func18, Tryz.ntmps18
          go_wp2_with (go_at_call 34; with_reducible refine (HL'.out _).mono ?_; rintro e w1 ⟨rfl, hb⟩)
          go_ret2
          exact ⟨rfl, hb⟩
        · have n49 : ¬ (d.toNat : Int) = 49 := fun h => h49 (UInt8.toNat_inj.1 (by show d.toNat = 49; omega))
          have e49 : (d == 49) = false := by simpa using h49
          rw [e49, Bool.false_or]
          clear h49 e49
          cases r
          all_goals
            go_enter Tryz.func18, Tryz.ntmps18
            go_wp2_with (first
              | (go_at_call 34; with_reducible refine (HL'.out _).mono ?_; rintro e w1 ⟨rfl, hb⟩)
              | (go_at_call 27; with_reducible refine (H.out _).mono ?_; rintro e w2 ⟨rfl, hw⟩; rw [hw]; clear hw))
            go_ret2
            exact ⟨rfl, hb⟩

/-- What stands between the first part and the last. -/
theorem between_any (s x y : ByteArray) (p : Nat) (hp : p < 4294967296) (w : World) (hs : s.size ≤ 1000000000) (hf : fits (Qk.has p 3) s.data.toList x.data.toList y.data.toList) :
    Calls Tryz.prog 28 #[.string s, .string x, .string y, .int .u32 (p : Nat)] w fun e w' => e = .returned (.string (ba (between (Qk.has p 3) s.data.toList x.data.toList y.data.toList))) ∧ w' = w := by
  have H := Lib.hid (fun w => Qk.has_any p hp 3 w)
  generalize Qk.has p 3 = q at *
  cases q with
  | false =>
    simp only [fits, between, Bool.false_eq_true, if_false, len] at hf ⊢
    rw [ext_ba]
    have c1 : IntKind.i64.wrap ((x.size : Int) + 1) = ((x.size + 1 : Nat) : Int) := by rw [wrap_in _ (by omega) (by omega)]; omega
    have c2 : IntKind.i64.wrap ((s.size : Int) - (y.size : Int)) = ((s.size - y.size : Nat) : Int) := by rw [wrap_in _ (by omega) (by omega)]; omega
    have c3 : IntKind.i64.wrap (((s.size - y.size : Nat) : Int) - 1) = ((s.size - y.size - 1 : Nat) : Int) := by rw [wrap_in _ (by omega) (by omega)]; omega
    have c4 : x.size + 1 ≤ s.size - y.size - 1 := by omega
    have c5 : s.size - y.size - 1 ≤ s.size := by omega
    go_enter Tryz.func28, Tryz.ntmps28
    go_wp2_with (go_at_call 27; with_reducible refine (H.out _).mono ?_; rintro e w1 ⟨rfl, hw⟩; rw [hw]; clear hw)
    go_ret
    exact ⟨rfl, rfl⟩
  | true =>
    have HT := Lib.hid (fun w => trim_any s w (by unfold maxLen; omega))
    have et : (trim s).data.toList = trimL Txt.blank s.data.toList := rfl
    simp only [fits, between, if_true] at hf ⊢
    rw [← et] at hf ⊢
    have hts := trim_size Txt.blank s
    have hts' : (trim s).size ≤ s.size := hts
    clear et hts
    generalize trim s = t at *
    simp only [len] at hf ⊢
    have HT2 := Lib.hid (fun w => trim_any (t.extract x.size (t.size - y.size)) w (by rw [← ext_ba, ba_size, ext]; unfold maxLen; simp; omega))
    have e2 : ba (trimL Txt.blank (ext t.data.toList (x.size, t.size - y.size))) = trim (t.extract x.size (t.size - y.size)) := by rw [← ext_ba]; rfl
    rw [e2]
    clear e2
    have c2 : IntKind.i64.wrap ((t.size : Int) - (y.size : Int)) = ((t.size - y.size : Nat) : Int) := by rw [wrap_in _ (by omega) (by omega)]; omega
    have c4 : x.size ≤ t.size - y.size := by omega
    have c5 : t.size - y.size ≤ t.size := by omega
    go_enter Tryz.func28, Tryz.ntmps28
    go_wp2_with (first
      | (go_at_call 27; with_reducible refine (H.out _).mono ?_; rintro e w1 ⟨rfl, hw⟩; rw [hw]; clear hw)
      | (go_at_call 50; with_reducible refine (HT.out _).mono ?_; rintro e w1 ⟨rfl, hw⟩; rw [hw]; clear hw)
      | (go_at_call 50; with_reducible refine (HT2.out _).mono ?_; rintro e w1 ⟨rfl, hw⟩; rw [hw]; clear hw))
    go_ret
    exact ⟨rfl, rfl⟩
end code
end Go.Proofs.YtlignmlkoahbmaaGreatDoor.Rq
