/-
  Layer 8 (request): the document's first line: its target's bytes, its version, its pieces.
-/
import Derived.Test.YtlignmlkoahbmaaGreatDoorReqParse
import Derived.Test.YtlignmlkoahbmaaGreatDoorTextRef
import Derived.Test.YtlignmlkoahbmaaGreatDoorTextSplit
import Derived.Test.YtlignmlkoahbmaaGreatDoorTree
namespace Go.Proofs.YtlignmlkoahbmaaGreatDoor.Rq
open Go.RowKit Base Txt

theorem pair_info : (Tryz.prog.info? 71).map (fun i => (i.zero, i.size, i.bytes)) = some (some (.agg #[.int .i64 0, .int .i64 0]), 2, 16) := by kernel_rfl

section code
set_option maxHeartbeats 1000000
attribute [local go_sem] Base.some_undef
theorem rput_any (m t : ByteArray) (w : World) (hm : m.size ≤ 140737488351232) (ht : t.size ≤ 140737488351232) : Calls Tryz.prog 13 #[.string m, .string t] w fun e w' => e = .returned (.string (lineOf m t)) ∧ w' = w := by
  have v1 : ¬ 9223372036854775807 < m.size + 1 := by omega
  have v2 : ¬ 9223372036854775807 < m.size + 1 + t.size := by omega
  have v3 : ¬ 9223372036854775807 < m.size + 1 + t.size + 9 := by omega
  have e : lineOf m t = ((m ++ ⟨#[32]⟩) ++ t) ++ ⟨#[32, 72, 84, 84, 80, 47, 49, 46, 49]⟩ := ba_ext (by rw [lineOf_list]; simp)
  rw [e]
  clear e
  go_enter Tryz.func13, Tryz.ntmps13
  go_wp2_with fail
  go_ret
  exact ⟨rfl, rfl⟩
set_option maxRecDepth 10000 in
theorem rbytes_any (t : ByteArray) (p : Nat) (hp : p < 4294967296) (w : World) (h0 : 0 < t.size) (ht : t.size ≤ 900000000) : Calls Tryz.prog 22 #[.string t, .int .u32 (p : Nat)] w fun e w' =>
    e = .returned (.bool (tgtB (clOf p) t.data.toList)) ∧ w' = w := by
  have H7 := Lib.hid (fun w => Qk.rhas_any p hp 7 w)
  have H8 := Lib.hid (fun w => Qk.rhas_any p hp 8 w)
  have hlets : ∀ x, letsT (clOf p) x = (Oct.visible (x.toNat : Int) || (Qk.has p 7 && Oct.blank (x.toNat : Int) || Qk.has p 8 && Oct.control (x.toNat : Int))) := fun _ => rfl
  have hok : tgtB (clOf p) t.data.toList = t.data.toList.all (letsT (clOf p)) := rfl
  have t0 := first_no t h0
  rw [hok]
  clear hok
  generalize hq : letsT (clOf p) = q at *
  clear hq
  have HL := Lib.hid hlets
  clear hlets
  generalize Qk.has p 7 = sp at *
  generalize Qk.has p 8 = co at *
  cases sp <;> cases co
  all_goals
    go_enter Tryz.func22, Tryz.ntmps22
    go_upto_region 2 with fail
    go_loopw [5] (fun i wr => ∃ k : Nat, k ≤ t.size ∧ i = .int .i64 k ∧ wr = w ∧ Hid ((t.data.toList.take k).all q = true)) (fun i _ => t.size - (intOf i).toNat)
    case atStart => exact ⟨0, Nat.zero_le _, rfl, rfl, Lib.hid rfl⟩
    case round =>
      obtain ⟨k, hk, rfl, hwr, hpre⟩ := hrel
      subst hwr
      rcases Nat.lt_or_ge k t.size with hlt | hge
      · have i1 : (k : Int) < (t.size : Int) := by omega
        have HQ := Lib.hid (HL.out (t[k]))
        have HS := Lib.hid (all_take q t.data.toList k (by rw [len]; exact hlt) hpre.out)
        have HN := Lib.hid (all_not q t.data.toList k (by rw [len]; exact hlt))
        have hgt : t.data.toList[k]'(by rw [len]; exact hlt) = t[k] := rfl
        rw [hgt] at HS HN
        clear hgt
        obtain ⟨b, hb⟩ : ∃ b, t[k] = b := ⟨_, rfl⟩
        have hn : ∀ hh, t[k]'hh = b := fun _ => hb
        rw [hb] at HQ HS HN
        clear hb
        have HV := Lib.hid (fun w => Oct.rvisible_any (b.toNat : Int) w)
        have HB := Lib.hid (fun w => Oct.rblank_any (b.toNat : Int) w)
        have HC := Lib.hid (fun w => Oct.rcontrol_any (b.toNat : Int) w)
        generalize Oct.visible (b.toNat : Int) = v at *
        generalize Oct.blank (b.toNat : Int) = bk at *
        generalize Oct.control (b.toNat : Int) = ct at *
        cases v
        · cases bk <;> cases ct
          all_goals
            go_wp2_with (first
              | (go_at_call 37; with_reducible refine (HV.out _).mono ?_; rintro e w1 ⟨rfl, hw⟩; rw [hw]; clear hw)
              | (go_at_call 38; with_reducible refine (HB.out _).mono ?_; rintro e w1 ⟨rfl, hw⟩; rw [hw]; clear hw)
              | (go_at_call 39; with_reducible refine (HC.out _).mono ?_; rintro e w1 ⟨rfl, hw⟩; rw [hw]; clear hw)
              | (go_at_call 20; with_reducible refine (H7.out _).mono ?_; rintro e w1 ⟨rfl, hw⟩; rw [hw]; clear hw)
              | (go_at_call 20; with_reducible refine (H8.out _).mono ?_; rintro e w1 ⟨rfl, hw⟩; rw [hw]; clear hw))
            first
              | (go_ret
                 exact ⟨by rw [HN.out (by rw [HQ.out]; rfl)]; rfl, rfl⟩)
              | (go_roundw
                 case rel => exact ⟨k + 1, by omega, by go_num, by first | rfl | trivial, Lib.hid (HS.out (by rw [HQ.out]; rfl))⟩
                 case measure => simp [intOf]; omega)
        · go_wp2_with (go_at_call 37; with_reducible refine (HV.out _).mono ?_; rintro e w1 ⟨rfl, hw⟩; rw [hw]; clear hw)
          go_roundw
          case rel => exact ⟨k + 1, by omega, by go_num, by first | rfl | trivial, Lib.hid (HS.out (by rw [HQ.out]; rfl))⟩
          case measure => simp [intOf]; omega
      · obtain rfl : k = t.size := by omega
        have hall := hpre.out
        rw [take_all t _ (Nat.le_refl _)] at hall
        have HALL := Lib.hid hall
        clear hpre hall HL
        go_wp2_with fail
        go_ret
        rw [HALL.out]
        exact ⟨by first | rfl | simp, rfl⟩

/-- The document's version: a number and whether it is known. -/
theorem rversion_any (s : ByteArray) (p : Nat) (hp : p < 4294967296) (w : World) (h0 : 0 < s.size) : Calls Tryz.prog 24 #[.string s, .int .u32 (p : Nat)] w fun e w' =>
    (∃ k : Nat, e = .returned (.tuple #[.int .i64 (k : Int), .bool (verL (clOf p) s.data.toList).isSome]) ∧ ∀ j, verL (clOf p) s.data.toList = some j → k = j) ∧ Below w.heap.size w w' := by
  have hne : s.data.toList ≠ [] := fun h => by
    have : s.size = 0 := by rw [← len, h]; rfl
    omega
  have ev : verL (clOf p) s.data.toList = if knownV (clOf p) s.data.toList = true then (if s.data.toList.getD 7 0 = 48 then some 0 else if (s.data.toList.getD 7 0 == 49 || Qk.has p 4) = true then some 1 else none) else none := by
    rw [verL, if_neg hne]; rfl
  clear hne
  by_cases h8 : s.size = 8
  · obtain ⟨e1, e2⟩ := len8 s h8
    have hx : (s.extract 0 7).size = 7 := by rw [← len, e2, List.length_take, len]; omega
    have H5 := Lib.hid (fun w => Qk.rhas_any p hp 5 w)
    have H4 := Lib.hid (fun w => Qk.rhas_any p hp 4 w)
    have HS := Lib.hid (fun w => rsame_any (s.extract 0 7) ⟨#[72, 84, 84, 80, 47, 49, 46]⟩ w (by rw [hx]; decide) (by decide))
    have HD := Lib.hid (fun w => Oct.rdigit_any ((s[7]'(by omega)).toNat : Int) w)
    have ek : knownV (clOf p) s.data.toList = (Oct.digit ((s[7]'(by omega)).toNat : Int) && (((s.extract 0 7).data.toList == http1) || (Qk.has p 5 && same (s.extract 0 7) ⟨#[72, 84, 84, 80, 47, 49, 46]⟩))) := by
      unfold knownV same
      have hl : decide (s.data.toList.length = 8) = true := decide_eq_true (by rw [len]; exact h8)
      rw [hl, Bool.true_and, e1, e2]; rfl
    obtain ⟨t1, t2⟩ := eq_facts (s.extract 0 7) [72, 84, 84, 80, 47, 49, 46] (decide ((s.extract 0 7).data.toList = http1)) rfl
    have e3 : ((s.extract 0 7).data.toList == http1) = decide ((s.extract 0 7).data.toList = http1) := by rw [Bool.eq_iff_iff, beq_iff_eq, decide_eq_true_eq]
    rw [ek, e1, e3] at ev
    clear e1 e2 ek e3 hx
    have hsz : (s.size : Int) = 8 := by omega
    obtain ⟨d, hd⟩ : ∃ d, s[7]'(by omega) = d := ⟨_, rfl⟩
    have hn : ∀ hh, s[7]'hh = d := fun _ => hd
    rw [hd] at HD ev
    clear hd
    generalize decide ((s.extract 0 7).data.toList = http1) = r1 at *
    generalize same (s.extract 0 7) ⟨#[72, 84, 84, 80, 47, 49, 46]⟩ = r2 at *
    generalize Qk.has p 5 = r3 at *
    generalize Qk.has p 4 = r5 at *
    generalize Oct.digit (d.toNat : Int) = r4 at *
    generalize verL (clOf p) s.data.toList = V at *
    obtain ⟨x, hx⟩ : ∃ x, s.extract 0 7 = x := ⟨_, rfl⟩
    rw [hx] at HS t1 t2
    cases r4 with
    | false =>
      rw [Bool.false_and, if_neg (by decide)] at ev
      subst ev
      go_enter Tryz.func24, Tryz.ntmps24
      go_wp2_with (go_at_call 44; with_reducible refine (HD.out _).mono ?_; rintro e w1 ⟨rfl, hw⟩; rw [hw]; clear hw)
      go_ret2
      exact ⟨⟨0, rfl, fun j h => by cases h⟩, Below.refl _ _⟩
    | true =>
      have hb : (r1 = false ∧ r3 = false) ∨ (r1 = false ∧ r3 = true ∧ r2 = false) ∨ (r1 || (r3 && r2)) = true := by cases r1 <;> cases r2 <;> cases r3 <;> simp
      by_cases h1 : (r1 || (r3 && r2)) = true
      · rw [h1, Bool.and_true, if_pos rfl] at ev
        by_cases h48 : d = 48
        · rw [if_pos h48] at ev
          subst ev h48
          replace HD : Hid (∀ w, Calls Tryz.prog 44 #[.int .u8 48] w fun e w' => e = .returned (.bool true) ∧ w' = w) := HD
          cases r1 <;> cases r3 <;> cases r2 <;> simp at h1
          all_goals
            go_enter Tryz.func24, Tryz.ntmps24
            go_wp2_with (first
              | (go_at_call 44; with_reducible refine (HD.out _).mono ?_; rintro e w1 ⟨rfl, hw⟩; rw [hw]; clear hw)
              | (go_at_call 20; with_reducible refine (H5.out _).mono ?_; rintro e w1 ⟨rfl, hw⟩; rw [hw]; clear hw)
              | (go_at_call 42; with_reducible refine (HS.out _).mono ?_; rintro e w2 ⟨rfl, hb2⟩))
            go_ret2
            first
              | exact ⟨⟨0, rfl, fun j h => by cases h; rfl⟩, hb2⟩
              | exact ⟨⟨0, rfl, fun j h => by cases h; rfl⟩, Below.refl _ _⟩
        · rw [if_neg h48] at ev
          have n48 : ¬ (d.toNat : Int) = 48 := fun h => h48 (UInt8.toNat_inj.1 (by show d.toNat = 48; omega))
          clear h48
          by_cases h49 : d = 49
          · subst h49
            rw [if_pos (by rfl)] at ev
            subst ev
            replace HD : Hid (∀ w, Calls Tryz.prog 44 #[.int .u8 49] w fun e w' => e = .returned (.bool true) ∧ w' = w) := HD
            cases r1 <;> cases r3 <;> cases r2 <;> simp at h1
            all_goals
              go_enter Tryz.func24, Tryz.ntmps24
              go_wp2_with (first
                | (go_at_call 44; with_reducible refine (HD.out _).mono ?_; rintro e w1 ⟨rfl, hw⟩; rw [hw]; clear hw)
                | (go_at_call 20; with_reducible refine (H5.out _).mono ?_; rintro e w1 ⟨rfl, hw⟩; rw [hw]; clear hw)
                | (go_at_call 42; with_reducible refine (HS.out _).mono ?_; rintro e w2 ⟨rfl, hb2⟩))
              go_ret2
              first
                | exact ⟨⟨1, rfl, fun j h => by cases h; rfl⟩, hb2⟩
                | exact ⟨⟨1, rfl, fun j h => by cases h; rfl⟩, Below.refl _ _⟩
          · have n49 : ¬ (d.toNat : Int) = 49 := fun h => h49 (UInt8.toNat_inj.1 (by show d.toNat = 49; omega))
            have e49 : (d == 49) = false := by simpa using h49
            rw [e49, Bool.false_or] at ev
            clear h49 e49
            have hV : V.isSome = r5 ∧ ∀ j, V = some j → 1 = j := by
              cases r5 with
              | true => rw [if_pos rfl] at ev; subst ev; exact ⟨rfl, fun j h => by cases h; rfl⟩
              | false => rw [if_neg (by decide)] at ev; subst ev; exact ⟨rfl, fun j h => by cases h⟩
            rw [hV.1]
            have HVV := Lib.hid hV.2
            clear hV ev
            cases r1 <;> cases r3 <;> cases r2 <;> simp at h1
            all_goals
              go_enter Tryz.func24, Tryz.ntmps24
              go_wp2_with (first
                | (go_at_call 44; with_reducible refine (HD.out _).mono ?_; rintro e w1 ⟨rfl, hw⟩; rw [hw]; clear hw)
                | (go_at_call 20; with_reducible refine (H5.out _).mono ?_; rintro e w1 ⟨rfl, hw⟩; rw [hw]; clear hw)
                | (go_at_call 20; with_reducible refine (H4.out _).mono ?_; rintro e w1 ⟨rfl, hw⟩; rw [hw]; clear hw)
                | (go_at_call 42; with_reducible refine (HS.out _).mono ?_; rintro e w2 ⟨rfl, hb2⟩))
              go_ret2
              first
                | exact ⟨⟨1, rfl, HVV.out⟩, hb2⟩
                | exact ⟨⟨1, rfl, HVV.out⟩, Below.refl _ _⟩
      · have h1f : (r1 || (r3 && r2)) = false := by simpa using h1
        rw [h1f, Bool.and_false, if_neg (by decide)] at ev
        subst ev
        cases r1 <;> cases r3 <;> cases r2 <;> simp at h1f
        all_goals
          go_enter Tryz.func24, Tryz.ntmps24
          go_wp2_with (first
            | (go_at_call 44; with_reducible refine (HD.out _).mono ?_; rintro e w1 ⟨rfl, hw⟩; rw [hw]; clear hw)
            | (go_at_call 20; with_reducible refine (H5.out _).mono ?_; rintro e w1 ⟨rfl, hw⟩; rw [hw]; clear hw)
            | (go_at_call 42; with_reducible refine (HS.out _).mono ?_; rintro e w2 ⟨rfl, hb2⟩))
          go_ret2
          first
            | exact ⟨⟨0, rfl, fun j h => by cases h⟩, hb2⟩
            | exact ⟨⟨0, rfl, fun j h => by cases h⟩, Below.refl _ _⟩
  · have e : knownV (clOf p) s.data.toList = false := by unfold knownV; rw [len, decide_eq_false h8]; rfl
    rw [e, if_neg (by decide)] at ev
    rw [ev]
    clear e ev
    have h1 : ¬ (s.size : Int) = 8 := by omega
    go_enter Tryz.func24, Tryz.ntmps24
    go_wp2_with fail
    go_ret2
    exact ⟨⟨0, rfl, fun j h => by cases h⟩, Below.refl _ _⟩
end code
end Go.Proofs.YtlignmlkoahbmaaGreatDoor.Rq
