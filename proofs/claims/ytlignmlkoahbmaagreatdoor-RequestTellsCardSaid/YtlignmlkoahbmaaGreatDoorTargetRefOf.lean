/-
  Layer 7 (target): what the document's Path, Query and their bytes answer, of every text up to a great size.
-/
import Derived.Test.YtlignmlkoahbmaaGreatDoorTargetRef
import Derived.Deep.CutBlock
import Derived.Deep.DeepCutAuto
namespace Go.Proofs.YtlignmlkoahbmaaGreatDoor.Tgt
open Go.RowKit Base Oct Num Txt

theorem written_drop (ms l : List UInt8) (k : Nat) (h : k < l.length) : written ms (l.drop k) = (okAt ms l[k] (l.drop (k + 1)) && written ms (l.drop (k + 1))) := by
  rw [List.drop_eq_getElem_cons h, written]
theorem okAt_short (ms : List UInt8) (c : UInt8) (r : List UInt8) (h : r.length < 2) : okAt ms c r = plainB ms c := by
  match r, h with
  | [], _ => rfl
  | [a], _ => rfl
theorem okAt_pct (ms l : List UInt8) (k : Nat) (h : k + 2 < l.length) : okAt ms 37 (l.drop (k + 1)) = (hexB l[k + 1] && hexB l[k + 2]) := by
  rw [List.drop_eq_getElem_cons (by omega : k + 1 < l.length), List.drop_eq_getElem_cons (by omega : k + 1 + 1 < l.length), okAt, if_pos rfl]
theorem contains_snoc (l : List UInt8) (k : Nat) (h : k < l.length) (c : UInt8) : (l.take (k + 1)).contains c = ((l.take k).contains c || (c == l[k])) := by
  rw [List.take_succ_eq_append_getElem h]
  generalize l[k] = x
  generalize l.take k = m
  induction m with
  | nil => rw [List.nil_append, List.contains_cons, List.contains_nil, Bool.or_false, Bool.false_or]
  | cons y m ih => rw [List.cons_append, List.contains_cons, List.contains_cons, ih, Bool.or_assoc]

section code
set_option maxHeartbeats 1000000
attribute [local go_sem] Base.some_undef
set_option maxRecDepth 10000 in
theorem rof_any (s ms : ByteArray) (w : World) (hs : s.size ≤ 1000000000) (hms : ms.size ≤ 1000000000) :
    Calls Tryz.prog 81 #[.string s, .string ms] w fun e w' => e = .returned (.bool (written ms.data.toList s.data.toList)) ∧ w' = w := by
  obtain ⟨A, hA⟩ : ∃ A, written ms.data.toList s.data.toList = A := ⟨_, rfl⟩
  rw [hA]
  have HA := Lib.hid hA
  clear hA
  go_enter Tryz.func81, Tryz.ntmps81
  go_wp2
  go_loop [5] (fun i => ∃ k : Nat, k ≤ s.size ∧ i = .int .i64 k ∧ Hid (written ms.data.toList (s.data.toList.drop k) = A)) (fun i => s.size - (intOf i).toNat)
  case atStart => exact ⟨0, Nat.zero_le _, rfl, HA⟩
  case round =>
    obtain ⟨k, hk, rfl, hw⟩ := hrel
    rcases Nat.lt_or_ge k s.size with hlt | hge
    · have i1 : (k : Int) < (s.size : Int) := by omega
      have hkl : k < s.data.toList.length := by rw [len]; exact hlt
      obtain ⟨c, hc⟩ : ∃ c, s.data.toList[k] = c := ⟨_, rfl⟩
      have hx : ∀ h, s[k]'h = c := fun _ => hc
      have hwd := hw.out
      rw [written_drop _ _ k hkl, hc] at hwd
      have HW := Lib.hid hwd
      clear hwd hw
      have HL := Lib.hid (fun w => Oct.rletter_any (c.toNat : Int) w)
      have HD := Lib.hid (fun w => Oct.rdigit_any (c.toNat : Int) w)
      have hpl : plainB ms.data.toList c = ((Oct.letter (c.toNat : Int) || Oct.digit (c.toNat : Int)) || ms.data.toList.contains c) := rfl
      have HPL := Lib.hid hpl
      clear hpl
      have hbase : ∃ b0, (Oct.letter (c.toNat : Int) || Oct.digit (c.toNat : Int)) = b0 := ⟨_, rfl⟩
      obtain ⟨b0, hb0⟩ := hbase
      rw [hb0] at HPL
      have hbb : (Oct.letter (c.toNat : Int) = true ∧ b0 = true) ∨ (Oct.letter (c.toNat : Int) = false ∧ Oct.digit (c.toNat : Int) = b0) := by
        cases hl : Oct.letter (c.toNat : Int) with
        | true => rw [hl, Bool.true_or] at hb0; exact .inl ⟨rfl, hb0.symm⟩
        | false => rw [hl, Bool.false_or] at hb0; exact .inr ⟨rfl, hb0⟩
      clear hb0
      rcases hbb with ⟨hl, hb0⟩ | ⟨hl, hd⟩
      rotate_left 1
      · rw [hd] at HD
        rw [hl] at HL
        clear hl hd
        go_wp2_with (first
          | (go_at_call 62; with_reducible refine (HL.out _).mono ?_; rintro e w2 ⟨rfl, hw⟩; rw [hw]; clear hw)
          | (go_at_call 44; with_reducible refine (HD.out _).mono ?_; rintro e w2 ⟨rfl, hw⟩; rw [hw]; clear hw))
        clear HL HD
        go_loop [7, 8] (fun ok j => ∃ q : Nat, q ≤ ms.size ∧ j = .int .i64 q ∧ ok = .bool (b0 || (ms.data.toList.take q).contains c)) (fun _ j => ms.size - (intOf j).toNat)
        case atStart => exact ⟨0, Nat.zero_le _, rfl, by simp⟩
        case round =>
          obtain ⟨q, hq, rfl, rfl⟩ := hrel
          rcases Nat.lt_or_ge q ms.size with hlq | hgq
          · have j1 : (q : Int) < (ms.size : Int) := by omega
            have hsn := Lib.hid (contains_snoc ms.data.toList q (by rw [len]; exact hlq) c)
            obtain ⟨y, hy⟩ : ∃ y, ms.data.toList[q]'(by rw [len]; exact hlq) = y := ⟨_, rfl⟩
            have hym : ∀ h, ms[q]'h = y := fun _ => hy
            rw [hy] at hsn
            clear hy
            obtain ⟨z, hz⟩ : ∃ z, (ms.data.toList.take (q + 1)).contains c = z := ⟨_, rfl⟩
            rw [hz] at hsn
            have HZQ := Lib.hid hz
            clear hz
            generalize (ms.data.toList.take q).contains c = v at *
            cases hv : (b0 || v) with
            | true =>
              have HZ : Hid ((b0 || z) = true) := Lib.hid (by rw [hsn.out, ← Bool.or_assoc, hv, Bool.true_or])
              clear hv hsn
              go_wp2
              go_round
              case rel => exact ⟨q + 1, by omega, by go_num, by rw [HZQ.out, HZ.out]⟩
              case measure => simp [intOf]; omega
            | false =>
              have HZ : Hid ((b0 || z) = (c == y)) := Lib.hid (by rw [hsn.out, ← Bool.or_assoc, hv, Bool.false_or])
              clear hv hsn
              cases hcy : (c == y) with
              | true =>
                rw [hcy] at HZ
                have t1 : ((c.toNat : Int) == (y.toNat : Int)) = true := by rw [beq_iff_eq.1 hcy]; exact beq_self_eq_true _
                clear hcy
                go_wp2
                go_round
                case rel => exact ⟨q + 1, by omega, by go_num, by rw [HZQ.out, HZ.out]⟩
                case measure => simp [intOf]; omega
              | false =>
                rw [hcy] at HZ
                have t1 : ((c.toNat : Int) == (y.toNat : Int)) = false := beq_eq_false_iff_ne.2 fun e => (beq_eq_false_iff_ne.1 hcy) (UInt8.toNat_inj.1 (by omega))
                clear hcy
                go_wp2
                go_round
                case rel => exact ⟨q + 1, by omega, by go_num, by rw [HZQ.out, HZ.out]⟩
                case measure => simp [intOf]; omega
          · obtain rfl : q = ms.size := by omega
            have j1 : ¬ (ms.size : Int) < (ms.size : Int) := by omega
            rw [List.take_of_length_le (by rw [len]; exact Nat.le_refl _), ← HPL.out]
            by_cases hlong : c = 37 ∧ k + 2 < s.size
            · obtain ⟨hc37, hlg⟩ := hlong
              have t37 : ((c.toNat : Int) == 37) = true := by rw [hc37]; rfl
              have m1 : IntKind.i64.wrap ((s.size : Int) - (k : Int)) = ((s.size - k : Nat) : Int) := by rw [wrap_in _ (by omega) (by omega)]; omega
              have m2 : (2 : Int) < ((s.size - k : Nat) : Int) := by omega
              have m3 : IntKind.i64.wrap ((k : Int) + 1) = ((k + 1 : Nat) : Int) := by rw [wrap_in _ (by omega) (by omega)]; omega
              have m4 : IntKind.i64.wrap ((k : Int) + 2) = ((k + 2 : Nat) : Int) := by rw [wrap_in _ (by omega) (by omega)]; omega
              have i2 : ((k + 1 : Nat) : Int) < (s.size : Int) := by omega
              have i3 : ((k + 2 : Nat) : Int) < (s.size : Int) := by omega
              have hw2 := HW.out
              rw [hc37, okAt_pct _ _ k (by rw [len]; exact hlg)] at hw2
              obtain ⟨a, ha⟩ : ∃ a, s.data.toList[k + 1]'(by rw [len]; omega) = a := ⟨_, rfl⟩
              obtain ⟨b, hb⟩ : ∃ b, s.data.toList[k + 2]'(by rw [len]; omega) = b := ⟨_, rfl⟩
              rw [ha, hb] at hw2
              have ya : ∀ h, s[k + 1]'h = a := fun _ => ha
              have yb : ∀ h, s[k + 2]'h = b := fun _ => hb
              have HXA := Lib.hid (fun w => Oct.rhex_any (a.toNat : Int) w (by omega) (Base.byte_lt a))
              have HXB := Lib.hid (fun w => Oct.rhex_any (b.toNat : Int) w (by omega) (Base.byte_lt b))
              have ea : Oct.isHex (a.toNat : Int) = hexB a := rfl
              have eb : Oct.isHex (b.toNat : Int) = hexB b := rfl
              rw [ea] at HXA
              rw [eb] at HXB
              have HW2 := Lib.hid hw2
              clear hw2 ha hb ea eb hc37 hlg HW HPL hc
              generalize Oct.hexVal (a.toNat : Int) = va at *
              generalize Oct.hexVal (b.toNat : Int) = vb at *
              generalize hexB a = ha at *
              generalize hexB b = hb at *
              rcases (show (ha = true ∧ hb = true) ∨ (ha && hb) = false by cases ha <;> cases hb <;> simp) with ⟨rfl, rfl⟩ | hf
              · have HW3 : Hid (written ms.data.toList (s.data.toList.drop (k + 1)) = A) := HW2
                clear HW2
                go_wp2_with (first
                  | (go_at_call 58; with_reducible refine (HXA.out _).mono ?_; rintro e w2 ⟨rfl, hw⟩; rw [hw]; clear hw)
                  | (go_at_call 58; with_reducible refine (HXB.out _).mono ?_; rintro e w2 ⟨rfl, hw⟩; rw [hw]; clear hw))
                go_round
                case rel => exact ⟨k + 1, by omega, by go_num, HW3⟩
                case measure => simp [intOf]; omega
              · rw [hf] at HW2
                have HF : Hid (false = A) := HW2
                clear HW2
                cases ha
                all_goals cases hb
                all_goals try (exact absurd hf (by decide))
                all_goals
                  clear hf
                  go_wp2_with (first
                    | (go_at_call 58; with_reducible refine (HXA.out _).mono ?_; rintro e w2 ⟨rfl, hw⟩; rw [hw]; clear hw)
                    | (go_at_call 58; with_reducible refine (HXB.out _).mono ?_; rintro e w2 ⟨rfl, hw⟩; rw [hw]; clear hw))
                  go_ret
                  exact ⟨by rw [← HF.out]; rfl, rfl⟩
            · have hok : okAt ms.data.toList c (s.data.toList.drop (k + 1)) = plainB ms.data.toList c := by
                by_cases hc37 : c = 37
                · exact okAt_short _ _ _ (by have : ¬ k + 2 < s.size := fun h => hlong ⟨hc37, h⟩; rw [List.length_drop, len]; omega)
                · exact okAt_plain _ _ _ hc37
              have HW2 := Lib.hid (by have := HW.out; rwa [hok] at this)
              clear hok HW HPL
              generalize plainB ms.data.toList c = pb at *
              by_cases hc37 : c = 37
              · have t37 : ((c.toNat : Int) == 37) = true := by rw [hc37]; rfl
                have m1 : IntKind.i64.wrap ((s.size : Int) - (k : Int)) = ((s.size - k : Nat) : Int) := by rw [wrap_in _ (by omega) (by omega)]; omega
                have m2 : ¬ (2 : Int) < ((s.size - k : Nat) : Int) := by have : ¬ k + 2 < s.size := fun h => hlong ⟨hc37, h⟩; omega
                clear hlong hc37 hc
                cases pb with
                | true =>
                  go_wp2
                  go_round
                  case rel => exact ⟨k + 1, by omega, by go_num, Lib.hid (by have := HW2.out; rwa [Bool.true_and] at this)⟩
                  case measure => simp [intOf]; omega
                | false =>
                  have hf := HW2.out
                  rw [Bool.false_and] at hf
                  have HF := Lib.hid hf
                  clear hf HW2
                  go_wp2
                  go_ret
                  exact ⟨by rw [← HF.out]; rfl, rfl⟩

              · have t37 : ((c.toNat : Int) == 37) = false := beq_eq_false_iff_ne.2 fun e => hc37 (UInt8.toNat_inj.1 (by show c.toNat = 37; omega))
                clear hlong hc37 hc
                cases pb with
                | true =>
                  go_wp2
                  go_round
                  case rel => exact ⟨k + 1, by omega, by go_num, Lib.hid (by have := HW2.out; rwa [Bool.true_and] at this)⟩
                  case measure => simp [intOf]; omega
                | false =>
                  have hf := HW2.out
                  rw [Bool.false_and] at hf
                  have HF := Lib.hid hf
                  clear hf HW2
                  go_wp2
                  go_ret
                  exact ⟨by rw [← HF.out]; rfl, rfl⟩

      · rw [hl] at HL
        clear hl
        go_wp2_with (go_at_call 62; with_reducible refine (HL.out _).mono ?_; rintro e w2 ⟨rfl, hw⟩; rw [hw]; clear hw)
        clear HL HD
        go_loop [7, 8] (fun ok j => ∃ q : Nat, q ≤ ms.size ∧ j = .int .i64 q ∧ ok = .bool (b0 || (ms.data.toList.take q).contains c)) (fun _ j => ms.size - (intOf j).toNat)
        case atStart => exact ⟨0, Nat.zero_le _, rfl, by simp [hb0]⟩
        case round =>
          obtain ⟨q, hq, rfl, rfl⟩ := hrel
          rcases Nat.lt_or_ge q ms.size with hlq | hgq
          · have j1 : (q : Int) < (ms.size : Int) := by omega
            have hsn := Lib.hid (contains_snoc ms.data.toList q (by rw [len]; exact hlq) c)
            obtain ⟨y, hy⟩ : ∃ y, ms.data.toList[q]'(by rw [len]; exact hlq) = y := ⟨_, rfl⟩
            have hym : ∀ h, ms[q]'h = y := fun _ => hy
            rw [hy] at hsn
            clear hy
            obtain ⟨z, hz⟩ : ∃ z, (ms.data.toList.take (q + 1)).contains c = z := ⟨_, rfl⟩
            rw [hz] at hsn
            have HZQ := Lib.hid hz
            clear hz
            generalize (ms.data.toList.take q).contains c = v at *
            cases hv : (b0 || v) with
            | true =>
              have HZ : Hid ((b0 || z) = true) := Lib.hid (by rw [hsn.out, ← Bool.or_assoc, hv, Bool.true_or])
              clear hv hsn
              go_wp2
              go_round
              case rel => exact ⟨q + 1, by omega, by go_num, by rw [HZQ.out, HZ.out]⟩
              case measure => simp [intOf]; omega
            | false =>
              have HZ : Hid ((b0 || z) = (c == y)) := Lib.hid (by rw [hsn.out, ← Bool.or_assoc, hv, Bool.false_or])
              clear hv hsn
              cases hcy : (c == y) with
              | true =>
                rw [hcy] at HZ
                have t1 : ((c.toNat : Int) == (y.toNat : Int)) = true := by rw [beq_iff_eq.1 hcy]; exact beq_self_eq_true _
                clear hcy
                go_wp2
                go_round
                case rel => exact ⟨q + 1, by omega, by go_num, by rw [HZQ.out, HZ.out]⟩
                case measure => simp [intOf]; omega
              | false =>
                rw [hcy] at HZ
                have t1 : ((c.toNat : Int) == (y.toNat : Int)) = false := beq_eq_false_iff_ne.2 fun e => (beq_eq_false_iff_ne.1 hcy) (UInt8.toNat_inj.1 (by omega))
                clear hcy
                go_wp2
                go_round
                case rel => exact ⟨q + 1, by omega, by go_num, by rw [HZQ.out, HZ.out]⟩
                case measure => simp [intOf]; omega
          · obtain rfl : q = ms.size := by omega
            have j1 : ¬ (ms.size : Int) < (ms.size : Int) := by omega
            rw [List.take_of_length_le (by rw [len]; exact Nat.le_refl _), ← HPL.out]
            by_cases hlong : c = 37 ∧ k + 2 < s.size
            · obtain ⟨hc37, hlg⟩ := hlong
              have t37 : ((c.toNat : Int) == 37) = true := by rw [hc37]; rfl
              have m1 : IntKind.i64.wrap ((s.size : Int) - (k : Int)) = ((s.size - k : Nat) : Int) := by rw [wrap_in _ (by omega) (by omega)]; omega
              have m2 : (2 : Int) < ((s.size - k : Nat) : Int) := by omega
              have m3 : IntKind.i64.wrap ((k : Int) + 1) = ((k + 1 : Nat) : Int) := by rw [wrap_in _ (by omega) (by omega)]; omega
              have m4 : IntKind.i64.wrap ((k : Int) + 2) = ((k + 2 : Nat) : Int) := by rw [wrap_in _ (by omega) (by omega)]; omega
              have i2 : ((k + 1 : Nat) : Int) < (s.size : Int) := by omega
              have i3 : ((k + 2 : Nat) : Int) < (s.size : Int) := by omega
              have hw2 := HW.out
              rw [hc37, okAt_pct _ _ k (by rw [len]; exact hlg)] at hw2
              obtain ⟨a, ha⟩ : ∃ a, s.data.toList[k + 1]'(by rw [len]; omega) = a := ⟨_, rfl⟩
              obtain ⟨b, hb⟩ : ∃ b, s.data.toList[k + 2]'(by rw [len]; omega) = b := ⟨_, rfl⟩
              rw [ha, hb] at hw2
              have ya : ∀ h, s[k + 1]'h = a := fun _ => ha
              have yb : ∀ h, s[k + 2]'h = b := fun _ => hb
              have HXA := Lib.hid (fun w => Oct.rhex_any (a.toNat : Int) w (by omega) (Base.byte_lt a))
              have HXB := Lib.hid (fun w => Oct.rhex_any (b.toNat : Int) w (by omega) (Base.byte_lt b))
              have ea : Oct.isHex (a.toNat : Int) = hexB a := rfl
              have eb : Oct.isHex (b.toNat : Int) = hexB b := rfl
              rw [ea] at HXA
              rw [eb] at HXB
              have HW2 := Lib.hid hw2
              clear hw2 ha hb ea eb hc37 hlg HW HPL hc
              generalize Oct.hexVal (a.toNat : Int) = va at *
              generalize Oct.hexVal (b.toNat : Int) = vb at *
              generalize hexB a = ha at *
              generalize hexB b = hb at *
              rcases (show (ha = true ∧ hb = true) ∨ (ha && hb) = false by cases ha <;> cases hb <;> simp) with ⟨rfl, rfl⟩ | hf
              · have HW3 : Hid (written ms.data.toList (s.data.toList.drop (k + 1)) = A) := HW2
                clear HW2
                go_wp2_with (first
                  | (go_at_call 58; with_reducible refine (HXA.out _).mono ?_; rintro e w2 ⟨rfl, hw⟩; rw [hw]; clear hw)
                  | (go_at_call 58; with_reducible refine (HXB.out _).mono ?_; rintro e w2 ⟨rfl, hw⟩; rw [hw]; clear hw))
                go_round
                case rel => exact ⟨k + 1, by omega, by go_num, HW3⟩
                case measure => simp [intOf]; omega
              · rw [hf] at HW2
                have HF : Hid (false = A) := HW2
                clear HW2
                cases ha
                all_goals cases hb
                all_goals try (exact absurd hf (by decide))
                all_goals
                  clear hf
                  go_wp2_with (first
                    | (go_at_call 58; with_reducible refine (HXA.out _).mono ?_; rintro e w2 ⟨rfl, hw⟩; rw [hw]; clear hw)
                    | (go_at_call 58; with_reducible refine (HXB.out _).mono ?_; rintro e w2 ⟨rfl, hw⟩; rw [hw]; clear hw))
                  go_ret
                  exact ⟨by rw [← HF.out]; rfl, rfl⟩
            · have hok : okAt ms.data.toList c (s.data.toList.drop (k + 1)) = plainB ms.data.toList c := by
                by_cases hc37 : c = 37
                · exact okAt_short _ _ _ (by have : ¬ k + 2 < s.size := fun h => hlong ⟨hc37, h⟩; rw [List.length_drop, len]; omega)
                · exact okAt_plain _ _ _ hc37
              have HW2 := Lib.hid (by have := HW.out; rwa [hok] at this)
              clear hok HW HPL
              generalize plainB ms.data.toList c = pb at *
              by_cases hc37 : c = 37
              · have t37 : ((c.toNat : Int) == 37) = true := by rw [hc37]; rfl
                have m1 : IntKind.i64.wrap ((s.size : Int) - (k : Int)) = ((s.size - k : Nat) : Int) := by rw [wrap_in _ (by omega) (by omega)]; omega
                have m2 : ¬ (2 : Int) < ((s.size - k : Nat) : Int) := by have : ¬ k + 2 < s.size := fun h => hlong ⟨hc37, h⟩; omega
                clear hlong hc37 hc
                cases pb with
                | true =>
                  go_wp2
                  go_round
                  case rel => exact ⟨k + 1, by omega, by go_num, Lib.hid (by have := HW2.out; rwa [Bool.true_and] at this)⟩
                  case measure => simp [intOf]; omega
                | false =>
                  have hf := HW2.out
                  rw [Bool.false_and] at hf
                  have HF := Lib.hid hf
                  clear hf HW2
                  go_wp2
                  go_ret
                  exact ⟨by rw [← HF.out]; rfl, rfl⟩

              · have t37 : ((c.toNat : Int) == 37) = false := beq_eq_false_iff_ne.2 fun e => hc37 (UInt8.toNat_inj.1 (by show c.toNat = 37; omega))
                clear hlong hc37 hc
                cases pb with
                | true =>
                  go_wp2
                  go_round
                  case rel => exact ⟨k + 1, by omega, by go_num, Lib.hid (by have := HW2.out; rwa [Bool.true_and] at this)⟩
                  case measure => simp [intOf]; omega
                | false =>
                  have hf := HW2.out
                  rw [Bool.false_and] at hf
                  have HF := Lib.hid hf
                  clear hf HW2
                  go_wp2
                  go_ret
                  exact ⟨by rw [← HF.out]; rfl, rfl⟩

    · obtain rfl : k = s.size := by omega
      have hw1 := hw.out
      rw [List.drop_eq_nil_of_le (by rw [len]; exact Nat.le_refl _)] at hw1
      have HT := Lib.hid (show true = A from hw1)
      clear hw hw1
      go_wp2
      go_ret
      exact ⟨by rw [← HT.out]; rfl, rfl⟩
end code
end Go.Proofs.YtlignmlkoahbmaaGreatDoor.Tgt
