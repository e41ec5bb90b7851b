/-
  Layer 2 (number): the document's own reading of a number answers the same plain function.
-/
import Derived.Test.YtlignmlkoahbmaaGreatDoorNumReads
namespace Go.Proofs.YtlignmlkoahbmaaGreatDoor.Num
open Go.RowKit Base Oct

theorem grow_snoc (base most n : Int) (l : List UInt8) (c : UInt8) : grow base most n (l ++ [c]) = (grow base most n l).bind fun k => if most < dig c ∨ (most - dig c) / base < k then none else some (k * base + dig c) := by
  rw [grow_app]; rfl
/-- What the walk holds of the number so far. -/
def Far (B M : Int) (l : List UInt8) (n : Int) (over : Bool) : Prop := l.all (digitOf B) = true ∧ 0 ≤ n ∧ n ≤ M ∧ grow B M 0 l = if over = true then none else some n

section code
set_option maxHeartbeats 1000000
theorem rnumber_any (B : Int) (hB : B = 10 ∨ B = 16) (most : Int) (hM : most ≤ 9223372036854775807) (s : ByteArray) (w : World) (hs : s.size ≤ maxLen) :
    Calls Tryz.prog 80 #[.string s, .int .i64 B, .int .i64 most] w fun e w' => e = .returned (.tuple #[.int .i64 (readOf B most s.data.toList).1, .int .i64 (readOf B most s.data.toList).2]) ∧ w' = w := by
  unfold maxLen at hs
  by_cases h : s.data.toList = []
  · have e1 : s.toList = [] := by rw [Go.ByteArray.toList_eq, h]
    rw [h]
    go_enter Tryz.func80, Tryz.ntmps80
    go_wp2_with fail
    go_ret2
    exact ⟨rfl, rfl⟩
  · have hne : s.toList.isEmpty = false := by rw [Go.ByteArray.toList_eq]; simpa using h
    have hne' : s.data.toList.isEmpty = false := by simpa using h
    have hp : 0 < s.size := by
      rcases Nat.eq_zero_or_pos s.size with h0 | h0
      · exact absurd (List.eq_nil_of_length_eq_zero (by simpa using h0)) h
      · exact h0
    have hR : readOf B most s.data.toList = if (!s.data.toList.all (digitOf B)) = true then (0, 22) else ofGrow (grow B (max most 0) 0 s.data.toList) := by
      unfold readOf; rw [hne']; rfl
    clear hne' h
    have hm0 : 0 ≤ max most 0 := by omega
    have hm1 : max most 0 ≤ 9223372036854775807 := by omega
    generalize hmx : max most 0 = M at *
    obtain ⟨R, hRR⟩ : ∃ R, R = readOf B most s.data.toList := ⟨_, rfl⟩
    rw [← hRR] at hR ⊢
    clear hRR
    have HR := Lib.hid hR
    clear hR
    go_enter Tryz.func80, Tryz.ntmps80
    go_wp2_with fail
    go_loop [8, 9, 10] (fun x o i => ∃ (k : Nat) (n : Int) (over : Bool), k ≤ s.size ∧ x = .int .i64 n ∧ o = .bool over ∧ i = .int .i64 k ∧ Hid (Far B M (s.data.toList.take k) n over)) (fun _ _ i => s.size - (intOf i).toNat)
    case atStart => exact ⟨0, 0, false, Nat.zero_le _, rfl, rfl, rfl, Lib.hid ⟨rfl, Int.le_refl _, hm0, rfl⟩⟩
    case round =>
      obtain ⟨k, n, over, hk, rfl, rfl, rfl, hfar⟩ := hrel
      rcases Nat.lt_or_ge k s.size with hlt | hge
      · have HS := Lib.hid (take_snoc s k hlt)
        have b1 := byte_lt s[k]
        have b0 : (0 : Int) ≤ (s[k].toNat : Int) := by omega
        obtain ⟨d, hd⟩ : ∃ d, d = dig s[k] := ⟨_, rfl⟩
        obtain ⟨x, hx⟩ : ∃ x, x = isHex (s[k].toNat : Int) := ⟨_, rfl⟩
        have hxd : Hid (∀ w, Calls Tryz.prog 58 #[.int .u8 (s[k].toNat : Int)] w fun e w' => e = .returned (.tuple #[.int .i64 d, .bool x]) ∧ w' = w) := Lib.hid (fun w => by rw [hd, hx]; exact rhex_any _ w b0 b1)
        have d0 : 0 ≤ d := by rw [hd]; exact dig_nonneg _
        have d1 : d ≤ 15 := by rw [hd]; exact dig_le _
        have hdig : digitOf B s[k] = (x && decide (d < B)) := by rw [hd, hx]; rfl
        have n0 := hfar.out.2.1
        have n1 := hfar.out.2.2.1
        have HD := Lib.hid hd
        have HG := Lib.hid hdig
        have HM : Hid (s[k] ∈ s.data.toList) := Lib.hid (byte_mem s k hlt)
        clear hd hx hdig
        have bad : Hid (∀ _ : (x && decide (d < B)) = false, R = (0, 22)) := Lib.hid (fun hb => by
          have hf : s.data.toList.all (digitOf B) = false := by
            rw [Bool.eq_false_iff]
            intro ha
            rw [List.all_eq_true] at ha
            have := ha _ HM.out
            rw [HG.out, hb] at this
            cases this
          rw [HR.out, hf]; rfl)
        cases x with
        | false =>
          go_wp2_with (go_at_call 58; with_reducible refine (hxd.out _).mono ?_; rintro e w' ⟨rfl, rfl⟩)
          go_ret2
          rw [bad.out rfl]
          exact ⟨rfl, rfl⟩
        | true =>
          by_cases hdB : d < B
          · have step : Hid (∀ n' o', (over = false → ¬ (M < d ∨ (M - d) / B < n) → n' = n * B + d ∧ o' = false) → (over = true ∨ (M < d ∨ (M - d) / B < n) → n' = n ∧ o' = true) → Far B M (s.data.toList.take (k + 1)) n' o') := Lib.hid (fun n' o' h1 h2 => by
              obtain ⟨f1, f2, f3, f4⟩ := hfar.out
              have hall : (s.data.toList.take (k + 1)).all (digitOf B) = true := by
                rw [HS.out, List.all_append, f1]
                simp [HG.out, hdB]
              cases over with
              | true =>
                obtain ⟨rfl, rfl⟩ := h2 (.inl rfl)
                refine ⟨hall, f2, f3, ?_⟩
                rw [HS.out, grow_snoc, f4]; rfl
              | false =>
                by_cases hc : M < d ∨ (M - d) / B < n
                · obtain ⟨rfl, rfl⟩ := h2 (.inr hc)
                  refine ⟨hall, f2, f3, ?_⟩
                  rw [HS.out, grow_snoc, f4, ← HD.out]
                  simp [hc]
                · obtain ⟨rfl, rfl⟩ := h1 rfl hc
                  have hmul : n * B + d ≤ M := by
                    have := room (base := B) (most := M) (by omega) n d f2
                    omega
                  have hnb : 0 ≤ n * B := Int.mul_nonneg f2 (by omega)
                  refine ⟨hall, by omega, hmul, ?_⟩
                  rw [HS.out, grow_snoc, f4, ← HD.out]
                  simp [hc])
            have hdB' : (decide (d ≥ B)) = false := by simp; omega
            cases over with
            | true =>
              go_wp2_with (go_at_call 58; with_reducible refine (hxd.out _).mono ?_; rintro e w' ⟨rfl, rfl⟩)
              go_round
              case rel => exact ⟨k + 1, n, true, by omega, rfl, rfl, by go_num, Lib.hid (step.out _ _ (fun h => by cases h) (fun _ => ⟨rfl, rfl⟩))⟩
              case measure => simp [intOf]; omega
            | false =>
              by_cases hA : M < d
              · obtain ⟨q, hq⟩ : ∃ q, q = (M - d).tdiv B := ⟨_, rfl⟩
                have w1 : IntKind.i64.wrap (M - d) = M - d := wrap_in _ (by omega) (by omega)
                have w1' : wrap64 (M - d) = M - d := by unfold wrap64; omega
                have q1 : -15 ≤ q ∧ q ≤ 0 := by
                  have e : (M - d).tdiv B = - ((d - M).tdiv B) := by rw [← Int.neg_tdiv]; congr 1; omega
                  have e2 : (d - M).tdiv B = (d - M) / B := Int.tdiv_eq_ediv_of_nonneg (by omega)
                  rw [e, e2] at hq
                  rcases hB with rfl | rfl <;> omega
                have w3 : IntKind.i64.wrap q = q := wrap_in _ (by omega) (by omega)
                have w3' : wrap64 q = q := by unfold wrap64; omega
                have w2 := hq.symm
                clear hq
                have hB0 : ¬ B = 0 := by omega
                go_wp2_with (go_at_call 58; with_reducible refine (hxd.out _).mono ?_; rintro e w' ⟨rfl, rfl⟩)
                all_goals
                  go_round
                  case rel => exact ⟨k + 1, n, true, by omega, rfl, rfl, by go_num, Lib.hid (step.out _ _ (fun _ h => absurd (Or.inl hA) h) (fun _ => ⟨rfl, rfl⟩))⟩
                  case measure => simp [intOf]; omega
              · have w1 : IntKind.i64.wrap (M - d) = M - d := wrap_in _ (by omega) (by omega)
                have w1' : wrap64 (M - d) = M - d := by unfold wrap64; omega
                have w2 : (M - d).tdiv B = (M - d) / B := Int.tdiv_eq_ediv_of_nonneg (by omega)
                have w3 : IntKind.i64.wrap ((M - d) / B) = (M - d) / B := wrap_in _ (by rcases hB with rfl | rfl <;> omega) (by rcases hB with rfl | rfl <;> omega)
                have w3' : wrap64 ((M - d) / B) = (M - d) / B := by rw [← w3, IntKind.wrap_i64]; unfold wrap64; rcases hB with rfl | rfl <;> omega
                have hB0 : ¬ B = 0 := by omega
                by_cases hC : (M - d) / B < n
                · go_wp2_with (go_at_call 58; with_reducible refine (hxd.out _).mono ?_; rintro e w' ⟨rfl, rfl⟩)
                  go_round
                  case rel => exact ⟨k + 1, n, true, by omega, rfl, rfl, by go_num, Lib.hid (step.out _ _ (fun _ h => absurd (Or.inr hC) h) (fun _ => ⟨rfl, rfl⟩))⟩
                  case measure => simp [intOf]; omega
                · have hmul : n * B + d ≤ M := by
                    have := room (base := B) (most := M) (by omega) n d n0
                    omega
                  have hnb : 0 ≤ n * B := Int.mul_nonneg n0 (by omega)
                  have m1 : IntKind.i64.wrap (n * B) = n * B := wrap_in _ (by omega) (by omega)
                  have m2 : IntKind.i64.wrap (n * B + d) = n * B + d := wrap_in _ (by omega) (by omega)
                  go_wp2_with (go_at_call 58; with_reducible refine (hxd.out _).mono ?_; rintro e w' ⟨rfl, rfl⟩)
                  go_round
                  case rel => exact ⟨k + 1, n * B + d, false, by omega, by go_num, rfl, by go_num, Lib.hid (step.out _ _ (fun _ _ => ⟨rfl, rfl⟩) (fun h => by rcases h with h | h; cases h; omega))⟩
                  case measure => simp [intOf]; omega
          · have hdB' : B ≤ d := by omega
            go_wp2_with (go_at_call 58; with_reducible refine (hxd.out _).mono ?_; rintro e w' ⟨rfl, rfl⟩)
            go_ret2
            rw [bad.out (by simp [hdB])]
            exact ⟨rfl, rfl⟩
      · have fin : Hid (R = ofGrow (if over = true then none else some n)) := Lib.hid (by
          obtain ⟨f1, _, _, f4⟩ := hfar.out
          rw [take_all s k hge] at f1 f4
          rw [HR.out, f1, f4]; rfl)
        cases over with
        | true =>
          go_wp2_with fail
          go_ret2
          rw [fin.out]
          exact ⟨rfl, rfl⟩
        | false =>
          go_wp2_with fail
          go_ret2
          rw [fin.out]
          exact ⟨rfl, rfl⟩
end code
end Go.Proofs.YtlignmlkoahbmaaGreatDoor.Num
