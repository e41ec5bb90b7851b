/-
  Layer 2 (number): what reading and writing a number answers, and the same of the document's own package.
-/
import Derived.Test.YtlignmlkoahbmaaGreatDoorNumber
namespace Go.Proofs.YtlignmlkoahbmaaGreatDoor.Num
open Go.RowKit Base Oct

theorem cut_one (s : ByteArray) (h : 0 < s.size) : s.data.toList = s[0] :: (s.extract 1 s.size).data.toList := by
  have e : (s.extract 1 s.size).data.toList = s.data.toList.drop 1 := by
    rw [ByteArray.data_extract]
    simp only [Array.toList_extract, List.extract]
    rw [List.take_of_length_le (by simp)]
  rw [e]
  cases s with
  | mk a => cases a with
    | mk l => cases l with
      | nil => exact absurd h (by decide)
      | cons c r => rfl
section code
set_option maxHeartbeats 800000
theorem add_any (B : Int) (hB : B = 10 ∨ B = 16) (most : Int) (hm : 0 ≤ most) (hM : most ≤ 9223372036854775807) (k : Nat) : ∀ (n : Int) (s : ByteArray) (w : World), s.size < k → 0 ≤ n → n ≤ most →
    Calls Tryz.prog 113 #[.int .i64 n, .string s, .int .i64 B, .int .i64 most] w fun e w' => e = .returned (.tuple #[.int .i64 (ofGrow (grow B most n s.data.toList)).1, .int .i64 (ofGrow (grow B most n s.data.toList)).2]) ∧ w' = w := by
  induction k with
  | zero => intro n s w h _ _; omega
  | succ k ih =>
    intro n s w hs hn hle
    by_cases h : s.size = 0
    · have e0 : s.data.toList = [] := by
        apply List.eq_nil_of_length_eq_zero; simpa using h
      have e1 : s.toList = [] := by rw [Go.ByteArray.toList_eq, e0]
      rw [e0]
      clear ih
      go_enter Tryz.func113, Tryz.ntmps113
      go_wp2_with fail
      go_ret2
      exact ⟨rfl, rfl⟩
    · have hp : 0 < s.size := by omega
      have hne : s.toList.isEmpty = false := by
        rw [Go.ByteArray.toList_eq, cut_one s hp]; rfl
      have b1 := byte_lt s[0]
      have b0 : (0 : Int) ≤ (s[0].toNat : Int) := by omega
      obtain ⟨d, hd⟩ : ∃ d, d = dig s[0] := ⟨_, rfl⟩
      have hx : Hid (∀ w, Calls Tryz.prog 86 #[.int .u8 (s[0].toNat : Int)] w fun e w' => e = .returned (.tuple #[.int .i64 d, .bool (isHex (s[0].toNat : Int))]) ∧ w' = w) := Lib.hid (fun w => by rw [hd]; exact hex_any _ w b0 b1)
      have d0 : 0 ≤ d := by rw [hd]; exact dig_nonneg _
      have d1 : d ≤ 15 := by rw [hd]; exact dig_le _
      have hcut := cut_one s hp
      have hz : (s.extract 1 s.size).size < k := by rw [ByteArray.size_extract]; omega
      rw [hcut]
      simp only [grow]
      rw [← hd]
      have IH := Lib.hid (ih (n * B + d) (s.extract 1 s.size))
      clear ih hcut hd
      by_cases hA : most < d
      · rw [if_pos (.inl hA)]
        go_enter Tryz.func113, Tryz.ntmps113
        go_wp2_with (go_at_call 86; with_reducible refine (hx.out _).mono ?_; rintro e w' ⟨rfl, rfl⟩)
        go_ret2
        exact ⟨rfl, rfl⟩
      · have hA' : d ≤ most := by omega
        have w1 : IntKind.i64.wrap (most - d) = most - d := wrap_in _ (by omega) (by omega)
        have w1' : wrap64 (most - d) = most - d := by unfold wrap64; omega
        have w2 : (most - d).tdiv B = (most - d) / B := Int.tdiv_eq_ediv_of_nonneg (by omega)
        have w3 : IntKind.i64.wrap ((most - d) / B) = (most - d) / B := wrap_in _ (by rcases hB with rfl | rfl <;> omega) (by rcases hB with rfl | rfl <;> omega)
        have w3' : wrap64 ((most - d) / B) = (most - d) / B := by rw [← w3, IntKind.wrap_i64]; unfold wrap64; rcases hB with rfl | rfl <;> omega
        have hB0 : ¬ B = 0 := by omega
        by_cases hC : (most - d) / B < n
        · rw [if_pos (.inr hC)]
          rcases hB with rfl | rfl
          all_goals
            go_enter Tryz.func113, Tryz.ntmps113
            go_wp2_with (go_at_call 86; with_reducible refine (hx.out _).mono ?_; rintro e w' ⟨rfl, rfl⟩)
            go_ret2
            exact ⟨rfl, rfl⟩
        · rw [if_neg (by omega)]
          have hmul : n * B + d ≤ most := by
            have := room (base := B) (most := most) (by omega) n d hn
            omega
          have hnb : 0 ≤ n * B := Int.mul_nonneg hn (by omega)
          have IH' := Lib.hid (fun w => IH.out w hz (by omega) hmul)
          clear IH
          generalize ofGrow (grow B most (n * B + d) (s.extract 1 s.size).data.toList) = R at IH' ⊢
          rcases hB with rfl | rfl
          all_goals
            go_enter Tryz.func113, Tryz.ntmps113
            go_wp2_with (first
              | (go_at_call 86; with_reducible refine (hx.out _).mono ?_; rintro e w' ⟨rfl, rfl⟩)
              | (go_at_call 113; with_reducible refine (IH'.out _).mono ?_; rintro e w' ⟨rfl, rfl⟩))
            go_ret2
            exact ⟨rfl, rfl⟩
/-- A text of digits of a base, all of a kind. -/
theorem read_any (B K : Int) (hB : B = 10 ∧ K = 4 ∨ B = 16 ∧ K = 5) (most : Int) (hM : most ≤ 9223372036854775807) (s : ByteArray) (w : World) (hs : s.size ≤ maxLen) :
    Calls Tryz.prog 110 #[.string s, .int .i64 K, .int .i64 B, .int .i64 most] w fun e w' => e = .returned (.tuple #[.int .i64 (readOf B most s.data.toList).1, .int .i64 (readOf B most s.data.toList).2]) ∧ Below w.heap.size w w' := by
  have hk : allOf [K] s.data.toList = s.data.toList.all (digitOf B) := by
    rcases hB with ⟨rfl, rfl⟩ | ⟨rfl, rfl⟩
    · exact all_dec _
    · exact all_hex _
  have hB' : B = 10 ∨ B = 16 := by omega
  by_cases h : s.data.toList = []
  · have e1 : s.toList = [] := by rw [Go.ByteArray.toList_eq, h]
    rw [h]
    clear hk
    go_enter Tryz.func110, Tryz.ntmps110
    go_wp2_with fail
    go_ret2
    exact ⟨rfl, Below.refl _ _⟩
  · have hne : s.toList.isEmpty = false := by rw [Go.ByteArray.toList_eq]; simpa using h
    have hne' : s.data.toList.isEmpty = false := by simpa using h
    unfold readOf
    rw [hne']
    cases ha : s.data.toList.all (digitOf B) with
    | false =>
      rw [ha] at hk
      have HK := Lib.hid hk
      clear hk ha hne' h
      go_enter Tryz.func110, Tryz.ntmps110
      go_wp2_with (go_at_call 29; (with_reducible refine (all_any _ _ 1 1 [K] _ ?_ ?_ ?_).mono ?_); assumption; (exact Ints.one _ _ (by simp) _ _); decide; rw [HK.out]; rintro e w' ⟨rfl, rfl⟩)
      go_ret2
      exact ⟨rfl, (Below.refl _ _).alloc (Nat.le_refl _) _⟩
    | true =>
      rw [ha] at hk
      have HK := Lib.hid hk
      have hm0 : 0 ≤ max most 0 := by omega
      have hg := grow_noughts (base := B) (most := max most 0) (by omega) hm0 s.data.toList
      have hadd := Lib.hid (add_any B hB' (max most 0) hm0 (by omega) ((str (Lib.trimLeftB s.data.toList 48)).size + 1) 0 (str (Lib.trimLeftB s.data.toList 48)))
      have hd : (str (Lib.trimLeftB s.data.toList 48)).data.toList = Lib.trimLeftB s.data.toList 48 := rfl
      have hadd' : Hid (∀ w, Calls Tryz.prog 113 #[.int .i64 0, .string (str (Lib.trimLeftB s.data.toList 48)), .int .i64 B, .int .i64 (max most 0)] w fun e w' => e = .returned (.tuple #[.int .i64 (ofGrow (grow B (max most 0) 0 s.data.toList)).1, .int .i64 (ofGrow (grow B (max most 0) 0 s.data.toList)).2]) ∧ w' = w) := Lib.hid (fun w => by
        have := hadd.out w (by omega) (by omega) hm0
        rwa [hd, hg] at this)
      have htr : Hid (∀ w, Calls Tryz.prog 114 #[.string s, .string ⟨#[48]⟩] w fun e w' => e = .returned (.string (str (Lib.trimLeftB s.data.toList 48))) ∧ w' = w) := Lib.hid (fun w => Tryz.strings_TrimLeft_one s 48 (by decide) w)
      clear hadd hd hg hk ha hne' h
      simp only [Bool.not_true, Bool.or_false, Bool.false_eq_true, if_false]
      generalize str (Lib.trimLeftB s.data.toList 48) = T at hadd' htr
      generalize ofGrow (grow B (max most 0) 0 s.data.toList) = R at hadd' ⊢
      generalize hmx : max most 0 = M at *
      go_enter Tryz.func110, Tryz.ntmps110
      go_wp2_with (first
        | (go_at_call 29; (with_reducible refine (all_any _ _ 1 1 [K] _ ?_ ?_ ?_).mono ?_); assumption; (exact Ints.one _ _ (by simp) _ _); decide; rw [HK.out]; rintro e w' ⟨rfl, rfl⟩)
        | (go_at_call 114; with_reducible refine (htr.out _).mono ?_; rintro e w' ⟨rfl, rfl⟩)
        | (go_at_call 113; with_reducible refine (hadd'.out _).mono ?_; rintro e w' ⟨rfl, rfl⟩))
      go_ret2
      exact ⟨rfl, (Below.refl _ _).alloc (Nat.le_refl _) _⟩
theorem dec_any (most : Int) (hM : most ≤ 9223372036854775807) (s : ByteArray) (w : World) (hs : s.size ≤ maxLen) :
    Calls Tryz.prog 103 #[.string s, .int .i64 most] w fun e w' => e = .returned (.tuple #[.int .i64 (readOf 10 most s.data.toList).1, .int .i64 (readOf 10 most s.data.toList).2]) ∧ Below w.heap.size w w' := by
  have h := Lib.hid (fun w => read_any 10 4 (by omega) most hM s w hs)
  generalize readOf 10 most s.data.toList = R at h ⊢
  go_enter Tryz.func103, Tryz.ntmps103
  go_wp2_with (go_at_call 110; with_reducible refine (h.out _).mono ?_; rintro e w1 ⟨rfl, hb⟩)
  go_ret2
  exact ⟨rfl, hb⟩
end code
end Go.Proofs.YtlignmlkoahbmaaGreatDoor.Num
