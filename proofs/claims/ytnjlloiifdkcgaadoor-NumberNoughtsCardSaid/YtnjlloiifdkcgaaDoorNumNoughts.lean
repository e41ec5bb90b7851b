/-
  Layer 2 (number): the walk of NumberNoughts: it returns true, and writes nothing that was there.
-/
import Derived.Test.YtnjlloiifdkcgaaDoorNumBack
namespace Go.Proofs.YtnjlloiifdkcgaaDoor.Num
open Go.RowKit Base Oct

theorem spell_nought (b : Nat) (h2 : 2 ≤ b) : spell b 0 = [48] := by rw [spell_lt (by omega)]; rfl
theorem read_noughts {b : Nat} (h2 : 2 ≤ b) (h16 : b ≤ 16) (n k : Nat) : readOf b n (List.replicate k 48 ++ spell b n) = ((n : Int), 0) := by
  have h := read_spell h2 h16 n k n (by omega)
  rw [if_pos (Int.le_refl _)] at h
  exact h
theorem read_nought (j : Nat) (most : Int) (hm : 0 ≤ most) : readOf 10 most (List.replicate j 48 ++ [48]) = (0, 0) := by
  have h := read_spell (b := 10) (by omega) (by omega) 0 j most hm
  rw [spell_nought 10 (by omega), if_pos (by omega)] at h
  exact h
theorem read_only (j : Nat) : readOf 10 9 (List.replicate j 48) = (0, if j = 0 then 22 else 0) := by
  cases j with
  | zero => rfl
  | succ j => rw [List.replicate_succ', read_nought j 9 (by omega)]; rfl

section code
set_option maxHeartbeats 1000000
theorem noughts_walk (n k : Int) (w : World) (h0 : -9223372036854775808 ≤ n) (h1 : n ≤ 9223372036854775807) (k0 : 0 ≤ k) (k1 : k ≤ 255) :
    Calls Tryd.prog 5 #[.int .i64 n, .int .u8 k] w fun e w' => e = .returned (.bool true) ∧ Below w.heap.size w w' := by
  have hM0 : 0 ≤ max n 0 := by omega
  have hM1 : max n 0 ≤ 9223372036854775807 := by omega
  generalize hmx : max n 0 = M at *
  have z1 := spell_size (b := 10) (by omega) M hM1
  have z2 := spell_size (b := 16) (by omega) M hM1
  have p1 := Lib.hid (fun w => put_any M w hM1)
  have p2 := Lib.hid (fun w => putHex_any M w hM1)
  have a1 : Hid (∀ (j : Nat) w, j ≤ 50 → Calls Tryd.prog 11 #[.string (str (List.replicate j 48) ++ str (spell 10 M.toNat)), .int .i64 M] w fun e w' => e = .returned (.tuple #[.int .i64 M, .int .i64 0]) ∧ Below w.heap.size w w') := Lib.hid (fun j w hj => by
    rw [← str_app]
    have h := dec_any M hM1 (str (List.replicate j 48 ++ spell 10 M.toNat)) w (by rw [str_app, ByteArray.size_append, str_size, List.length_replicate]; unfold maxLen; omega)
    have e : M = ((M.toNat : Nat) : Int) := by omega
    have e' : readOf 10 M (List.replicate j 48 ++ spell 10 M.toNat) = (M, 0) := by
      have := read_noughts (b := 10) (by omega) (by omega) M.toNat j
      rw [← e] at this
      exact this
    rw [show (str (List.replicate j 48 ++ spell 10 M.toNat)).data.toList = List.replicate j 48 ++ spell 10 M.toNat from rfl, e'] at h
    exact h)
  have a2 : Hid (∀ (j : Nat) w, j ≤ 50 → Calls Tryd.prog 13 #[.string (str (List.replicate j 48) ++ str (spell 16 M.toNat)), .int .i64 M] w fun e w' => e = .returned (.tuple #[.int .i64 M, .int .i64 0]) ∧ Below w.heap.size w w') := Lib.hid (fun j w hj => by
    rw [← str_app]
    have h := hexN_any M hM1 (str (List.replicate j 48 ++ spell 16 M.toNat)) w (by rw [str_app, ByteArray.size_append, str_size, List.length_replicate]; unfold maxLen; omega)
    have e : M = ((M.toNat : Nat) : Int) := by omega
    have e' : readOf 16 M (List.replicate j 48 ++ spell 16 M.toNat) = (M, 0) := by
      have := read_noughts (b := 16) (by omega) (by omega) M.toNat j
      rw [← e] at this
      exact this
    rw [show (str (List.replicate j 48 ++ spell 16 M.toNat)).data.toList = List.replicate j 48 ++ spell 16 M.toNat from rfl, e'] at h
    exact h)
  have a3 : Hid (∀ (j : Nat) w, j ≤ 50 → Calls Tryd.prog 11 #[.string (str (List.replicate j 48) ++ ⟨#[48]⟩), .int .i64 0] w fun e w' => e = .returned (.tuple #[.int .i64 0, .int .i64 0]) ∧ Below w.heap.size w w') := Lib.hid (fun j w hj => by
    have h := dec_any 0 (by omega) (str (List.replicate j 48 ++ [48])) w (by rw [str_size]; simp; unfold maxLen; omega)
    rw [show (str (List.replicate j 48 ++ [48])).data.toList = List.replicate j 48 ++ [48] from rfl, read_nought j 0 (by omega), str_app] at h
    exact h)
  have a4 : Hid (∀ (j : Nat) w, j ≤ 50 → Calls Tryd.prog 11 #[.string (str (List.replicate j 48)), .int .i64 9] w fun e w' => e = .returned (.tuple #[.int .i64 0, .int .i64 (if j = 0 then 22 else 0)]) ∧ Below w.heap.size w w') := Lib.hid (fun j w hj => by
    have h := dec_any 9 (by omega) (str (List.replicate j 48)) w (by rw [str_size, List.length_replicate]; unfold maxLen; omega)
    rw [show (str (List.replicate j 48)).data.toList = List.replicate j 48 from rfl, read_only] at h
    exact h)
  generalize str (spell 10 M.toNat) = S at *
  generalize str (spell 16 M.toNat) = T at *
  go_enter Tryd.func5, Tryd.ntmps5
  go_wp2_with (first
    | (go_at_call 7; refine (known_any _).mono ?_; rintro e w1 ⟨rfl, hb⟩)
    | fail)
  go_loop [6, 7] (fun z i => ∃ j : Nat, j ≤ (k % 50).toNat ∧ z = .string (str (List.replicate j 48)) ∧ i = .int .i64 j) (fun _ i => (k % 50).toNat - (intOf i).toNat)
  case atStart => exact ⟨0, Nat.zero_le _, rfl, rfl⟩
  case round =>
    obtain ⟨j, hj, rfl, rfl⟩ := hrel
    have hzs : (str (List.replicate j 48)).size = j := by rw [str_size, List.length_replicate]
    have b1 := Lib.hid (fun w => a1.out j w (by omega))
    have b2 := Lib.hid (fun w => a2.out j w (by omega))
    have b3 := Lib.hid (fun w => a3.out j w (by omega))
    have b4 := Lib.hid (fun w => a4.out j w (by omega))
    have hnx : Hid (str (List.replicate (j + 1) 48) = str (List.replicate j 48) ++ ⟨#[48]⟩) := Lib.hid (by rw [List.replicate_succ', str_app]; rfl)
    generalize str (List.replicate j 48) = Z at *
    clear a1 a2 a3 a4
    have v1 : ¬ 9223372036854775807 < Z.size + S.size := by omega
    have v2 : ¬ 9223372036854775807 < Z.size + T.size := by omega
    have v3 : ¬ 9223372036854775807 < Z.size + 1 := by omega
    rcases Nat.lt_or_ge j (k % 50).toNat with hlt | hge
    · have hl : (j : Int) < k % 50 := by omega
      go_wp2_with fail
      go_round
      case rel => exact ⟨j + 1, by omega, by rw [hnx.out], by go_num⟩
      case measure => simp [intOf]; omega
    · have hl : ¬ (j : Int) < k % 50 := by omega
      by_cases hj0 : j = 0
      · have hk0 : k % 50 = 0 := by omega
        have b4' := b4
        rw [if_pos hj0] at b4'
        clear b4
        go_wp2_with (first
          | (go_at_call 15; with_reducible refine (p1.out _).mono ?_; rintro e w5 ⟨rfl, m5, rfl⟩)
          | (go_at_call 16; with_reducible refine (p2.out _).mono ?_; rintro e w6 ⟨rfl, m6, rfl⟩)
          | (go_at_call 11; with_reducible refine (b1.out _).mono ?_; rintro e w2 ⟨rfl, h2⟩)
          | (go_at_call 13; with_reducible refine (b2.out _).mono ?_; rintro e w3 ⟨rfl, h3⟩)
          | (go_at_call 11; with_reducible refine (b3.out _).mono ?_; rintro e w4 ⟨rfl, h4⟩)
          | (go_at_call 11; with_reducible refine (b4'.out _).mono ?_; rintro e w7 ⟨rfl, h7⟩))
        go_ret
        exact ⟨rfl, by repeat (first | exact Below.refl _ _ | assumption | with_reducible refine Base.below_drewN ?_ _ | (refine Base.below_step ?_ (by assumption)))⟩
      · have hk0 : (k % 50 == 0) = false := by rw [beq_eq_false_iff_ne]; omega
        have b4' := b4
        rw [if_neg hj0] at b4'
        clear b4
        go_wp2_with (first
          | (go_at_call 15; with_reducible refine (p1.out _).mono ?_; rintro e w5 ⟨rfl, m5, rfl⟩)
          | (go_at_call 16; with_reducible refine (p2.out _).mono ?_; rintro e w6 ⟨rfl, m6, rfl⟩)
          | (go_at_call 11; with_reducible refine (b1.out _).mono ?_; rintro e w2 ⟨rfl, h2⟩)
          | (go_at_call 13; with_reducible refine (b2.out _).mono ?_; rintro e w3 ⟨rfl, h3⟩)
          | (go_at_call 11; with_reducible refine (b3.out _).mono ?_; rintro e w4 ⟨rfl, h4⟩)
          | (go_at_call 11; with_reducible refine (b4'.out _).mono ?_; rintro e w7 ⟨rfl, h7⟩))
        go_ret
        exact ⟨rfl, by repeat (first | exact Below.refl _ _ | assumption | with_reducible refine Base.below_drewN ?_ _ | (refine Base.below_step ?_ (by assumption)))⟩
end code
end Go.Proofs.YtnjlloiifdkcgaaDoor.Num
