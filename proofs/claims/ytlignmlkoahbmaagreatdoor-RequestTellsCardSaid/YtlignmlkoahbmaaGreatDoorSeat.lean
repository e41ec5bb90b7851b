/-
  The statements' own profiles and bounds, of few numbers.
-/
import Derived.Test.YtlignmlkoahbmaaGreatDoorQuirkLists
namespace Go.Proofs.YtlignmlkoahbmaaGreatDoor.Seat
open Go.RowKit Base Qk

def seatP (a k : Nat) : Nat :=
  if k % 4 = 0 then ofL [((k / 4 % 30 : Nat) : Int)] else if k % 4 = 1 then ofL [((k / 4 % 30 : Nat) : Int), ((a % 30 : Nat) : Int)]
  else if k % 4 = 2 then a % 1073741824 &&& (a % 1073741824) / 128 &&& (a % 1073741824) / 8192 else a % 1073741824
theorem seatP_lt (a k : Nat) : seatP a k < 2 ^ 30 := by
  have h : a % 1073741824 < 2 ^ 30 := Nat.mod_lt _ (by decide)
  unfold seatP
  split
  · exact ofL_lt _
  · split
    · exact ofL_lt _
    · split
      · exact Nat.lt_of_le_of_lt (Nat.le_trans Nat.and_le_left Nat.and_le_left) h
      · exact h
theorem mask30 (a : Nat) (ha : a < 4294967296) : bits .and .u32 (a : Int) 1073741823 = ((a % 1073741824 : Nat) : Int) := by
  rw [show (1073741823 : Int) = ((1073741823 : Nat) : Int) from rfl, u32_and_nat a _ ha (by decide)]
  exact congrArg _ (Nat.and_two_pow_sub_one_eq_mod a 30)

/-- Bounds of a number. -/
def seatB (k : Nat) : Value :=
  Bnd.bnd (if k % 6 = 1 then 64 else if k % 6 = 3 then 80 else 1024) (if k % 6 = 1 then 4 else 32) (if k % 6 = 1 then 256 else 8192) (if k % 6 = 2 then 16 else if k % 6 = 3 then 40 else 65536)
    (if k % 6 = 2 then 0 else 32) (if k % 6 = 2 then 0 else 8) ((k / 32 % 4 : Nat) + 1 : Int) 20 (!decide (k % 8 = 7)) (!decide (12 < k % 16))

section code
set_option maxHeartbeats 1000000
theorem profile_any (a k : Nat) (ha : a < 4294967296) (hk : k < 256) (w : World) : Calls Tryz.prog 5 #[.int .u32 a, .int .u8 k] w fun e w' => e = .returned (.int .u32 (seatP a k : Nat)) ∧ Below w.heap.size w w' := by
  have HM := Lib.hid (mask30 a ha)
  rcases (by omega : k % 4 = 0 ∨ k % 4 = 1 ∨ k % 4 = 2 ∨ k % 4 = 3) with h | h | h | h
  · have hr : (k : Int) % 4 = 0 := by omega
    have hs : seatP a k = ofL [((k / 4 % 30 : Nat) : Int)] := by rw [seatP, if_pos h]
    rw [hs]
    go_enter Tryz.func5, Tryz.ntmps5
    go_wp2_with (go_at_call 9; with_reducible refine (rof_any _ _ _ _ _ (Ints.one _ _ rfl _ _) (by decide)).mono ?_; rintro e w1 ⟨rfl, hw⟩; rw [hw]; clear hw)
    go_ret
    exact ⟨rfl, (Below.refl _ _).alloc (Nat.le_refl _) _⟩
  · have hr : (k : Int) % 4 = 1 := by omega
    have hs : seatP a k = ofL [((k / 4 % 30 : Nat) : Int), ((a % 30 : Nat) : Int)] := by rw [seatP, if_neg (by omega), if_pos h]
    rw [hs]
    go_enter Tryz.func5, Tryz.ntmps5
    go_wp2_with (go_at_call 9; with_reducible refine (rof_any _ _ _ _ _ (Ints.two _ _ rfl _ _ _) (by decide)).mono ?_; rintro e w1 ⟨rfl, hw⟩; rw [hw]; clear hw)
    go_ret
    exact ⟨rfl, (Below.refl _ _).alloc (Nat.le_refl _) _⟩
  · have hr : (k : Int) % 4 = 2 := by omega
    have hs : seatP a k = a % 1073741824 &&& (a % 1073741824) / 128 &&& (a % 1073741824) / 8192 := by rw [seatP, if_neg (by omega), if_neg (by omega), if_pos h]
    rw [hs]
    have hm := HM.out
    have hp : a % 1073741824 < 1073741824 := Nat.mod_lt _ (by decide)
    generalize a % 1073741824 = p at *
    go_enter Tryz.func5, Tryz.ntmps5
    go_wp2
    go_ret
    refine ⟨ret_int ?_, Below.refl _ _⟩
    have e1 : (p : Int) / 128 = ((p / 128 : Nat) : Int) := by omega
    have e2 : (p : Int) / 8192 = ((p / 8192 : Nat) : Int) := by omega
    rw [e1, e2, u32_and_nat p _ (by omega) (by omega), u32_and_nat _ _ (Nat.lt_of_le_of_lt Nat.and_le_left (by omega)) (by omega)]
  · have hr : (k : Int) % 4 = 3 := by omega
    have hs : seatP a k = a % 1073741824 := by rw [seatP, if_neg (by omega), if_neg (by omega), if_neg (by omega)]
    rw [hs]
    have hm := HM.out
    go_enter Tryz.func5, Tryz.ntmps5
    go_wp2
    go_ret
    exact ⟨rfl, Below.refl _ _⟩
set_option maxHeartbeats 16000000 in
theorem bounds_any (k : Nat) (hk : k < 256) (w : World) : Calls Tryz.prog 6 #[.int .u8 k] w fun e w' => e = .returned (seatB k) ∧ Below w.heap.size w w' := by
  have H := Lib.hid (Bnd.rusual_exact)
  have HB : seatB k = seatB k := rfl
  conv at HB => rhs; unfold seatB
  have HW : ((k / 32 % 4 : Nat) + 1 : Int) = (k : Int) / 32 % 4 + 1 := by omega
  rw [HW] at HB
  clear HW
  generalize seatB k = B at *
  rcases (by omega : k % 6 = 1 ∨ k % 6 = 2 ∨ k % 6 = 3 ∨ (k % 6 ≠ 1 ∧ k % 6 ≠ 2 ∧ k % 6 ≠ 3)) with h | h | h | ⟨h, h', h''⟩ <;> rcases (by omega : k % 8 = 7 ∨ k % 8 ≠ 7) with h8 | h8 <;> rcases (by omega : 12 < k % 16 ∨ k % 16 ≤ 12) with h16 | h16
  all_goals try (exfalso; omega)
  all_goals
    simp [*, Nat.not_lt.2] at HB
    replace HB := Lib.hid HB
    go_enter Tryz.func6, Tryz.ntmps6
    go_wp2_with (go_at_call 14; with_reducible refine (H.out _).mono ?_; rintro e w1 ⟨rfl, hw⟩; rw [hw]; clear hw)
    rw [HB.out]
    refine bodyPost_ret ?_ rfl ⟨rfl, (((Below.refl _ _).alloc (Nat.le_refl _) _).alloc (by simp) _).alloc (by simp; omega) _⟩
    simp [results, Tryz.results6, go_sem]
end code
end Go.Proofs.YtlignmlkoahbmaaGreatDoor.Seat
