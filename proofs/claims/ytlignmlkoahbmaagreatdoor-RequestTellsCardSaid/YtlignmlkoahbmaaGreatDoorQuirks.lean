/-
  Layer 5 (quirks): contracts of package quirks and of parallaxref4's words on clauses.
-/
import Derived.Test.YtlignmlkoahbmaaGreatDoorBase
import Derived.Test.YtlignmlkoahbmaaGreatDoorSched
import Derived.Test.YtlignmlkoahbmaaGreatDoorBounds
import Derived.Test.YtlignmlkoahbmaaGreatDoorQuirkWords
import Derived.Laws.BitsAllLaws
import Derived.Laws.ShiftsVarLaws
namespace Go.Proofs.YtlignmlkoahbmaaGreatDoor.Qk
open Go.RowKit Base

theorem shl_one (c : Int) (h0 : 0 ≤ c) (h1 : c < 30) : (2 : Int) ^ c.toNat % 4294967296 = ((2 ^ c.toNat : Nat) : Int) := by
  have h : (2 : Nat) ^ c.toNat < 2 ^ 30 := Nat.pow_lt_pow_right (by decide) (by omega)
  have h2 : (((2 : Nat) ^ c.toNat : Nat) : Int) = (2 : Int) ^ c.toNat := by rw [Int.natCast_pow]; rfl
  rw [← h2]
  clear h2
  generalize (2 : Nat) ^ c.toNat = q at *
  omega
theorem shr_bit (p : Nat) (hp : p < 4294967296) (n : Nat) : (bits BinOp.and IntKind.u32 ((p : Int) / 2 ^ n) 1 == 1) = true ↔ p.testBit n = true := by
  have h : ((p : Int) / 2 ^ n) = ((p / 2 ^ n : Nat) : Int) := by rw [Int.natCast_ediv, Int.natCast_pow]; rfl
  have h1 : p / 2 ^ n < 4294967296 := Nat.lt_of_le_of_lt (Nat.div_le_self _ _) hp
  rw [h, show (1 : Int) = ((1 : Nat) : Int) from rfl, u32_and_nat _ 1 h1 (by decide), Nat.testBit_eq_decide_div_mod_eq, Nat.and_one_is_mod, beq_iff_eq, decide_eq_true_eq]
  omega

section code
set_option maxHeartbeats 1000000
theorem known_any (c : Int) (w : World) : Calls Tryz.prog 68 #[.int .i64 c] w fun e w' => e = .returned (.bool (known c)) ∧ w' = w := by
  rcases Int.lt_or_le c 0 with h | h
  · go_enter Tryz.func68, Tryz.ntmps68
    go_wp2
    go_ret
    exact ⟨ret_bool (by simp [known]; omega), rfl⟩
  · go_enter Tryz.func68, Tryz.ntmps68
    go_wp2
    go_ret
    exact ⟨ret_bool (by simp [known]; omega), rfl⟩
theorem bit_any (c : Int) (w : World) : Calls Tryz.prog 49 #[.int .i64 c] w fun e w' => e = .returned (.int .u32 (bitOf c : Nat)) ∧ w' = w := by
  have H := Lib.hid (known_any c)
  have K := Lib.hid (known_iff c)
  generalize hk : known c = k at *
  cases k
  · go_enter Tryz.func49, Tryz.ntmps49
    go_wp2_with (go_at_call 68; with_reducible refine (H.out _).mono ?_; rintro e w1 ⟨rfl, hw⟩; rw [hw]; clear hw)
    go_ret
    exact ⟨ret_int (by simp [bitOf, hk]), rfl⟩
  · obtain ⟨h0, h1⟩ := K.out.1 rfl
    go_enter Tryz.func49, Tryz.ntmps49
    go_wp2_with (go_at_call 68; with_reducible refine (H.out _).mono ?_; rintro e w1 ⟨rfl, hw⟩; rw [hw]; clear hw)
    go_ret
    exact ⟨ret_int (by simp only [bitOf, hk, if_true]; exact shl_one c h0 h1), rfl⟩
theorem has_any (p : Nat) (hp : p < 4294967296) (c : Int) (w : World) : Calls Tryz.prog 27 #[.int .u32 p, .int .i64 c] w fun e w' => e = .returned (.bool (has p c)) ∧ w' = w := by
  have H := Lib.hid (bit_any c)
  have K := Lib.hid (and_bitOf p c)
  have hb := bitOf_lt c
  generalize bitOf c = q at *
  go_enter Tryz.func27, Tryz.ntmps27
  go_wp2_with (go_at_call 49; with_reducible refine (H.out _).mono ?_; rintro e w1 ⟨rfl, hw⟩; rw [hw]; clear hw)
  go_ret
  exact ⟨ret_bool (by rw [u32_and_nat p q hp (by omega), ← K.out]; simp), rfl⟩
theorem rhas_any (p : Nat) (hp : p < 4294967296) (c : Int) (w : World) : Calls Tryz.prog 20 #[.int .u32 p, .int .i64 c] w fun e w' => e = .returned (.bool (has p c)) ∧ w' = w := by
  have K := Lib.hid (known_iff c)
  rcases Int.lt_or_le c 0 with h | h
  · go_enter Tryz.func20, Tryz.ntmps20
    go_wp2
    go_ret
    exact ⟨ret_bool (by simp [has, known]; omega), rfl⟩
  · rcases Int.lt_or_le c 30 with h3 | h3
    · go_enter Tryz.func20, Tryz.ntmps20
      go_wp2
      go_ret
      exact ⟨ret_bool ((shr_bit p hp c.toNat).trans (by simp [has, known, h, h3])), rfl⟩
    · go_enter Tryz.func20, Tryz.ntmps20
      go_wp2
      go_ret
      exact ⟨ret_bool (by simp [has, known]; omega), rfl⟩
/-- A slice of the thirty names. -/
abbrev NamesAt (w : World) (g : Nat) : Prop := g < w.heap.size ∧ ∀ k, k < 30 → w.cell? ⟨g, k, none⟩ = some (.string (nm k))
attribute [local go_sem] Base.some_undef
end code
end Go.Proofs.YtlignmlkoahbmaaGreatDoor.Qk
