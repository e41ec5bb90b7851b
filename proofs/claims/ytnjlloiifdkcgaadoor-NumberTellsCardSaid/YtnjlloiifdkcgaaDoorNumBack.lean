/-
  Layer 2 (number): the walks of NumberBack, NumberNoughts and NumberOrder: each returns true, and writes nothing that was there.
-/
import Derived.Test.YtnjlloiifdkcgaaDoorNumLaws
namespace Go.Proofs.YtnjlloiifdkcgaaDoor.Num
open Go.RowKit Base Oct

theorem read_back {b : Nat} (h2 : 2 ≤ b) (h16 : b ≤ 16) (n : Nat) : readOf b n (spell b n) = ((n : Int), 0) := by
  have h := read_spell h2 h16 n 0 n (by omega)
  rw [if_pos (Int.le_refl _)] at h
  exact h
theorem read_over {b : Nat} (h2 : 2 ≤ b) (h16 : b ≤ 16) (n : Nat) (hn : 0 < n) : readOf b ((n : Int) - 1) (spell b n) = (0, 23) := by
  have h := read_spell h2 h16 n 0 ((n : Int) - 1) (by omega)
  rw [if_neg (by omega)] at h
  exact h
theorem spell_size {b : Nat} (h2 : 2 ≤ b) (n : Int) (h1 : n ≤ 9223372036854775807) : (str (spell b n.toNat)).size ≤ 64 := by
  rw [str_size]; exact spell_len h2 64 _ (by omega) (by omega)

section code
set_option maxHeartbeats 1000000
theorem back_walk (n : Int) (w : World) (h0 : -9223372036854775808 ≤ n) (h1 : n ≤ 9223372036854775807) :
    Calls Tryd.prog 4 #[.int .i64 n] w fun e w' => e = .returned (.bool true) ∧ Below w.heap.size w w' := by
  have z1 := spell_size (b := 10) (by omega) n h1
  have z2 := spell_size (b := 16) (by omega) n h1
  have p1 := Lib.hid (fun w => put_any n w h1)
  have p2 := Lib.hid (fun w => putHex_any n w h1)
  have a1 : Hid (∀ w, Calls Tryd.prog 11 #[.string (str (spell 10 n.toNat)), .int .i64 (max n 0)] w fun e w' => e = .returned (.tuple #[.int .i64 (max n 0), .int .i64 0]) ∧ Below w.heap.size w w') := Lib.hid (fun w => by
    have h := dec_any (max n 0) (by omega) (str (spell 10 n.toNat)) w (by unfold maxLen; omega)
    have e : (max n 0) = ((n.toNat : Nat) : Int) := by omega
    rw [show (str (spell 10 n.toNat)).data.toList = spell 10 n.toNat from rfl, e, show readOf 10 (n.toNat : Int) (spell 10 n.toNat) = _ from read_back (b := 10) (by omega) (by omega) n.toNat] at h
    rw [e]; exact h)
  have a2 : Hid (∀ w, Calls Tryd.prog 13 #[.string (str (spell 16 n.toNat)), .int .i64 (max n 0)] w fun e w' => e = .returned (.tuple #[.int .i64 (max n 0), .int .i64 0]) ∧ Below w.heap.size w w') := Lib.hid (fun w => by
    have h := hexN_any (max n 0) (by omega) (str (spell 16 n.toNat)) w (by unfold maxLen; omega)
    have e : (max n 0) = ((n.toNat : Nat) : Int) := by omega
    rw [show (str (spell 16 n.toNat)).data.toList = spell 16 n.toNat from rfl, e, show readOf 16 (n.toNat : Int) (spell 16 n.toNat) = _ from read_back (b := 16) (by omega) (by omega) n.toNat] at h
    rw [e]; exact h)
  have a3 : Hid (∀ w, max n 0 ≠ 0 → Calls Tryd.prog 11 #[.string (str (spell 10 n.toNat)), .int .i64 (max n 0 - 1)] w fun e w' => e = .returned (.tuple #[.int .i64 0, .int .i64 23]) ∧ Below w.heap.size w w') := Lib.hid (fun w hn => by
    have h := dec_any (max n 0 - 1) (by omega) (str (spell 10 n.toNat)) w (by unfold maxLen; omega)
    have e : (max n 0) = ((n.toNat : Nat) : Int) := by omega
    rw [show (str (spell 10 n.toNat)).data.toList = spell 10 n.toNat from rfl, e, show readOf 10 ((n.toNat : Int) - 1) (spell 10 n.toNat) = _ from read_over (b := 10) (by omega) (by omega) n.toNat (by omega)] at h
    rw [e]; exact h)
  have a4 : Hid (∀ w, max n 0 ≠ 0 → Calls Tryd.prog 13 #[.string (str (spell 16 n.toNat)), .int .i64 (max n 0 - 1)] w fun e w' => e = .returned (.tuple #[.int .i64 0, .int .i64 23]) ∧ Below w.heap.size w w') := Lib.hid (fun w hn => by
    have h := hexN_any (max n 0 - 1) (by omega) (str (spell 16 n.toNat)) w (by unfold maxLen; omega)
    have e : (max n 0) = ((n.toNat : Nat) : Int) := by omega
    rw [show (str (spell 16 n.toNat)).data.toList = spell 16 n.toNat from rfl, e, show readOf 16 ((n.toNat : Int) - 1) (spell 16 n.toNat) = _ from read_over (b := 16) (by omega) (by omega) n.toNat (by omega)] at h
    rw [e]; exact h)
  have hM0 : 0 ≤ max n 0 := by omega
  have hM1 : max n 0 ≤ 9223372036854775807 := by omega
  generalize str (spell 10 n.toNat) = S at *
  generalize str (spell 16 n.toNat) = T at *
  generalize hmx : max n 0 = M at *
  have ws : IntKind.i64.wrap (M - 1) = M - 1 := wrap_in _ (by omega) (by omega)
  by_cases hz : M = 0
  · subst hz
    go_enter Tryd.func4, Tryd.ntmps4
    go_wp2_with (first
      | (go_at_call 7; refine (known_any _).mono ?_; rintro e w1 ⟨rfl, hb⟩)
      | (go_at_call 15; with_reducible refine (p1.out _).mono ?_; rintro e w5 ⟨rfl, m5, rfl⟩)
      | (go_at_call 16; with_reducible refine (p2.out _).mono ?_; rintro e w6 ⟨rfl, m6, rfl⟩)
      | (go_at_call 11; with_reducible refine (a1.out _).mono ?_; rintro e w2 ⟨rfl, h2⟩)
      | (go_at_call 13; with_reducible refine (a2.out _).mono ?_; rintro e w3 ⟨rfl, h3⟩))
    go_ret
    exact ⟨rfl, by repeat (first | exact Below.refl _ _ | assumption | with_reducible refine Base.below_drewN ?_ _ | (refine Base.below_step ?_ (by assumption)))⟩
  · go_enter Tryd.func4, Tryd.ntmps4
    go_wp2_with (first
      | (go_at_call 7; refine (known_any _).mono ?_; rintro e w1 ⟨rfl, hb⟩)
      | (go_at_call 15; with_reducible refine (p1.out _).mono ?_; rintro e w5 ⟨rfl, m5, rfl⟩)
      | (go_at_call 16; with_reducible refine (p2.out _).mono ?_; rintro e w6 ⟨rfl, m6, rfl⟩)
      | (go_at_call 11; with_reducible refine (a1.out _).mono ?_; rintro e w2 ⟨rfl, h2⟩)
      | (go_at_call 13; with_reducible refine (a2.out _).mono ?_; rintro e w3 ⟨rfl, h3⟩)
      | (go_at_call 11; with_reducible refine (a3.out _ hz).mono ?_; rintro e w4 ⟨rfl, h4⟩)
      | (go_at_call 13; with_reducible refine (a4.out _ hz).mono ?_; rintro e w7 ⟨rfl, h7⟩))
    go_ret
    exact ⟨rfl, by repeat (first | exact Below.refl _ _ | assumption | with_reducible refine Base.below_drewN ?_ _ | (refine Base.below_step ?_ (by assumption)))⟩
end code
end Go.Proofs.YtnjlloiifdkcgaaDoor.Num
