/-
  Layer 2 (number): what each function of package number answers, and the same of the document's own package. No condition but those that the signs bear.
-/
import Derived.Test.YtnlphcchohbhgaaDoorNumWords
namespace Go.Proofs.YtnlphcchohbhgaaDoor.Num
open Go.RowKit Base Oct

def str (l : List UInt8) : ByteArray := ⟨l.toArray⟩
theorem str_app (l m : List UInt8) : str (l ++ m) = str l ++ str m := by
  apply ByteArray.ext
  rw [ByteArray.data_append]
  simp [str]
theorem str_size (l : List UInt8) : (str l).size = l.length := by simp [str, ByteArray.size]
theorem str_data (s : ByteArray) : str s.data.toList = s := rfl
theorem signs : ∀ k : Fin 16, (ByteArray.mk #[48, 49, 50, 51, 52, 53, 54, 55, 56, 57, 97, 98, 99, 100, 101, 102]).extract k.val (k.val + 1) = str [sign k.val] := by decide +kernel

section code
set_option maxHeartbeats 800000
theorem rspell_any (b : Nat) (B : Int) (hb : b = 10 ∧ B = 10 ∨ b = 16 ∧ B = 16) (k : Nat) : ∀ (n : Int) (w : World), -9223372036854775808 ≤ n → n < 9223372036854775808 → n.toNat < k → Calls Tryd.prog 38 #[.int .i64 n, .int .i64 B] w fun e w' => e = .returned (.string (str (spell b n.toNat))) ∧ ∃ m, w' = w.drewN m := by
  induction k with
  | zero => intro n w _ _ h; omega
  | succ k ih =>
    intro n w hn0 hn hk
    have h2 : 2 ≤ b := by omega
    by_cases h : n < B
    · rw [spell_lt (by omega)]
      by_cases hz : 0 ≤ n
      · have e1 := signs ⟨n.toNat, by omega⟩
        have e2 : n.toNat + 1 = (n + 1).toNat := by omega
        have mx : max n 0 = n := by omega
        simp only [e2] at e1
        clear e2
        rcases hb with ⟨rfl, rfl⟩ | ⟨rfl, rfl⟩
        all_goals
          go_enter Tryd.func38, Tryd.ntmps38
          go_wp2_with fail
          go_ret
          exact ⟨rfl, 0, rfl⟩
      · have mx : max n 0 = 0 := by omega
        have e1 : (ByteArray.mk #[48, 49, 50, 51, 52, 53, 54, 55, 56, 57, 97, 98, 99, 100, 101, 102]).extract 0 1 = str [sign 0] := by decide +kernel
        have e3 : n.toNat = 0 := by omega
        rw [e3]
        rcases hb with ⟨rfl, rfl⟩ | ⟨rfl, rfl⟩
        all_goals
          go_enter Tryd.func38, Tryd.ntmps38
          go_wp2_with fail
          go_ret
          exact ⟨rfl, 0, rfl⟩
    · rw [spell_ge h2 (by omega)]
      have l1 := spell_len h2 64 (n.toNat / b) (by have := div_less h2 (by omega : b ≤ n.toNat); omega) (by omega)
      have h3 := Lib.hid (ih (n / B))
      have h4 := Lib.hid (ih (n % B))
      have hi : B ≤ n := by omega
      have c1 : (n / B).toNat = n.toNat / b := by rcases hb with ⟨rfl, rfl⟩ | ⟨rfl, rfl⟩ <;> omega
      have c2 : (n % B).toNat = n.toNat % b := by rcases hb with ⟨rfl, rfl⟩ | ⟨rfl, rfl⟩ <;> omega
      have w1 : IntKind.i64.wrap (n / B) = n / B := wrap_in _ (by rcases hb with ⟨rfl, rfl⟩ | ⟨rfl, rfl⟩ <;> omega) (by rcases hb with ⟨rfl, rfl⟩ | ⟨rfl, rfl⟩ <;> omega)
      have w2 : IntKind.i64.wrap (n % B) = n % B := wrap_in _ (by rcases hb with ⟨rfl, rfl⟩ | ⟨rfl, rfl⟩ <;> omega) (by rcases hb with ⟨rfl, rfl⟩ | ⟨rfl, rfl⟩ <;> omega)
      have w3 : (n.tdiv B) = n / B := Int.tdiv_eq_ediv_of_nonneg (by omega)
      have w4 : (n.tmod B) = n % B := Int.tmod_eq_emod_of_nonneg (by omega)
      have hs : spell b (n % B).toNat = [sign (n % B).toNat] := spell_lt (by rcases hb with ⟨rfl, rfl⟩ | ⟨rfl, rfl⟩ <;> omega)
      rw [← c1, ← c2]
      rw [← c1] at l1
      have z1 : (str (spell b (n / B).toNat)).size ≤ 64 := by rw [str_size]; exact l1
      have z2 : (str [sign (n % B).toNat]).size = 1 := rfl
      have z3 : ¬ 9223372036854775807 < (str (spell b (n / B).toNat)).size + (str [sign (n % B).toNat]).size := by omega
      have hj : str (spell b (n / B).toNat ++ [sign (n % B).toNat]) = str (spell b (n / B).toNat) ++ str [sign (n % B).toNat] := str_app _ _
      rw [hj]
      have h3' : Hid (∀ w, Calls Tryd.prog 38 #[.int .i64 (n / B), .int .i64 B] w fun e w' => e = .returned (.string (str (spell b (n / B).toNat))) ∧ ∃ m, w' = w.drewN m) := Lib.hid (fun w => h3.out w (by rcases hb with ⟨rfl, rfl⟩ | ⟨rfl, rfl⟩ <;> omega) (by rcases hb with ⟨rfl, rfl⟩ | ⟨rfl, rfl⟩ <;> omega) (by rcases hb with ⟨rfl, rfl⟩ | ⟨rfl, rfl⟩ <;> omega))
      have h4' : Hid (∀ w, Calls Tryd.prog 38 #[.int .i64 (n % B), .int .i64 B] w fun e w' => e = .returned (.string (str [sign (n % B).toNat])) ∧ ∃ m, w' = w.drewN m) := Lib.hid (fun w => by rw [← hs]; exact h4.out w (by rcases hb with ⟨rfl, rfl⟩ | ⟨rfl, rfl⟩ <;> omega) (by rcases hb with ⟨rfl, rfl⟩ | ⟨rfl, rfl⟩ <;> omega) (by rcases hb with ⟨rfl, rfl⟩ | ⟨rfl, rfl⟩ <;> omega))
      generalize str (spell b (n / B).toNat) = A at *
      generalize str [sign (n % B).toNat] = D at *
      clear ih h h2 h3 h4 l1 hs hj c1 c2
      rcases hb with ⟨rfl, rfl⟩ | ⟨rfl, rfl⟩
      all_goals
        go_enter Tryd.func38, Tryd.ntmps38
        go_wp2_with fail
        go_quiet ((first | (go_at_call 38; with_reducible exact Calls.quiet_of (h3'.out _)) | (go_at_call 38; with_reducible exact Calls.quiet_of (h4'.out _))))
        go_wp2_with fail
        go_ret
        exact ⟨rfl, _, rfl⟩
end code
end Go.Proofs.YtnlphcchohbhgaaDoor.Num
