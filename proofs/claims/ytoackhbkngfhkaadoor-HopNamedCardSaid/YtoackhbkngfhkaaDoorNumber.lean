/-
  Layer 2 (number), in plain words: which number a list of digits is, how a number is written; what is written is read; of numbers as long the greater one's digits are greater. No program is spoken of.
-/
import Derived.Test.YtoackhbkngfhkaaDoorOctet
import Derived.Lib.TrimByte
namespace Go.Proofs.YtoackhbkngfhkaaDoor.Num
open Base Oct

/-- The value of a digit's byte. -/
def dig (c : UInt8) : Int := hexVal (c.toNat : Int)
def digitOf (base : Int) (c : UInt8) : Bool := isHex (c.toNat : Int) && decide (dig c < base)
/-- The digits put behind n, which is most at most: none where it would be above. -/
def grow (base most : Int) : Int → List UInt8 → Option Int
  | n, [] => some n
  | n, c :: r => if most < dig c ∨ (most - dig c) / base < n then none else grow base most (n * base + dig c) r
def ofGrow : Option Int → Int × Int
  | some n => (n, 0)
  | none => (0, 23)
/-- What a text's bytes are read as: the number and the error. -/
def readOf (base most : Int) (l : List UInt8) : Int × Int :=
  if (l.isEmpty || !l.all (digitOf base)) = true then (0, 22) else ofGrow (grow base (max most 0) 0 l)
def value (base : Int) : Int → List UInt8 → Int
  | n, [] => n
  | n, c :: r => value base (n * base + dig c) r
def tab : List UInt8 := [48, 49, 50, 51, 52, 53, 54, 55, 56, 57, 97, 98, 99, 100, 101, 102]
def sign (n : Nat) : UInt8 := tab[n]?.getD 0
/-- A number's digits, none ahead. -/
def spell (b n : Nat) : List UInt8 := if _h : n < b ∨ b < 2 then [sign n] else spell b (n / b) ++ [sign (n % b)]
  termination_by n
  decreasing_by exact Nat.div_lt_self (by omega) (by omega)

theorem dig_tab : ∀ k : Fin 256, 0 ≤ hexVal (k.val : Int) ∧ hexVal (k.val : Int) ≤ 15 := by decide +kernel
theorem dig_nonneg (c : UInt8) : 0 ≤ dig c := (dig_tab ⟨c.toNat, c.toNat_lt⟩).1
theorem dig_le (c : UInt8) : dig c ≤ 15 := (dig_tab ⟨c.toNat, c.toNat_lt⟩).2
theorem dec_tab : ∀ k : Fin 256, oneOf [4] (k.val : Int) = (isHex (k.val : Int) && decide (hexVal (k.val : Int) < 10)) := by decide +kernel
theorem hex_tab : ∀ k : Fin 256, oneOf [5] (k.val : Int) = (isHex (k.val : Int) && decide (hexVal (k.val : Int) < 16)) := by decide +kernel
theorem all_dec (l : List UInt8) : allOf [4] l = l.all (digitOf 10) := by
  unfold allOf; congr 1; funext c; exact dec_tab ⟨c.toNat, c.toNat_lt⟩
theorem all_hex (l : List UInt8) : allOf [5] l = l.all (digitOf 16) := by
  unfold allOf; congr 1; funext c; exact hex_tab ⟨c.toNat, c.toNat_lt⟩
theorem dig_nought : dig 48 = 0 := by decide +kernel

section
variable {base most : Int}
theorem grow_app (n : Int) (l m : List UInt8) : grow base most n (l ++ m) = (grow base most n l).bind fun k => grow base most k m := by
  induction l generalizing n with
  | nil => rfl
  | cons c r ih =>
    simp only [List.cons_append, grow]
    split
    · rfl
    · exact ih _
theorem grow_noughts (hb : 0 < base) (hm : 0 ≤ most) (l : List UInt8) : grow base most 0 (Lib.trimLeftB l 48) = grow base most 0 l := by
  unfold Lib.trimLeftB
  induction l with
  | nil => rfl
  | cons c r ih =>
    simp only [List.dropWhile]
    by_cases h : c = 48
    · subst h
      have h0 : ¬ (most < 0 ∨ (most - 0) / base < 0) := by
        intro h
        rcases h with h | h
        · omega
        · have := Int.ediv_nonneg (a := most - 0) (b := base) (by omega) (by omega)
          omega
      simp only [grow, dig_nought, if_neg h0, beq_self_eq_true]
      simpa using ih
    · have h' : (c == 48) = false := by simpa using h
      simp only [h']
theorem trim_all (p : UInt8 → Bool) (l : List UInt8) (h : l.all p = true) : (Lib.trimLeftB l 48).all p = true := by
  unfold Lib.trimLeftB
  rw [List.all_eq_true] at *
  intro c hc
  exact h c ((List.dropWhile_suffix _).subset hc)
theorem value_ge (hb : 1 ≤ base) (l : List UInt8) : ∀ n, 0 ≤ n → n ≤ value base n l := by
  induction l with
  | nil => intro n _; exact Int.le_refl _
  | cons c r ih =>
    intro n hn
    have hd := dig_nonneg c
    have h1 : n * 1 ≤ n * base := Int.mul_le_mul_of_nonneg_left hb hn
    exact Int.le_trans (by omega) (ih (n * base + dig c) (by omega))
theorem room (hb : 1 ≤ base) (n d : Int) (hn : 0 ≤ n) : (most < d ∨ (most - d) / base < n) ↔ most < n * base + d := by
  have hm : 0 ≤ n * base := Int.mul_nonneg hn (by omega)
  constructor
  · rintro (h | h)
    · omega
    · have := (Int.ediv_lt_iff_lt_mul (by omega : 0 < base)).1 h
      omega
  · intro h
    by_cases h1 : most < d
    · exact .inl h1
    · exact .inr ((Int.ediv_lt_iff_lt_mul (by omega : 0 < base)).2 (by omega))
theorem grow_eq (hb : 1 ≤ base) (l : List UInt8) : ∀ n, 0 ≤ n → n ≤ most → grow base most n l = if value base n l ≤ most then some (value base n l) else none := by
  induction l with
  | nil => intro n _ h; simp [grow, value, h]
  | cons c r ih =>
    intro n hn hle
    have hd := dig_nonneg c
    have hm : 0 ≤ n * base := Int.mul_nonneg hn (by omega)
    simp only [grow, value]
    by_cases h : most < n * base + dig c
    · rw [if_pos ((room hb n _ hn).2 h)]
      have := value_ge hb r (n * base + dig c) (by omega)
      exact (if_neg (fun hx => by omega)).symm
    · rw [if_neg (fun hx => h ((room hb n _ hn).1 hx))]
      exact ih _ (by omega) (by omega)
theorem value_app (n : Int) (l m : List UInt8) : value base n (l ++ m) = value base (value base n l) m := by
  induction l generalizing n with
  | nil => rfl
  | cons c r ih => exact ih _
theorem value_noughts (k : Nat) (l : List UInt8) : value base 0 (List.replicate k 48 ++ l) = value base 0 l := by
  induction k with
  | zero => rfl
  | succ k ih => rw [List.replicate_succ, List.cons_append, value, dig_nought]; simpa using ih
end

section
theorem sign_dig : ∀ k : Fin 16, dig (sign k.val) = (k.val : Int) := by decide +kernel
theorem sign_hex : ∀ k : Fin 16, isHex ((sign k.val).toNat : Int) = true := by decide +kernel
theorem sign_lt : ∀ k m : Fin 16, decide (sign k.val < sign m.val) = decide (k.val < m.val) := by decide +kernel
theorem sign_inj : ∀ k m : Fin 16, (sign k.val == sign m.val) = decide (k.val = m.val) := by decide +kernel
theorem less_app (l l' : List UInt8) (m m' : List UInt8) (h : l.length = l'.length) : Op.bytesLess (l ++ m) (l' ++ m') = (Op.bytesLess l l' || (l == l' && Op.bytesLess m m')) := by
  induction l generalizing l' with
  | nil =>
    obtain rfl : l' = [] := List.eq_nil_of_length_eq_zero h.symm
    simp [Op.bytesLess]
  | cons c r ih =>
    cases l' with
    | nil => simp at h
    | cons c' r' =>
      simp only [List.cons_append, Op.bytesLess, ih r' (by simpa using h)]
      by_cases hc : c = c'
      · subst hc; simp
      · have : (c == c') = false := by simpa using hc
        simp [this]
theorem less_one (x y : UInt8) : Op.bytesLess [x] [y] = decide (x < y) := by simp [Op.bytesLess]
variable {b : Nat} (h2 : 2 ≤ b) (h16 : b ≤ 16)
theorem spell_lt {n : Nat} (h : n < b) : spell b n = [sign n] := by rw [spell, dif_pos (.inl h)]
include h2
theorem spell_ge {n : Nat} (h : b ≤ n) : spell b n = spell b (n / b) ++ [sign (n % b)] := by rw [spell, dif_neg (by omega)]
theorem spell_ne (n : Nat) : spell b n ≠ [] := by
  by_cases h : n < b
  · rw [spell_lt h]; simp
  · rw [spell_ge h2 (by omega)]; simp
theorem div_less {n : Nat} (h : b ≤ n) : n / b < n := Nat.div_lt_self (by omega) (by omega)
theorem spell_len (k : Nat) : ∀ n, n < 2 ^ k → 1 ≤ k → (spell b n).length ≤ k := by
  induction k with
  | zero => intro n _ h; omega
  | succ k ih =>
    intro n hn _
    by_cases h : n < b
    · rw [spell_lt h]; simp
    · rw [spell_ge h2 (by omega), List.length_append]
      have hq : n / b ≤ n / 2 := Nat.div_le_div_left h2 (by omega)
      have hk : 1 ≤ k := by
        rcases Nat.eq_zero_or_pos k with rfl | hk
        · omega
        · exact hk
      have := ih (n / b) (by rw [Nat.pow_succ] at hn; omega) hk
      simp; omega
include h16
theorem spell_all (n : Nat) : (spell b n).all (digitOf b) = true := by
  induction n using Nat.strongRecOn with
  | ind n ih =>
    have one : ∀ m, m < b → digitOf b (sign m) = true := by
      intro m hm
      have e1 := sign_dig ⟨m, by omega⟩
      have e2 := sign_hex ⟨m, by omega⟩
      simp only at e1 e2
      simp only [digitOf, e1, e2, Bool.true_and, decide_eq_true_eq]
      omega
    by_cases h : n < b
    · rw [spell_lt h]; simp [one n h]
    · rw [spell_ge h2 (by omega), List.all_append, ih _ (div_less h2 (by omega))]
      simp [one (n % b) (Nat.mod_lt _ (by omega))]
theorem spell_value (n : Nat) : value b 0 (spell b n) = n := by
  induction n using Nat.strongRecOn with
  | ind n ih =>
    by_cases h : n < b
    · rw [spell_lt h]
      have e1 := sign_dig ⟨n, by omega⟩
      simp only at e1
      simp [value, e1]
    · rw [spell_ge h2 (by omega), value_app, ih _ (div_less h2 (by omega))]
      have hm : n % b < b := Nat.mod_lt _ (by omega)
      have e1 := sign_dig ⟨n % b, by omega⟩
      simp only at e1
      simp only [value, e1]
      have := Nat.div_add_mod n b
      rw [Nat.mul_comm] at this
      exact_mod_cast this
theorem spell_inj {n m : Nat} (h : spell b n = spell b m) : n = m := by
  have e1 := spell_value h2 h16 n
  have e2 := spell_value h2 h16 m
  rw [h, e2] at e1
  exact_mod_cast e1.symm
theorem spell_order (n : Nat) : ∀ m, decide (n < m) = (decide ((spell b n).length < (spell b m).length) || (decide ((spell b n).length = (spell b m).length) && Op.bytesLess (spell b n) (spell b m))) := by
  induction n using Nat.strongRecOn with
  | ind n ih =>
    intro m
    have pos : ∀ k, 0 < (spell b k).length := fun k => List.length_pos_iff.2 (spell_ne h2 k)
    by_cases hn : n < b
    · by_cases hm : m < b
      · rw [spell_lt hn, spell_lt hm, less_one]
        have := sign_lt ⟨n, by omega⟩ ⟨m, by omega⟩
        simp only at this
        simp [this]
      · rw [spell_lt hn, spell_ge h2 (by omega : b ≤ m)]
        have := pos (m / b)
        have h1 : n < m := by omega
        simp [h1, this]
    · by_cases hm : m < b
      · rw [spell_lt hm, spell_ge h2 (by omega : b ≤ n)]
        have := pos (n / b)
        have h1 : ¬ n < m := by omega
        have h2 : (spell b (n / b)).length ≠ 0 := by omega
        simp [h1, h2]
      · rw [spell_ge h2 (by omega : b ≤ n), spell_ge h2 (by omega : b ≤ m)]
        have IH := ih (n / b) (div_less h2 (by omega)) (m / b)
        have hq : decide (n < m) = (decide (n / b < m / b) || (decide (n / b = m / b) && decide (n % b < m % b))) := by
          have e1 := Nat.div_add_mod n b
          have e2 := Nat.div_add_mod m b
          have r1 : n % b < b := Nat.mod_lt _ (by omega)
          have r2 : m % b < b := Nat.mod_lt _ (by omega)
          rw [Bool.eq_iff_iff]
          simp only [decide_eq_true_eq, Bool.or_eq_true, Bool.and_eq_true]
          rcases Nat.lt_trichotomy (n / b) (m / b) with h | h | h
          · have : b * (n / b + 1) ≤ b * (m / b) := Nat.mul_le_mul_left b h
            rw [Nat.mul_add] at this
            constructor
            · intro _; exact .inl h
            · intro _; omega
          · rw [h] at e1
            constructor
            · intro hlt; exact .inr ⟨h, by omega⟩
            · rintro (h' | ⟨_, h'⟩) <;> omega
          · have : b * (m / b + 1) ≤ b * (n / b) := Nat.mul_le_mul_left b h
            rw [Nat.mul_add] at this
            constructor
            · intro _; omega
            · rintro (h' | ⟨h', _⟩) <;> omega
        rw [hq, IH]
        simp only [List.length_append, List.length_singleton, Nat.add_lt_add_iff_right, Nat.add_right_cancel_iff]
        by_cases hl : (spell b (n / b)).length = (spell b (m / b)).length
        · rw [less_app _ _ _ _ hl, less_one]
          have hs := sign_lt ⟨n % b, by have := Nat.mod_lt n (by omega : 0 < b); omega⟩ ⟨m % b, by have := Nat.mod_lt m (by omega : 0 < b); omega⟩
          simp only at hs
          rw [hs]
          have he : (spell b (n / b) == spell b (m / b)) = decide (n / b = m / b) := by
            rw [Bool.eq_iff_iff, beq_iff_eq, decide_eq_true_eq]
            exact ⟨fun h => spell_inj h2 h16 h, fun h => by rw [h]⟩
          rw [he]
          simp [hl]
        · have hne : ¬ n / b = m / b := fun h => hl (by rw [h])
          simp [hl, hne]
/-- What is written is read, just up to itself; noughts ahead change nothing. -/
theorem read_spell (n k : Nat) (most : Int) (hm : 0 ≤ most) : readOf b most (List.replicate k 48 ++ spell b n) = if (n : Int) ≤ most then ((n : Int), 0) else (0, 23) := by
  have hne : (List.replicate k 48 ++ spell b n).isEmpty = false := by
    rw [List.isEmpty_eq_false_iff]; simp [spell_ne h2 n]
  have h48 : digitOf b 48 = true := by
    have : isHex (((48 : UInt8).toNat : Nat) : Int) = true := by decide +kernel
    simp only [digitOf, this, dig_nought, Bool.true_and, decide_eq_true_eq]; omega
  have hall : (List.replicate k 48 ++ spell b n).all (digitOf b) = true := by
    rw [List.all_append, spell_all h2 h16, List.all_replicate]; simp [h48]
  unfold readOf
  rw [hne, hall]
  simp only [Bool.not_true, Bool.or_false, Bool.false_eq_true, if_false]
  rw [grow_eq (by omega) _ 0 (Int.le_refl _) (by omega), value_noughts, spell_value h2 h16, Int.max_eq_left hm]
  split <;> rfl
end
end Go.Proofs.YtoackhbkngfhkaaDoor.Num

/-
  Layer 2 (number): what each function of package number answers, and the same of the document's own package. No condition but those that the signs bear.
-/
namespace Go.Proofs.YtoackhbkngfhkaaDoor.Num
open Go.RowKit Base Oct

def str (l : List UInt8) : ByteArray := ⟨l.toArray⟩
theorem str_app (l m : List UInt8) : str (l ++ m) = str l ++ str m := by
  apply ByteArray.ext
  rw [ByteArray.data_append]
  simp [str]
theorem str_size (l : List UInt8) : (str l).size = l.length := by simp [str, ByteArray.size]
theorem str_data (s : ByteArray) : str s.data.toList = s := rfl
theorem signs : ∀ k : Fin 16, (ByteArray.mk #[48, 49, 50, 51, 52, 53, 54, 55, 56, 57, 97, 98, 99, 100, 101, 102]).extract k.val (k.val + 1) = str [sign k.val] := by decide +kernel

section code
set_option maxHeartbeats 800000
theorem rspell_any (b : Nat) (B : Int) (hb : b = 10 ∧ B = 10 ∨ b = 16 ∧ B = 16) (k : Nat) : ∀ (n : Int) (w : World), -9223372036854775808 ≤ n → n < 9223372036854775808 → n.toNat < k → Calls Tryd.prog 31 #[.int .i64 n, .int .i64 B] w fun e w' => e = .returned (.string (str (spell b n.toNat))) ∧ ∃ m, w' = w.drewN m := by
  induction k with
  | zero => intro n w _ _ h; omega
  | succ k ih =>
    intro n w hn0 hn hk
    have h2 : 2 ≤ b := by omega
    by_cases h : n < B
    · rw [spell_lt (by omega)]
      by_cases hz : 0 ≤ n
      · have e1 := signs ⟨n.toNat, by omega⟩
        have e2 : n.toNat + 1 = (n + 1).toNat := by omega
        have mx : max n 0 = n := by omega
        simp only [e2] at e1
        clear e2
        rcases hb with ⟨rfl, rfl⟩ | ⟨rfl, rfl⟩
        all_goals
          go_enter Tryd.func31, Tryd.ntmps31
          go_wp2_with fail
          go_ret
          exact ⟨rfl, 0, rfl⟩
      · have mx : max n 0 = 0 := by omega
        have e1 : (ByteArray.mk #[48, 49, 50, 51, 52, 53, 54, 55, 56, 57, 97, 98, 99, 100, 101, 102]).extract 0 1 = str [sign 0] := by decide +kernel
        have e3 : n.toNat = 0 := by omega
        rw [e3]
        rcases hb with ⟨rfl, rfl⟩ | ⟨rfl, rfl⟩
        all_goals
          go_enter Tryd.func31, Tryd.ntmps31
          go_wp2_with fail
          go_ret
          exact ⟨rfl, 0, rfl⟩
    · rw [spell_ge h2 (by omega)]
      have l1 := spell_len h2 64 (n.toNat / b) (by have := div_less h2 (by omega : b ≤ n.toNat); omega) (by omega)
      have h3 := Lib.hid (ih (n / B))
      have h4 := Lib.hid (ih (n % B))
      have hi : B ≤ n := by omega
      have c1 : (n / B).toNat = n.toNat / b := by rcases hb with ⟨rfl, rfl⟩ | ⟨rfl, rfl⟩ <;> omega
      have c2 : (n % B).toNat = n.toNat % b := by rcases hb with ⟨rfl, rfl⟩ | ⟨rfl, rfl⟩ <;> omega
      have w1 : IntKind.i64.wrap (n / B) = n / B := wrap_in _ (by rcases hb with ⟨rfl, rfl⟩ | ⟨rfl, rfl⟩ <;> omega) (by rcases hb with ⟨rfl, rfl⟩ | ⟨rfl, rfl⟩ <;> omega)
      have w2 : IntKind.i64.wrap (n % B) = n % B := wrap_in _ (by rcases hb with ⟨rfl, rfl⟩ | ⟨rfl, rfl⟩ <;> omega) (by rcases hb with ⟨rfl, rfl⟩ | ⟨rfl, rfl⟩ <;> omega)
      have w3 : (n.tdiv B) = n / B := Int.tdiv_eq_ediv_of_nonneg (by omega)
      have w4 : (n.tmod B) = n % B := Int.tmod_eq_emod_of_nonneg (by omega)
      have hs : spell b (n % B).toNat = [sign (n % B).toNat] := spell_lt (by rcases hb with ⟨rfl, rfl⟩ | ⟨rfl, rfl⟩ <;> omega)
      rw [← c1, ← c2]
      rw [← c1] at l1
      have z1 : (str (spell b (n / B).toNat)).size ≤ 64 := by rw [str_size]; exact l1
      have z2 : (str [sign (n % B).toNat]).size = 1 := rfl
      have z3 : ¬ 9223372036854775807 < (str (spell b (n / B).toNat)).size + (str [sign (n % B).toNat]).size := by omega
      have hj : str (spell b (n / B).toNat ++ [sign (n % B).toNat]) = str (spell b (n / B).toNat) ++ str [sign (n % B).toNat] := str_app _ _
      rw [hj]
      have h3' : Hid (∀ w, Calls Tryd.prog 31 #[.int .i64 (n / B), .int .i64 B] w fun e w' => e = .returned (.string (str (spell b (n / B).toNat))) ∧ ∃ m, w' = w.drewN m) := Lib.hid (fun w => h3.out w (by rcases hb with ⟨rfl, rfl⟩ | ⟨rfl, rfl⟩ <;> omega) (by rcases hb with ⟨rfl, rfl⟩ | ⟨rfl, rfl⟩ <;> omega) (by rcases hb with ⟨rfl, rfl⟩ | ⟨rfl, rfl⟩ <;> omega))
      have h4' : Hid (∀ w, Calls Tryd.prog 31 #[.int .i64 (n % B), .int .i64 B] w fun e w' => e = .returned (.string (str [sign (n % B).toNat])) ∧ ∃ m, w' = w.drewN m) := Lib.hid (fun w => by rw [← hs]; exact h4.out w (by rcases hb with ⟨rfl, rfl⟩ | ⟨rfl, rfl⟩ <;> omega) (by rcases hb with ⟨rfl, rfl⟩ | ⟨rfl, rfl⟩ <;> omega) (by rcases hb with ⟨rfl, rfl⟩ | ⟨rfl, rfl⟩ <;> omega))
      generalize str (spell b (n / B).toNat) = A at *
      generalize str [sign (n % B).toNat] = D at *
      clear ih h h2 h3 h4 l1 hs hj c1 c2
      rcases hb with ⟨rfl, rfl⟩ | ⟨rfl, rfl⟩
      all_goals
        go_enter Tryd.func31, Tryd.ntmps31
        go_wp2_with fail
        go_quiet ((first | (go_at_call 31; with_reducible exact Calls.quiet_of (h3'.out _)) | (go_at_call 31; with_reducible exact Calls.quiet_of (h4'.out _))))
        go_wp2_with fail
        go_ret
        exact ⟨rfl, _, rfl⟩
end code
end Go.Proofs.YtoackhbkngfhkaaDoor.Num

/-
  Layer 2 (number): what reading and writing a number answers, and the same of the document's own package.
-/
namespace Go.Proofs.YtoackhbkngfhkaaDoor.Num
open Go.RowKit Base Oct

theorem cut_one (s : ByteArray) (h : 0 < s.size) : s.data.toList = s[0] :: (s.extract 1 s.size).data.toList := by
  have e : (s.extract 1 s.size).data.toList = s.data.toList.drop 1 := by
    rw [ByteArray.data_extract]
    simp only [Array.toList_extract, List.extract]
    rw [List.take_of_length_le (by simp)]
  rw [e]
  cases s with
  | mk a => cases a with
    | mk l => cases l with
      | nil => exact absurd h (by decide)
      | cons c r => rfl
section code
set_option maxHeartbeats 800000
theorem rput_any (n : Int) (w : World) (h0 : -9223372036854775808 ≤ n) (h1 : n ≤ 9223372036854775807) : Calls Tryd.prog 19 #[.int .i64 n] w fun e w' => e = .returned (.string (str (spell 10 n.toNat))) ∧ ∃ m, w' = w.drewN m := by
  have h := Lib.hid (fun w => rspell_any 10 10 (by omega) (n.toNat + 1) n w h0 (by omega) (by omega))
  go_enter Tryd.func19, Tryd.ntmps19
  go_wp2_with (go_at_call 31; with_reducible refine (h.out _).mono ?_; rintro e w1 ⟨rfl, m, rfl⟩)
  go_ret
  exact ⟨rfl, m, rfl⟩
end code
end Go.Proofs.YtoackhbkngfhkaaDoor.Num

/-
  Layer 2 (number): the document's own reading of a number answers the same plain function.
-/
namespace Go.Proofs.YtoackhbkngfhkaaDoor.Num
open Go.RowKit Base Oct

theorem grow_snoc (base most n : Int) (l : List UInt8) (c : UInt8) : grow base most n (l ++ [c]) = (grow base most n l).bind fun k => if most < dig c ∨ (most - dig c) / base < k then none else some (k * base + dig c) := by
  rw [grow_app]; rfl
/-- What the walk holds of the number so far. -/
def Far (B M : Int) (l : List UInt8) (n : Int) (over : Bool) : Prop := l.all (digitOf B) = true ∧ 0 ≤ n ∧ n ≤ M ∧ grow B M 0 l = if over = true then none else some n

section code
set_option maxHeartbeats 1000000
end code
end Go.Proofs.YtoackhbkngfhkaaDoor.Num

/-
  Layer 2 (number): the statements' helps: what is known, texts of digits, the document's own answers.
-/
namespace Go.Proofs.YtoackhbkngfhkaaDoor.Num
open Go.RowKit Base Oct

theorem known_a : readOf 10 9 [48, 48, 55] = (7, 0) := by decide +kernel
theorem known_b : readOf 10 9 [49, 48] = (0, 23) := by decide +kernel
theorem known_c : readOf 10 99 [49, 97] = (0, 22) := by decide +kernel
theorem known_d : readOf 16 255 [102, 70] = (255, 0) := by decide +kernel
theorem known_e : spell 10 (120 : Int).toNat = [49, 50, 48] := by
  rw [spell_ge (by omega) (by decide), spell_ge (by omega) (by decide), spell_lt (by decide)]; decide +kernel
theorem known_f : spell 16 (255 : Int).toNat = [102, 102] := by
  rw [spell_ge (by omega) (by decide), spell_lt (by decide)]; decide +kernel

section code
set_option maxHeartbeats 1000000
end code
end Go.Proofs.YtoackhbkngfhkaaDoor.Num
