/-
  Layer 5 (quirks): contracts of package quirks and of parallaxref4's words on clauses.
-/
import Derived.Test.YtlikkpkpbjkcoaaDoorBase
import Derived.Test.YtlikkpkpbjkcoaaDoorSched
import Derived.Test.YtlikkpkpbjkcoaaDoorBounds
import Derived.Test.YtlikkpkpbjkcoaaDoorQuirkWords
import Derived.Laws.BitsAllLaws
import Derived.Laws.ShiftsVarLaws
namespace Go.Proofs.YtlikkpkpbjkcoaaDoor.Qk
open Go.RowKit Base

/-- The table of names, as start-up lays it. -/
structure Tab (w : World) : Prop where
  row : ∃ cs ty fr, w.heap[0]? = some (.cells cs ty fr) ∧ cs.size = 30 ∧ ∀ k, k < 30 → cs[k]? = some (.string (nm k))
  lt : 0 < w.heap.size
theorem Tab.below {w w' : World} (h : Tab w) (hb : Below w.heap.size w w') : Tab w' :=
  ⟨by rw [hb.block _ h.lt]; exact h.row, Nat.lt_of_lt_of_le h.lt hb.size⟩
theorem Tab.cell {w : World} (h : Tab w) (k : Nat) (hk : k < 30) : w.cell? ⟨0, k, none⟩ = some (.string (nm k)) := by
  obtain ⟨cs, ty, fr, hh, _, hc⟩ := h.row
  exact (cell_of_row w _ k cs ty fr hh).trans (hc k hk)

theorem shl_one (c : Int) (h0 : 0 ≤ c) (h1 : c < 30) : (2 : Int) ^ c.toNat % 4294967296 = ((2 ^ c.toNat : Nat) : Int) := by
  have h : (2 : Nat) ^ c.toNat < 2 ^ 30 := Nat.pow_lt_pow_right (by decide) (by omega)
  have h2 : (((2 : Nat) ^ c.toNat : Nat) : Int) = (2 : Int) ^ c.toNat := by rw [Int.natCast_pow]; rfl
  rw [← h2]
  clear h2
  generalize (2 : Nat) ^ c.toNat = q at *
  omega
theorem shr_bit (p : Nat) (hp : p < 4294967296) (n : Nat) : (bits BinOp.and IntKind.u32 ((p : Int) / 2 ^ n) 1 == 1) = true ↔ p.testBit n = true := by
  have h : ((p : Int) / 2 ^ n) = ((p / 2 ^ n : Nat) : Int) := by rw [Int.natCast_ediv, Int.natCast_pow]; rfl
  have h1 : p / 2 ^ n < 4294967296 := Nat.lt_of_le_of_lt (Nat.div_le_self _ _) hp
  rw [h, show (1 : Int) = ((1 : Nat) : Int) from rfl, u32_and_nat _ 1 h1 (by decide), Nat.testBit_eq_decide_div_mod_eq, Nat.and_one_is_mod, beq_iff_eq, decide_eq_true_eq]
  omega

section code
set_option maxHeartbeats 1000000
theorem known_any (c : Int) (w : World) : Calls Tryd.prog 26 #[.int .i64 c] w fun e w' => e = .returned (.bool (known c)) ∧ w' = w := by
  rcases Int.lt_or_le c 0 with h | h
  · go_enter Tryd.func26, Tryd.ntmps26
    go_wp2
    go_ret
    exact ⟨ret_bool (by simp [known]; omega), rfl⟩
  · go_enter Tryd.func26, Tryd.ntmps26
    go_wp2
    go_ret
    exact ⟨ret_bool (by simp [known]; omega), rfl⟩
theorem bit_any (c : Int) (w : World) : Calls Tryd.prog 25 #[.int .i64 c] w fun e w' => e = .returned (.int .u32 (bitOf c : Nat)) ∧ w' = w := by
  have H := Lib.hid (known_any c)
  have K := Lib.hid (known_iff c)
  generalize hk : known c = k at *
  cases k
  · go_enter Tryd.func25, Tryd.ntmps25
    go_wp2_with (go_at_call 26; with_reducible refine (H.out _).mono ?_; rintro e w1 ⟨rfl, hw⟩; rw [hw]; clear hw)
    go_ret
    exact ⟨ret_int (by simp [bitOf, hk]), rfl⟩
  · obtain ⟨h0, h1⟩ := K.out.1 rfl
    go_enter Tryd.func25, Tryd.ntmps25
    go_wp2_with (go_at_call 26; with_reducible refine (H.out _).mono ?_; rintro e w1 ⟨rfl, hw⟩; rw [hw]; clear hw)
    go_ret
    exact ⟨ret_int (by simp only [bitOf, hk, if_true]; exact shl_one c h0 h1), rfl⟩
theorem has_any (p : Nat) (hp : p < 4294967296) (c : Int) (w : World) : Calls Tryd.prog 9 #[.int .u32 p, .int .i64 c] w fun e w' => e = .returned (.bool (has p c)) ∧ w' = w := by
  have H := Lib.hid (bit_any c)
  have K := Lib.hid (and_bitOf p c)
  have hb := bitOf_lt c
  generalize bitOf c = q at *
  go_enter Tryd.func9, Tryd.ntmps9
  go_wp2_with (go_at_call 25; with_reducible refine (H.out _).mono ?_; rintro e w1 ⟨rfl, hw⟩; rw [hw]; clear hw)
  go_ret
  exact ⟨ret_bool (by rw [u32_and_nat p q hp (by omega), ← K.out]; simp), rfl⟩
theorem rhas_any (p : Nat) (hp : p < 4294967296) (c : Int) (w : World) : Calls Tryd.prog 10 #[.int .u32 p, .int .i64 c] w fun e w' => e = .returned (.bool (has p c)) ∧ w' = w := by
  have K := Lib.hid (known_iff c)
  rcases Int.lt_or_le c 0 with h | h
  · go_enter Tryd.func10, Tryd.ntmps10
    go_wp2
    go_ret
    exact ⟨ret_bool (by simp [has, known]; omega), rfl⟩
  · rcases Int.lt_or_le c 30 with h3 | h3
    · go_enter Tryd.func10, Tryd.ntmps10
      go_wp2
      go_ret
      exact ⟨ret_bool ((shr_bit p hp c.toNat).trans (by simp [has, known, h, h3])), rfl⟩
    · go_enter Tryd.func10, Tryd.ntmps10
      go_wp2
      go_ret
      exact ⟨ret_bool (by simp [has, known]; omega), rfl⟩
theorem right_any (p : Nat) (hp : p < 4294967296) (w : World) : Calls Tryd.prog 18 #[.int .u32 p] w fun e w' => e = .returned (.bool (decide (p < 1073741824))) ∧ w' = w := by
  go_enter Tryd.func18, Tryd.ntmps18
  go_wp2
  go_ret
  exact ⟨ret_bool (by rw [beq_iff_eq, decide_eq_true_eq]; omega), rfl⟩
theorem rright_any (p : Nat) (hp : p < 4294967296) (w : World) : Calls Tryd.prog 19 #[.int .u32 p] w fun e w' => e = .returned (.bool (decide (p < 1073741824))) ∧ w' = w := by
  go_enter Tryd.func19, Tryd.ntmps19
  go_wp2
  go_ret
  exact ⟨ret_bool (by rw [decide_eq_true_eq, decide_eq_true_eq]; omega), rfl⟩
theorem name_any (c : Int) (w : World) (hT : Tab w) : Calls Tryd.prog 11 #[.int .i64 c] w fun e w' => e = .returned (.string (nameOf c)) ∧ w' = w := by
  have H := Lib.hid (known_any c)
  have K := Lib.hid (known_iff c)
  generalize hk : known c = k at *
  cases k
  · go_enter Tryd.func11, Tryd.ntmps11
    go_wp2_with (go_at_call 26; with_reducible refine (H.out _).mono ?_; rintro e w1 ⟨rfl, hw⟩; rw [hw]; clear hw)
    go_ret
    exact ⟨by simp [nameOf, hk]; rfl, rfl⟩
  · obtain ⟨h0, h1⟩ := K.out.1 rfl
    have hc := hT.cell c.toNat (by omega)
    go_enter Tryd.func11, Tryd.ntmps11
    go_wp2_with (go_at_call 26; with_reducible refine (H.out _).mono ?_; rintro e w1 ⟨rfl, hw⟩; rw [hw]; clear hw)
    go_ret
    exact ⟨by rw [nameOf, if_pos hk]; rfl, rfl⟩
/-- A slice of the thirty names. -/
abbrev NamesAt (w : World) (g : Nat) : Prop := g < w.heap.size ∧ ∀ k, k < 30 → w.cell? ⟨g, k, none⟩ = some (.string (nm k))
theorem rnames_any (w : World) : Calls Tryd.prog 27 #[] w fun e w' => e = .returned (.slice (some ⟨w.heap.size, 0, none⟩) 30 30) ∧ NamesAt w' w.heap.size ∧ Below w.heap.size w w' := by
  go_enter Tryd.func27, Tryd.ntmps27
  go_wp2
  go_ret
  refine ⟨rfl, ⟨by simp, ?_⟩, (Below.refl _ _).alloc (Nat.le_refl _) _⟩
  intro k hk
  rw [cell_of_row (w.alloc _) w.heap.size k _ _ (0, 0) (heap_alloc_new w _)]
  have : ∀ k, k < 30 → (names.map fun n => Value.string ⟨n.toArray⟩)[k]? = some (.string (nm k)) := by
    intro k hk
    rw [List.getElem?_map, List.getElem?_eq_getElem (by rw [names_length]; exact hk), Option.map_some, nm, List.getElem?_eq_getElem (by rw [names_length]; exact hk), Option.getD_some]
  exact Array.getElem?_toList.symm.trans (this k hk)
theorem win_any (p : Nat) (hp : p < 4294967296) (w : World) : Calls Tryd.prog 29 #[.int .u32 p] w fun e w' => e = .returned (.bool (!has p 21)) ∧ w' = w := by
  have H := Lib.hid (has_any p hp 21)
  generalize has p 21 = b at *
  go_enter Tryd.func29, Tryd.ntmps29
  go_wp2_with (go_at_call 9; with_reducible refine (H.out _).mono ?_; rintro e w1 ⟨rfl, hw⟩; rw [hw]; clear hw)
  go_ret
  exact ⟨rfl, rfl⟩
attribute [local go_sem] Base.some_undef
theorem coding_any (p : Nat) (hp : p < 4294967296) (x0 x1 x2 x3 x4 x5 x6 x7 : Int) (c d : Bool) (w : World) : Calls Tryd.prog 28 #[.int .u32 p, Bnd.bnd x0 x1 x2 x3 x4 x5 x6 x7 c d] w
    fun e w' => e = .returned (.bool (c || has p 19 || has p 22 && !has p 21)) ∧ Below w.heap.size w w' := by
  have H1 := Lib.hid (has_any p hp 19); have H2 := Lib.hid (has_any p hp 22); have H3 := Lib.hid (win_any p hp)
  generalize has p 19 = a1 at *
  generalize has p 22 = a2 at *
  generalize has p 21 = a3 at *
  cases c; cases a1; cases a2; cases a3
  all_goals
    go_enter Tryd.func28, Tryd.ntmps28
    go_wp2_with (first
      | (go_at_call 9; first
        | (with_reducible refine (H1.out _).mono ?_; rintro e w1 ⟨rfl, hw⟩; rw [hw]; clear hw)
        | (with_reducible refine (H2.out _).mono ?_; rintro e w1 ⟨rfl, hw⟩; rw [hw]; clear hw))
      | (go_at_call 29; with_reducible refine (H3.out _).mono ?_; rintro e w1 ⟨rfl, hw⟩; rw [hw]; clear hw))
    go_ret
    exact ⟨rfl, (Below.refl _ _).alloc (Nat.le_refl _) _⟩
theorem needs_any (c : Int) (p : Nat) (hp : p < 4294967296) (x0 x1 x2 x3 x4 x5 x6 x7 : Int) (ch old : Bool) (w : World) : Calls Tryd.prog 13 #[.int .i64 c, .int .u32 p, Bnd.bnd x0 x1 x2 x3 x4 x5 x6 x7 ch old] w
    fun e w' => e = .returned (.bool (needs c p ch old)) ∧ Below w.heap.size w w' := by
  have H1 := Lib.hid (has_any p hp 14); have H2 := Lib.hid (has_any p hp 25); have H3 := Lib.hid (win_any p hp); have H4 := Lib.hid (known_any c)
  have H5 := Lib.hid (coding_any p hp x0 x1 x2 x3 x4 x5 x6 x7 ch old)
  rcases (by omega : c = 6 ∨ c = 17 ∨ c = 18 ∨ c = 21 ∨ c = 27 ∨ c = 28 ∨ c = 29 ∨ c = 20 ∨ c = 22 ∨ c = 26 ∨ (c ≠ 6 ∧ c ≠ 17 ∧ c ≠ 18 ∧ c ≠ 21 ∧ c ≠ 27 ∧ c ≠ 28 ∧ c ≠ 29 ∧ c ≠ 20 ∧ c ≠ 22 ∧ c ≠ 26)) with rfl | rfl | rfl | rfl | rfl | rfl | rfl | rfl | rfl | rfl | ⟨n0, n1, n2, n3, n4, n5, n6, n7, n8, n9⟩
  case inr.inr.inr.inr.inr.inr.inr.inl =>
    cases old
    all_goals
      go_enter Tryd.func13, Tryd.ntmps13
      go_wp2_with (go_at_call 28; with_reducible refine (H5.out _).mono ?_; rintro e w1 ⟨rfl, hb⟩)
      go_ret
      first | exact ⟨by simp [needs], (Below.refl _ _).alloc (Nat.le_refl _) _⟩ | exact ⟨by simp [needs], Base.below_step ((Below.refl _ _).alloc (Nat.le_refl _) _) hb⟩
  all_goals
    go_enter Tryd.func13, Tryd.ntmps13
    go_wp2_with (first
      | (go_at_call 9; first
        | (with_reducible refine (H1.out _).mono ?_; rintro e w1 ⟨rfl, hw⟩; rw [hw]; clear hw)
        | (with_reducible refine (H2.out _).mono ?_; rintro e w1 ⟨rfl, hw⟩; rw [hw]; clear hw))
      | (go_at_call 29; with_reducible refine (H3.out _).mono ?_; rintro e w1 ⟨rfl, hw⟩; rw [hw]; clear hw)
      | (go_at_call 26; with_reducible refine (H4.out _).mono ?_; rintro e w1 ⟨rfl, hw⟩; rw [hw]; clear hw))
    go_ret
    exact ⟨by simp [needs, *], (Below.refl _ _).alloc (Nat.le_refl _) _⟩
end code
end Go.Proofs.YtlikkpkpbjkcoaaDoor.Qk
