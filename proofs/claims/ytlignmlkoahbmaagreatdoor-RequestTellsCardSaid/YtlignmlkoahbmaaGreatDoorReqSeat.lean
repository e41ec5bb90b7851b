/-
  Layer 8 (request): the laws' lines by numbers: how long they are, at most.
-/
import Derived.Test.YtlignmlkoahbmaaGreatDoorTextWords
import Derived.WalkKit
namespace Go.Proofs.YtlignmlkoahbmaaGreatDoor.Rq
open Go.RowKit Base Txt

theorem strs_at (w : World) (t : TypeId) (ss : List ByteArray) (k : Nat) (hk : k < ss.length) : (w.alloc (.cells ((ss.map Value.string).toArray) t)).cell? ⟨w.heap.size, k, none⟩ = some (.string (ss[k]?.getD ByteArray.empty)) := by
  rw [cell_of_row (w.alloc _) w.heap.size k _ t (0, 0) (heap_alloc_new w _)]
  simp [List.getElem?_eq_getElem hk]
theorem val_at (ss : List ByteArray) (k : Nat) (hk : k < ss.length) : (ss.map Value.string)[k]'(by rw [List.length_map]; exact hk) = .string (ss[k]?.getD ByteArray.empty) := by
  simp [List.getElem?_eq_getElem hk]
theorem size_at (ss : List ByteArray) (m : Nat) (h : ss.all (fun x => decide (x.size ≤ m)) = true) (k : Nat) (hk : k < ss.length) : (ss[k]?.getD ByteArray.empty).size ≤ m := by
  rw [List.all_eq_true] at h
  rw [List.getElem?_eq_getElem hk, Option.getD_some]
  simpa using h _ (List.getElem_mem hk)
theorem tgts_at (k : Nat) (hk : k < 12) : ∃ X : ByteArray, X.size ≤ 17 ∧ (∀ w : World, (w.alloc (.cells #[.string ⟨#[47]⟩, .string ⟨#[47, 97]⟩, .string ⟨#[47, 97, 47, 98, 63, 120, 61, 49]⟩, .string ⟨#[47, 97, 47, 46, 46, 47, 98]⟩, .string ⟨#[47, 37, 52, 49, 47, 99]⟩, .string ⟨#[42]⟩, .string ⟨#[104, 116, 116, 112, 58, 47, 47, 104, 46, 111, 114, 103, 47, 113, 63]⟩, .string ⟨#[47, 118, 49, 47, 105, 116, 101, 109, 47, 55]⟩, .string ⟨#[47, 120, 32, 121]⟩, .string ⟨#[47, 113, 1]⟩, .string ⟨#[47, 115, 116, 97, 116, 105, 99, 47, 99, 115, 115, 47, 109, 46, 99, 115, 115]⟩, .string ⟨#[104, 116, 116, 112, 58, 47, 47, 97]⟩] 9)).cell? ⟨w.heap.size, k, none⟩ = some (.string X)) ∧ ∀ hh, ([.string ⟨#[47]⟩, .string ⟨#[47, 97]⟩, .string ⟨#[47, 97, 47, 98, 63, 120, 61, 49]⟩, .string ⟨#[47, 97, 47, 46, 46, 47, 98]⟩, .string ⟨#[47, 37, 52, 49, 47, 99]⟩, .string ⟨#[42]⟩, .string ⟨#[104, 116, 116, 112, 58, 47, 47, 104, 46, 111, 114, 103, 47, 113, 63]⟩, .string ⟨#[47, 118, 49, 47, 105, 116, 101, 109, 47, 55]⟩, .string ⟨#[47, 120, 32, 121]⟩, .string ⟨#[47, 113, 1]⟩, .string ⟨#[47, 115, 116, 97, 116, 105, 99, 47, 99, 115, 115, 47, 109, 46, 99, 115, 115]⟩, .string ⟨#[104, 116, 116, 112, 58, 47, 47, 97]⟩] : List Value)[k]'hh = .string X :=
  ⟨_, size_at [⟨#[47]⟩, ⟨#[47, 97]⟩, ⟨#[47, 97, 47, 98, 63, 120, 61, 49]⟩, ⟨#[47, 97, 47, 46, 46, 47, 98]⟩, ⟨#[47, 37, 52, 49, 47, 99]⟩, ⟨#[42]⟩, ⟨#[104, 116, 116, 112, 58, 47, 47, 104, 46, 111, 114, 103, 47, 113, 63]⟩, ⟨#[47, 118, 49, 47, 105, 116, 101, 109, 47, 55]⟩, ⟨#[47, 120, 32, 121]⟩, ⟨#[47, 113, 1]⟩, ⟨#[47, 115, 116, 97, 116, 105, 99, 47, 99, 115, 115, 47, 109, 46, 99, 115, 115]⟩, ⟨#[104, 116, 116, 112, 58, 47, 47, 97]⟩] 17 (by decide) k hk, fun w => strs_at w 9 [⟨#[47]⟩, ⟨#[47, 97]⟩, ⟨#[47, 97, 47, 98, 63, 120, 61, 49]⟩, ⟨#[47, 97, 47, 46, 46, 47, 98]⟩, ⟨#[47, 37, 52, 49, 47, 99]⟩, ⟨#[42]⟩, ⟨#[104, 116, 116, 112, 58, 47, 47, 104, 46, 111, 114, 103, 47, 113, 63]⟩, ⟨#[47, 118, 49, 47, 105, 116, 101, 109, 47, 55]⟩, ⟨#[47, 120, 32, 121]⟩, ⟨#[47, 113, 1]⟩, ⟨#[47, 115, 116, 97, 116, 105, 99, 47, 99, 115, 115, 47, 109, 46, 99, 115, 115]⟩, ⟨#[104, 116, 116, 112, 58, 47, 47, 97]⟩] k hk, fun hh => by
    have h2 := val_at [⟨#[47]⟩, ⟨#[47, 97]⟩, ⟨#[47, 97, 47, 98, 63, 120, 61, 49]⟩, ⟨#[47, 97, 47, 46, 46, 47, 98]⟩, ⟨#[47, 37, 52, 49, 47, 99]⟩, ⟨#[42]⟩, ⟨#[104, 116, 116, 112, 58, 47, 47, 104, 46, 111, 114, 103, 47, 113, 63]⟩, ⟨#[47, 118, 49, 47, 105, 116, 101, 109, 47, 55]⟩, ⟨#[47, 120, 32, 121]⟩, ⟨#[47, 113, 1]⟩, ⟨#[47, 115, 116, 97, 116, 105, 99, 47, 99, 115, 115, 47, 109, 46, 99, 115, 115]⟩, ⟨#[104, 116, 116, 112, 58, 47, 47, 97]⟩] k hk
    exact h2⟩
theorem meths_at (k : Nat) (hk : k < 8) : ∃ X : ByteArray, X.size ≤ 7 ∧ (∀ w : World, (w.alloc (.cells #[.string ⟨#[71, 69, 84]⟩, .string ⟨#[80, 79, 83, 84]⟩, .string ⟨#[79, 80, 84, 73, 79, 78, 83]⟩, .string ⟨#[72, 69, 65, 68]⟩, .string ⟨#[80, 85, 84]⟩, .string ⟨#[68, 69, 76, 69, 84, 69]⟩, .string ⟨#[71, 40, 84]⟩, .string ⟨#[67, 79, 78, 78, 69, 67, 84]⟩] 9)).cell? ⟨w.heap.size, k, none⟩ = some (.string X)) ∧ ∀ hh, ([.string ⟨#[71, 69, 84]⟩, .string ⟨#[80, 79, 83, 84]⟩, .string ⟨#[79, 80, 84, 73, 79, 78, 83]⟩, .string ⟨#[72, 69, 65, 68]⟩, .string ⟨#[80, 85, 84]⟩, .string ⟨#[68, 69, 76, 69, 84, 69]⟩, .string ⟨#[71, 40, 84]⟩, .string ⟨#[67, 79, 78, 78, 69, 67, 84]⟩] : List Value)[k]'hh = .string X :=
  ⟨_, size_at [⟨#[71, 69, 84]⟩, ⟨#[80, 79, 83, 84]⟩, ⟨#[79, 80, 84, 73, 79, 78, 83]⟩, ⟨#[72, 69, 65, 68]⟩, ⟨#[80, 85, 84]⟩, ⟨#[68, 69, 76, 69, 84, 69]⟩, ⟨#[71, 40, 84]⟩, ⟨#[67, 79, 78, 78, 69, 67, 84]⟩] 7 (by decide) k hk, fun w => strs_at w 9 [⟨#[71, 69, 84]⟩, ⟨#[80, 79, 83, 84]⟩, ⟨#[79, 80, 84, 73, 79, 78, 83]⟩, ⟨#[72, 69, 65, 68]⟩, ⟨#[80, 85, 84]⟩, ⟨#[68, 69, 76, 69, 84, 69]⟩, ⟨#[71, 40, 84]⟩, ⟨#[67, 79, 78, 78, 69, 67, 84]⟩] k hk, fun hh => by
    have h2 := val_at [⟨#[71, 69, 84]⟩, ⟨#[80, 79, 83, 84]⟩, ⟨#[79, 80, 84, 73, 79, 78, 83]⟩, ⟨#[72, 69, 65, 68]⟩, ⟨#[80, 85, 84]⟩, ⟨#[68, 69, 76, 69, 84, 69]⟩, ⟨#[71, 40, 84]⟩, ⟨#[67, 79, 78, 78, 69, 67, 84]⟩] k hk
    exact h2⟩
theorem gaps_at (k : Nat) (hk : k < 4) : ∃ X : ByteArray, X.size ≤ 3 ∧ (∀ w : World, (w.alloc (.cells #[.string ⟨#[32]⟩, .string ⟨#[32, 32]⟩, .string ⟨#[9]⟩, .string ⟨#[32, 9, 32]⟩] 9)).cell? ⟨w.heap.size, k, none⟩ = some (.string X)) ∧ ∀ hh, ([.string ⟨#[32]⟩, .string ⟨#[32, 32]⟩, .string ⟨#[9]⟩, .string ⟨#[32, 9, 32]⟩] : List Value)[k]'hh = .string X :=
  ⟨_, size_at [⟨#[32]⟩, ⟨#[32, 32]⟩, ⟨#[9]⟩, ⟨#[32, 9, 32]⟩] 3 (by decide) k hk, fun w => strs_at w 9 [⟨#[32]⟩, ⟨#[32, 32]⟩, ⟨#[9]⟩, ⟨#[32, 9, 32]⟩] k hk, fun hh => by
    have h2 := val_at [⟨#[32]⟩, ⟨#[32, 32]⟩, ⟨#[9]⟩, ⟨#[32, 9, 32]⟩] k hk
    exact h2⟩
theorem vers_at (k : Nat) (hk : k < 6) : ∃ X : ByteArray, X.size ≤ 8 ∧ (∀ w : World, (w.alloc (.cells #[.string ⟨#[72, 84, 84, 80, 47, 49, 46, 49]⟩, .string ⟨#[72, 84, 84, 80, 47, 49, 46, 48]⟩, .string ⟨#[72, 84, 84, 80, 47, 49, 46, 55]⟩, .string ⟨#[104, 116, 116, 112, 47, 49, 46, 49]⟩, .string ⟨#[72, 84, 84, 80, 47, 50, 46, 48]⟩, .string ⟨#[72, 84, 84, 80, 47, 49, 46, 49]⟩] 9)).cell? ⟨w.heap.size, k, none⟩ = some (.string X)) ∧ ∀ hh, ([.string ⟨#[72, 84, 84, 80, 47, 49, 46, 49]⟩, .string ⟨#[72, 84, 84, 80, 47, 49, 46, 48]⟩, .string ⟨#[72, 84, 84, 80, 47, 49, 46, 55]⟩, .string ⟨#[104, 116, 116, 112, 47, 49, 46, 49]⟩, .string ⟨#[72, 84, 84, 80, 47, 50, 46, 48]⟩, .string ⟨#[72, 84, 84, 80, 47, 49, 46, 49]⟩] : List Value)[k]'hh = .string X :=
  ⟨_, size_at [⟨#[72, 84, 84, 80, 47, 49, 46, 49]⟩, ⟨#[72, 84, 84, 80, 47, 49, 46, 48]⟩, ⟨#[72, 84, 84, 80, 47, 49, 46, 55]⟩, ⟨#[104, 116, 116, 112, 47, 49, 46, 49]⟩, ⟨#[72, 84, 84, 80, 47, 50, 46, 48]⟩, ⟨#[72, 84, 84, 80, 47, 49, 46, 49]⟩] 8 (by decide) k hk, fun w => strs_at w 9 [⟨#[72, 84, 84, 80, 47, 49, 46, 49]⟩, ⟨#[72, 84, 84, 80, 47, 49, 46, 48]⟩, ⟨#[72, 84, 84, 80, 47, 49, 46, 55]⟩, ⟨#[104, 116, 116, 112, 47, 49, 46, 49]⟩, ⟨#[72, 84, 84, 80, 47, 50, 46, 48]⟩, ⟨#[72, 84, 84, 80, 47, 49, 46, 49]⟩] k hk, fun hh => by
    have h2 := val_at [⟨#[72, 84, 84, 80, 47, 49, 46, 49]⟩, ⟨#[72, 84, 84, 80, 47, 49, 46, 48]⟩, ⟨#[72, 84, 84, 80, 47, 49, 46, 55]⟩, ⟨#[104, 116, 116, 112, 47, 49, 46, 49]⟩, ⟨#[72, 84, 84, 80, 47, 50, 46, 48]⟩, ⟨#[72, 84, 84, 80, 47, 49, 46, 49]⟩] k hk
    exact h2⟩

section code
set_option maxHeartbeats 1000000
attribute [local go_sem] Base.some_undef
set_option maxHeartbeats 16000000 in
set_option maxRecDepth 10000 in
theorem line_any (a b : Nat) (ha : a < 256) (hb : b < 256) (w : World) : Calls Tryz.prog 8 #[.int .u8 a, .int .u8 b] w fun e w' => (∃ L : ByteArray, e = .returned (.string L) ∧ L.size ≤ 60) ∧ Below w.heap.size w w' := by
  obtain ⟨u, hu⟩ : ∃ u, b % 12 = u := ⟨_, rfl⟩
  obtain ⟨v, hv⟩ : ∃ v, a % 8 = v := ⟨_, rfl⟩
  obtain ⟨z, hz⟩ : ∃ z, b % 4 = z := ⟨_, rfl⟩
  obtain ⟨y, hy⟩ : ∃ y, a % 6 = y := ⟨_, rfl⟩
  have iu : (b : Int) % 12 = (u : Int) := by omega
  have iv : (a : Int) % 8 = (v : Int) := by omega
  have iz : (b : Int) % 4 = (z : Int) := by omega
  have iy : (a : Int) % 6 = (y : Int) := by omega
  have lu : u < 12 := by omega
  have lv : v < 8 := by omega
  have lz : z < 4 := by omega
  have ly : y < 6 := by omega
  clear hu hv hz hy
  obtain ⟨X1, z1, c1, d1⟩ := tgts_at u lu
  obtain ⟨X2, z2, c2, d2⟩ := meths_at v lv
  obtain ⟨X3, z3, c3, d3⟩ := gaps_at z lz
  obtain ⟨X4, z4, c4, d4⟩ := vers_at y ly
  have hA : 200 ≤ a ∨ (a < 200 ∧ 5 < v ∧ 7 < u ∧ ¬ u = 10) ∨ (a < 200 ∧ 5 < v ∧ u = 10) ∨ (a < 200 ∧ 5 < v ∧ u ≤ 7) ∨ (a < 200 ∧ v ≤ 5 ∧ 7 < u ∧ ¬ u = 10 ∧ ¬ u = 5) ∨ (a < 200 ∧ v ≤ 5 ∧ u = 10) ∨ (a < 200 ∧ v ≤ 5 ∧ u = 5) ∨ (a < 200 ∧ v ≤ 5 ∧ u ≤ 7 ∧ ¬ u = 5) := by omega
  have hB : 200 < b ∨ b = 199 ∨ (b ≤ 200 ∧ ¬ b = 199) := by omega
  rcases hA with h | ⟨h, h1, h2, h3⟩ | ⟨h, h1, rfl⟩ | ⟨h, h1, h2⟩ | ⟨h, h1, h2, h3, h4⟩ | ⟨h, h1, rfl⟩ | ⟨h, h1, rfl⟩ | ⟨h, h1, h2, h3⟩
  all_goals
    rcases hB with k1 | rfl | ⟨k1, k2⟩
    all_goals try (exfalso; omega)
    all_goals
      go_enter Tryz.func8, Tryz.ntmps8
      go_wp2_with fail
      all_goals
       go_ret
       refine ⟨⟨_, rfl, ?_⟩, ?_⟩
       · simp only [ByteArray.size_append, len_mk, List.length_cons, List.length_nil]; omega
       · repeat (first | exact Below.refl _ _ | with_reducible refine Below.alloc ?_ ?_ _)
         all_goals (simp; try omega)
end code
end Go.Proofs.YtlignmlkoahbmaaGreatDoor.Rq
