/-
  Layer 3 (text): the walk of TextLists: it returns true, and writes nothing that was there.
-/
import Derived.Test.YteldcpogoliioaaDoorTextLower
import Derived.Test.YteldcpogoliioaaDoorTextTells
namespace Go.Proofs.YteldcpogoliioaaDoor.Txt
open Go.RowKit Base Oct

/-- A slice of slices of bytes. -/
def Lines (w : World) (a : Option Addr) (n : Nat) (ls : List (List UInt8)) : Prop :=
  ls.length = n ∧ (0 < n → ∃ b off, a = some ⟨b, off, none⟩ ∧ b < w.heap.size ∧ ∀ k, k < n → ∃ ak ck, w.cell? ⟨b, off + k, none⟩ = some (.slice ak (ls[k]?.getD []).length ck) ∧ Nums .u8 w ak (ls[k]?.getD []).length (nums (ls[k]?.getD [])))
theorem Lines.below {w w' : World} {a : Option Addr} {n : Nat} {ls : List (List UInt8)} (h : Lines w a n ls) (hb : Below w.heap.size w w') : Lines w' a n ls := by
  refine ⟨h.1, fun hn => ?_⟩
  obtain ⟨b, off, e, hlt, hc⟩ := h.2 hn
  refine ⟨b, off, e, Nat.lt_of_lt_of_le hlt hb.size, fun k hk => ?_⟩
  obtain ⟨ak, ck, h1, h2⟩ := hc k hk
  exact ⟨ak, ck, (hb.cell (p := ⟨b, off + k, none⟩) hlt).trans h1, h2.below hb⟩

/-- A byte that may stand within a part. -/
def plain (b : UInt8) : Bool := !(b == 44) && !(b == 32) && !(b == 9)
/-- What the law makes of a line: its bytes but for commas and blanks. -/
def word (l : List UInt8) : List UInt8 := l.filter plain
theorem word_snoc (l : List UInt8) (k : Nat) (h : k < l.length) : word (l.take (k + 1)) = word (l.take k) ++ (if plain l[k] = true then [l[k]] else []) := by
  rw [List.take_succ_eq_append_getElem h, word, List.filter_append]
  congr 1
  by_cases hp : plain l[k] = true <;> simp [hp]
theorem word_le (l : List UInt8) : (word l).length ≤ l.length := List.length_filter_le _ _
theorem word_plain (l : List UInt8) : ∀ b ∈ word l, plain b = true := fun _ hb => (List.mem_filter.1 hb).2
/-- What stands ahead of the line of that place: a comma, and blanks by the place. -/
def sepAt (i : Nat) : List UInt8 := if i = 0 then [] else if i % 3 = 0 then [44] else if i % 3 = 1 then [32, 44] else [44, 32, 9]
def joined (ls : List (List UInt8)) (k : Nat) : List UInt8 := (List.range k).flatMap fun i => sepAt i ++ word (ls[i]?.getD [])
theorem joined_snoc (ls : List (List UInt8)) (k : Nat) : joined ls (k + 1) = joined ls k ++ (sepAt k ++ word (ls[k]?.getD [])) := by
  rw [joined, List.range_succ, List.flatMap_append, List.flatMap_singleton]; rfl
theorem sepAt_le (i : Nat) : (sepAt i).length ≤ 3 := by
  unfold sepAt; split
  · simp
  · split
    · simp
    · split <;> simp
theorem joined_le (ls : List (List UInt8)) (h : ∀ l ∈ ls, l.length ≤ 30) : ∀ k, (joined ls k).length ≤ 33 * k
  | 0 => by simp [joined]
  | k + 1 => by
    have ih := joined_le ls h k
    have h1 := sepAt_le k
    have h2 := word_le (ls[k]?.getD [])
    have h3 : (ls[k]?.getD []).length ≤ 30 := by
      rcases Nat.lt_or_ge k ls.length with hk | hk
      · rw [List.getElem?_eq_getElem hk]; exact h _ (List.getElem_mem _)
      · rw [List.getElem?_eq_none hk]; simp
    rw [joined_snoc, List.length_append, List.length_append]; omega

theorem plain_blank {b : UInt8} (h : plain b = true) : blank b = false ∧ b ≠ 44 := by
  simp only [plain, Bool.and_eq_true, Bool.not_eq_true', beq_eq_false_iff_ne] at h
  refine ⟨?_, h.1.1⟩
  simp [blank, h.1.2, h.2]
/-- Blanks around a word are trimmed, and nothing else. -/
theorem trimL_word (A B W : List UInt8) (hA : ∀ x ∈ A, blank x = true) (hB : ∀ x ∈ B, blank x = true) (hW : ∀ x ∈ W, plain x = true) : trimL blank (A ++ (W ++ B)) = W := by
  refine trimL_mid blank A W B hA hB ?_
  cases W with
  | nil => exact .inl rfl
  | cons x r =>
    refine .inr ⟨⟨x, r, rfl, (plain_blank (hW x (by simp))).1⟩, (x :: r).getLast (by simp), (x :: r).dropLast, (List.dropLast_concat_getLast (by simp)).symm, ?_⟩
    exact (plain_blank (hW _ (List.getLast_mem (by simp)))).1
theorem parts_ne (c : UInt8) (l : List UInt8) : parts c l ≠ [] := fun h => by have := parts_length c l; rw [h] at this; simp at this
theorem parts_app (c : UInt8) (r : List UInt8) : ∀ l : List UInt8, parts c (l ++ c :: r) = parts c l ++ parts c r
  | [] => parts_cut c [] r (by simp)
  | b :: l => by
    have ih := parts_app c r l
    rw [List.cons_append, parts, ih]
    by_cases h : b = c
    · rw [if_pos h, parts, if_pos h]; rfl
    · rw [if_neg h, parts, if_neg h]
      cases hp : parts c l with
      | nil => exact absurd hp (parts_ne c l)
      | cons p ps => rfl
theorem blank_no_comma {A : List UInt8} (h : ∀ x ∈ A, blank x = true) : (44 : UInt8) ∉ A := fun hm => by
  have := h _ hm
  revert this; decide
theorem plain_no_comma {W : List UInt8} (h : ∀ x ∈ W, plain x = true) : (44 : UInt8) ∉ W := fun hm => (plain_blank (h _ hm)).2 rfl
theorem one_part (A B W : List UInt8) (hA : ∀ x ∈ A, blank x = true) (hB : ∀ x ∈ B, blank x = true) (hW : ∀ x ∈ W, plain x = true) : (parts 44 (A ++ (W ++ B))).map (trimL blank) = [W] := by
  rw [parts_none 44 _ (by
    rw [List.mem_append, List.mem_append]
    rintro (h | h | h)
    · exact blank_no_comma hA h
    · exact plain_no_comma hW h
    · exact blank_no_comma hB h), List.map_singleton, trimL_word A B W hA hB hW]
theorem sep_cut (i : Nat) (hi : 0 < i) : ∃ A B, (∀ x ∈ A, blank x = true) ∧ (∀ x ∈ B, blank x = true) ∧ sepAt i = A ++ 44 :: B := by
  unfold sepAt
  rw [if_neg (by omega)]
  split
  · exact ⟨[], [], by simp, by simp, rfl⟩
  · split
    · exact ⟨[32], [], by decide, by simp, rfl⟩
    · exact ⟨[], [32, 9], by simp, by decide, rfl⟩
def words (ls : List (List UInt8)) (k : Nat) : List (List UInt8) := (List.range k).map fun i => word (ls[i]?.getD [])
theorem words_snoc (ls : List (List UInt8)) (k : Nat) : words ls (k + 1) = words ls k ++ [word (ls[k]?.getD [])] := by
  rw [words, List.range_succ, List.map_append]; rfl
theorem words_length (ls : List (List UInt8)) (k : Nat) : (words ls k).length = k := by rw [words, List.length_map, List.length_range]
theorem parts_joined (ls : List (List UInt8)) (A : List UInt8) (hA : ∀ x ∈ A, blank x = true) : ∀ (k : Nat) (B : List UInt8), 0 < k → (∀ x ∈ B, blank x = true) → (parts 44 (A ++ (joined ls k ++ B))).map (trimL blank) = words ls k
  | 0, _, h, _ => by omega
  | 1, B, _, hB => by
    have e : joined ls 1 = word (ls[0]?.getD []) := by rw [joined_snoc]; rfl
    rw [e, one_part A B _ hA hB (word_plain _)]; rfl
  | k + 2, B, _, hB => by
    obtain ⟨P, Q, hP, hQ, e⟩ := sep_cut (k + 1) (by omega)
    have ih := parts_joined ls A hA (k + 1) P (by omega) hP
    have e2 : A ++ (joined ls (k + 2) ++ B) = (A ++ (joined ls (k + 1) ++ P)) ++ 44 :: (Q ++ (word (ls[k + 1]?.getD []) ++ B)) := by
      rw [joined_snoc ls (k + 1), e]; simp [List.append_assoc]
    rw [e2, parts_app, List.map_append, ih, one_part Q B _ hQ hB (word_plain _), words_snoc ls (k + 1)]
theorem list_joined (ls : List (List UInt8)) (S : ByteArray) (k : Nat) (hk : 0 < k) (A B : List UInt8) (hA : ∀ x ∈ A, blank x = true) (hB : ∀ x ∈ B, blank x = true) (hS : S.data.toList = A ++ (joined ls k ++ B)) : partsOf S = (words ls k).map ba := by
  rw [← parts_joined ls A hA k B hk hB, ← hS, List.map_map]
  rfl
end Go.Proofs.YteldcpogoliioaaDoor.Txt
