/-
  Layer 18 (hop): what Connection names, in plain words: the law HopNamed's fields and what is left of them.
-/
import Derived.Test.YtoackhbkngfhkaaDoorHopTl
import Derived.Test.YtoackhbkngfhkaaDoorNumber
namespace Go.Proofs.YtoackhbkngfhkaaDoor.Hop
open Go.RowKit Base Txt Oct

theorem parts_app (c : UInt8) (r : List UInt8) : ∀ l : List UInt8, parts c (l ++ c :: r) = parts c l ++ parts c r
  | [] => by
    have := parts_cut c [] r (by simp)
    rw [List.nil_append] at this
    rw [List.nil_append, this, parts_none c [] (by simp)]; rfl
  | b :: l => by
    have ih := parts_app c r l
    by_cases hb : b = c
    · subst hb
      have h1 := parts_cut b [] (l ++ b :: r) (by simp)
      have h2 := parts_cut b [] l (by simp)
      rw [List.nil_append] at h1 h2
      rw [List.cons_append, h1, h2, ih]; rfl
    · have hc : ∀ x y : List UInt8, ∀ t, parts c y = x :: t → parts c (b :: y) = (b :: x) :: t := fun x y t h => by
        show (if b = c then _ else _) = _
        simp [hb, h]
      have hne : parts c l ≠ [] := fun h => by have := parts_length c l; rw [h] at this; simp at this
      obtain ⟨x, t, hx⟩ : ∃ x t, parts c l = x :: t := by
        rcases h : parts c l with _ | ⟨x, t⟩
        · exact absurd h hne
        · exact ⟨x, t, rfl⟩
      rw [List.cons_append, hc x l t hx, hc x _ (t ++ parts c r) (by rw [ih, hx]; rfl)]; rfl

def all6 : List Value := [.string ⟨#[65]⟩, .string ⟨#[66]⟩, .string ⟨#[67, 111, 111, 107, 105, 101]⟩, .string ⟨#[72, 111, 115, 116]⟩, .string ⟨#[67, 111, 110, 116, 101, 110, 116, 45, 76, 101, 110, 103, 116, 104]⟩, .string ⟨#[88, 45, 89]⟩]
def al (b : Nat) : ByteArray := atV all6 b
/-- The name as the law writes it at place i. -/
def nm (i b : Nat) : ByteArray := if i % 2 = 0 then al b else lower (al b)
def closeB : ByteArray := ⟨#[99, 108, 111, 115, 101]⟩
def byteAt (bs : List UInt8) (i : Nat) : Nat := (bs[i]?.getD 0).toNat
def conV (bs : List UInt8) : Nat → ByteArray
  | 0 => closeB
  | k + 1 => conV bs k ++ ⟨#[44, 32]⟩ ++ nm k (byteAt bs k % 6)
/-- Has the j-th name been named among the first k, and may it go? -/
def goneAt (bs : List UInt8) (k j : Nat) : Bool := (List.range k).any fun i => byteAt bs i % 6 == j && (byteAt bs i % 6 != 3 && byteAt bs i % 6 != 4)
theorem goneAt_succ (bs : List UInt8) (k j : Nat) : goneAt bs (k + 1) j = (goneAt bs k j || (byteAt bs k % 6 == j && (byteAt bs k % 6 != 3 && byteAt bs k % 6 != 4))) := by
  unfold goneAt
  rw [List.range_succ, List.any_append, List.any_cons, List.any_nil, Bool.or_false]
theorem goneAt_may (bs : List UInt8) (k j : Nat) (h : goneAt bs k j = true) : (j != 3 && j != 4) = true := by
  unfold goneAt at h
  obtain ⟨i, _, hi⟩ := List.any_eq_true.1 h
  rw [Bool.and_eq_true] at hi
  have := beq_iff_eq.1 hi.1
  rw [← this]; exact hi.2
def goneC (bs : List UInt8) (k : Nat) : List Value := [.bool (goneAt bs k 0), .bool (goneAt bs k 1), .bool (goneAt bs k 2), .bool (goneAt bs k 3), .bool (goneAt bs k 4), .bool (goneAt bs k 5)]
theorem goneC_set (bs : List UInt8) (k r : Nat) (hr : byteAt bs k % 6 = r) : (goneC bs k).set r (.bool (r != 3 && r != 4)) = goneC bs (k + 1) := by
  have hlt : r < 6 := by omega
  have key : ∀ j, goneAt bs (k + 1) j = if j = r then (r != 3 && r != 4) else goneAt bs k j := fun j => by
    rw [goneAt_succ, hr]
    by_cases h : j = r
    · subst h
      rw [if_pos rfl]
      cases hg : goneAt bs k j with
      | true => rw [goneAt_may bs k j hg]; simp
      | false => simp
    · rw [if_neg h]
      have : (r == j) = false := beq_eq_false_iff_ne.2 fun e => h e.symm
      rw [this]; simp
  unfold goneC
  simp only [key]
  match r, hlt with
  | 0, _ => rfl
  | 1, _ => rfl
  | 2, _ => rfl
  | 3, _ => rfl
  | 4, _ => rfl
  | 5, _ => rfl
theorem goneC_at (bs : List UInt8) (k r : Nat) (hr : r < 6) : (goneC bs k)[r]? = some (.bool (goneAt bs k r)) := by
  match r, hr with
  | 0, _ => rfl
  | 1, _ => rfl
  | 2, _ => rfl
  | 3, _ => rfl
  | 4, _ => rfl
  | 5, _ => rfl
theorem al_at (r : Nat) (hr : r < 6) : all6[r]? = some (.string (al r)) ∧ (al r).size ≤ 14 := by
  match r, hr with
  | 0, _ => exact ⟨rfl, by decide⟩
  | 1, _ => exact ⟨rfl, by decide⟩
  | 2, _ => exact ⟨rfl, by decide⟩
  | 3, _ => exact ⟨rfl, by decide⟩
  | 4, _ => exact ⟨rfl, by decide⟩
  | 5, _ => exact ⟨rfl, by decide⟩
theorem nm_size (i r : Nat) (hr : r < 6) : (nm i r).size ≤ 14 := by
  unfold nm
  have := (al_at r hr).2
  split
  · exact this
  · rw [lower_size]; exact this
theorem conV_size (bs : List UInt8) : ∀ k, (conV bs k).size ≤ 5 + 16 * k
  | 0 => (by decide : closeB.size ≤ 5)
  | k + 1 => by
    have h1 := conV_size bs k
    have h2 := nm_size k (byteAt bs k % 6) (by omega)
    rw [conV, ByteArray.size_append, ByteArray.size_append]
    show _ + 2 + _ ≤ _
    omega
def fin : Bool := (List.range 6).all fun b => (List.range 6).all fun j =>
  !((32 :: (al b).data.toList).contains 44) && !((32 :: (lower (al b)).data.toList).contains 44) && decide ((trim (ba (32 :: (al b).data.toList))).data.toList = (al b).data.toList) && decide ((trim (ba (32 :: (lower (al b)).data.toList))).data.toList = (lower (al b)).data.toList) &&
  ((!stays (al b) && same (al b) (al j)) == (b == j && (b != 3 && b != 4))) && ((!stays (lower (al b)) && same (lower (al b)) (al j)) == (b == j && (b != 3 && b != 4))) && !one names (al j) && !same closeB (al j) && !same (al j) conN
theorem fin_true : fin = true := by decide +kernel
theorem fin_at (b j : Nat) (hb : b < 6) (hj : j < 6) (i : Nat) : 44 ∉ 32 :: (nm i b).data.toList ∧ trim (ba (32 :: (nm i b).data.toList)) = nm i b ∧ (!stays (nm i b) && same (nm i b) (al j)) = (b == j && (b != 3 && b != 4)) ∧ one names (al j) = false ∧ same closeB (al j) = false ∧ same (al j) conN = false := by
  have h := fin_true
  unfold fin at h
  rw [List.all_eq_true] at h
  have h := h b (List.mem_range.2 hb)
  rw [List.all_eq_true] at h
  have h := h j (List.mem_range.2 hj)
  simp only [Bool.and_eq_true, Bool.not_eq_true', decide_eq_true_eq, beq_iff_eq] at h
  obtain ⟨⟨⟨⟨⟨⟨⟨⟨h1, h2⟩, h3⟩, h4⟩, h5⟩, h6⟩, h7⟩, h8⟩, h9⟩ := h
  unfold nm
  split
  · exact ⟨(fun hm => absurd (List.contains_iff_mem.2 hm) (by rw [h1]; decide)), ba_ext h3, h5, h7, h8, h9⟩
  · exact ⟨(fun hm => absurd (List.contains_iff_mem.2 hm) (by rw [h2]; decide)), ba_ext h4, h6, h7, h8, h9⟩
theorem parts_conV (bs : List UInt8) : ∀ k, partsOf (conV bs k) = closeB :: (List.range k).map fun i => nm i (byteAt bs i % 6)
  | 0 => by
    unfold partsOf conV
    rw [parts_none 44 _ (by decide)]
    rfl
  | k + 1 => by
    have ih := parts_conV bs k
    obtain ⟨h1, h2, -⟩ := fin_at (byteAt bs k % 6) 0 (by omega) (by omega) k
    unfold partsOf at ih ⊢
    have e : (conV bs (k + 1)).data.toList = (conV bs k).data.toList ++ 44 :: (32 :: (nm k (byteAt bs k % 6)).data.toList) := by
      rw [conV, ByteArray.data_append, ByteArray.data_append]; simp
    rw [e, parts_app, List.map_append, ih, parts_none 44 _ h1, List.range_succ, List.map_append]
    simp [h2]
/-- The fields behind the Connection. -/
def putN (i : Nat) : ByteArray := Num.str (Num.spell 10 i)
def fieldAt (ls : List UInt8) (i : Nat) : Fld := (al (byteAt ls i % 6), putN i)
def behindL (ls : List UInt8) (k : Nat) : List Fld := (List.range k).map (fieldAt ls)
def wantL (bs ls : List UInt8) (n k : Nat) : List Fld := ((List.range k).filter fun i => !goneAt bs n (byteAt ls i % 6)).map (fieldAt ls)
theorem behindL_succ (ls : List UInt8) (k : Nat) : behindL ls (k + 1) = behindL ls k ++ [fieldAt ls k] := by
  unfold behindL; rw [List.range_succ, List.map_append]; rfl
theorem wantL_succ (bs ls : List UInt8) (n k : Nat) : wantL bs ls n (k + 1) = wantL bs ls n k ++ if goneAt bs n (byteAt ls k % 6) = true then [] else [fieldAt ls k] := by
  unfold wantL; rw [List.range_succ, List.filter_append, List.map_append]
  congr 1
  by_cases h : goneAt bs n (byteAt ls k % 6) = true <;> simp [h]
theorem wantL_le (bs ls : List UInt8) (n k : Nat) : (wantL bs ls n k).length ≤ k := by
  unfold wantL; rw [List.length_map]
  exact Nat.le_trans (List.length_filter_le _ _) (by rw [List.length_range]; exact Nat.le_refl _)
theorem find_behind (ls : List UInt8) (k : Nat) : find (behindL ls k) conN = [] := by
  unfold find
  have : (behindL ls k).filter (fun f => same f.1 conN) = [] := by
    apply List.filter_eq_nil_iff.2
    intro f hf
    obtain ⟨i, _, rfl⟩ := List.mem_map.1 hf
    obtain ⟨-, -, -, -, -, h⟩ := fin_at 0 (byteAt ls i % 6) (by omega) (by omega) 0
    show ¬ same (al (byteAt ls i % 6)) conN = true
    rw [h]; decide
  rw [this]; rfl
theorem strip_behind (ls : List UInt8) (k : Nat) : strip (behindL ls k) = behindL ls k := by
  have hn : namesOf (behindL ls k) = names := by unfold namesOf; rw [find_behind]; simp [list]
  show without _ (namesOf _) = _
  rw [hn]
  apply List.filter_eq_self.2
  intro f hf
  obtain ⟨i, _, rfl⟩ := List.mem_map.1 hf
  obtain ⟨-, -, -, h, -, -⟩ := fin_at 0 (byteAt ls i % 6) (by omega) (by omega) 0
  show (!one names (al (byteAt ls i % 6))) = true
  rw [h]; rfl
theorem any_range_any {α : Type} (l : List α) (p q : α → Bool) (h : ∀ x ∈ l, p x = q x) : l.any p = l.any q := by
  induction l with
  | nil => rfl
  | cons x l ih => rw [List.any_cons, List.any_cons, h x (by simp), ih fun y hy => h y (by simp [hy])]
theorem strip_named (bs ls : List UInt8) (n k : Nat) : strip ((conN, conV bs n) :: behindL ls k) = wantL bs ls n k := by
  have hfi : find ((conN, conV bs n) :: behindL ls k) conN = [conV bs n] := by
    have h1 : same conN conN = true := same_self _
    have := find_behind ls k
    unfold find at this ⊢
    rw [List.filter_cons, if_pos h1, List.map_cons, this]
  have hon : ∀ j, j < 6 → one (namesOf ((conN, conV bs n) :: behindL ls k)) (al j) = goneAt bs n j := fun j hj => by
    obtain ⟨-, -, -, h1, h2, -⟩ := fin_at 0 j (by omega) hj 0
    unfold namesOf
    rw [hfi]
    unfold one at h1 ⊢
    rw [List.any_append, h1, Bool.false_or, List.any_filter]
    unfold list
    rw [List.flatMap_cons, List.flatMap_nil, List.append_nil, parts_conV, List.any_cons, h2, Bool.and_false, Bool.false_or, List.any_map]
    unfold goneAt
    refine any_range_any _ _ _ fun i _ => ?_
    obtain ⟨-, -, h3, -⟩ := fin_at (byteAt bs i % 6) j (by omega) hj i
    exact h3
  unfold strip without
  rw [List.filter_cons, if_neg]
  · unfold behindL wantL
    rw [List.filter_map]
    congr 1
    apply List.filter_congr
    intro i _
    show (!one _ (al (byteAt ls i % 6))) = _
    rw [← hon _ (by omega)]; rfl
  · have : one (namesOf ((conN, conV bs n) :: behindL ls k)) conN = true := by
      unfold one namesOf
      rw [List.any_append]
      have : (names.any fun n => same n conN) = true := by
        rw [List.any_eq_true]
        exact ⟨conN, by simp [names, conN], same_self _⟩
      rw [this]; rfl
    show ¬ (!one _ conN) = true
    rw [this]; decide
theorem putN_size (i : Nat) (h : i < 10) : (putN i).size ≤ 20 := by
  match i, h with
  | 0, _ => decide +kernel
  | 1, _ => decide +kernel
  | 2, _ => decide +kernel
  | 3, _ => decide +kernel
  | 4, _ => decide +kernel
  | 5, _ => decide +kernel
  | 6, _ => decide +kernel
  | 7, _ => decide +kernel
  | 8, _ => decide +kernel
  | 9, _ => decide +kernel
end Go.Proofs.YtoackhbkngfhkaaDoor.Hop
