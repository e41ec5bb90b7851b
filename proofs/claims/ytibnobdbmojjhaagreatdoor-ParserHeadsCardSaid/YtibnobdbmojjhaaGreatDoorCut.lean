/-
  strings.Cut at a separator of one byte: the text ahead of the first one, what is behind it, and whether there is one; of any text.
-/
import Derived.Test.YtibnobdbmojjhaaGreatDoorTextWords
import Derived.Test.YtibnobdbmojjhaaGreatDoorShelf
import Derived.WalkKit
import Derived.WalkMore
import Derived.Lib.IndexBytes
import Derived.Lib.CutLaws
import Derived.Deep.QuietTactic
import Derived.BigQuiet
namespace Go.Proofs.YtibnobdbmojjhaaGreatDoor.Tgt
open Go.RowKit Base Txt

/-- The text ahead of the first c, what is behind it, and whether there is one. -/
def cutAt (c : UInt8) : List UInt8 → List UInt8 × List UInt8 × Bool
  | [] => ([], [], false)
  | b :: l => if b = c then ([], l, true) else (b :: (cutAt c l).1, (cutAt c l).2.1, (cutAt c l).2.2)
theorem cutAt_none (c : UInt8) : ∀ l : List UInt8, c ∉ l → cutAt c l = (l, [], false)
  | [], _ => rfl
  | b :: l, h => by
    simp only [List.mem_cons, not_or] at h
    rw [cutAt, if_neg (fun e => h.1 e.symm), cutAt_none c l h.2]
theorem cutAt_app (c : UInt8) : ∀ (a r : List UInt8), c ∉ a → cutAt c (a ++ c :: r) = (a, r, true)
  | [], r, _ => by rw [List.nil_append, cutAt, if_pos rfl]
  | b :: a, r, h => by
    simp only [List.mem_cons, not_or] at h
    rw [List.cons_append, cutAt, if_neg (fun e => h.1 e.symm), cutAt_app c a r h.2]
theorem cut_cases (c : UInt8) : ∀ l : List UInt8, c ∉ l ∨ ∃ a r, l = a ++ c :: r ∧ c ∉ a
  | [] => .inl (by simp)
  | b :: l => by
    by_cases h : b = c
    · exact .inr ⟨[], l, by rw [h]; rfl, by simp⟩
    · rcases cut_cases c l with h1 | ⟨a, r, h1, h2⟩
      · exact .inl (by simp only [List.mem_cons, not_or]; exact ⟨fun e => h e.symm, h1⟩)
      · exact .inr ⟨b :: a, r, by rw [h1]; rfl, by simp only [List.mem_cons, not_or]; exact ⟨fun e => h e.symm, h2⟩⟩
theorem cutAt_le (c : UInt8) (l : List UInt8) : (cutAt c l).1.length ≤ l.length ∧ (cutAt c l).2.1.length ≤ l.length := by
  rcases cut_cases c l with h | ⟨a, r, rfl, h⟩
  · rw [cutAt_none c l h]; simp
  · rw [cutAt_app c a r h]; simp; omega
theorem idx_cut (c : UInt8) (l : List UInt8) : (Lib.indexByte l c = -1 ∧ cutAt c l = (l, [], false)) ∨ ∃ i : Nat, i < l.length ∧ Lib.indexByte l c = (i : Int) ∧ cutAt c l = (l.take i, l.drop (i + 1), true) := by
  by_cases h : Lib.indexByte l c = -1
  · refine .inl ⟨h, cutAt_none c l fun hm => ?_⟩
    obtain ⟨k, hk, e⟩ := List.getElem_of_mem hm
    exact Lib.indexByte_none h k (by rw [List.getElem?_eq_getElem hk, e])
  · have h0 := Lib.indexByte_ge l c
    obtain ⟨i, hi⟩ : ∃ i : Nat, Lib.indexByte l c = i := ⟨(Lib.indexByte l c).toNat, by omega⟩
    obtain ⟨g1, g2⟩ := Lib.indexByte_some hi
    have hlt : i < l.length := by
      rcases Nat.lt_or_ge i l.length with h | h
      · exact h
      · rw [List.getElem?_eq_none h] at g1; cases g1
    have hc : l[i] = c := by rw [List.getElem?_eq_getElem hlt] at g1; exact Option.some.inj g1
    refine .inr ⟨i, hlt, hi, ?_⟩
    have e1 : l = l.take i ++ c :: l.drop (i + 1) := by
      conv => lhs; rw [← List.take_append_drop i l, List.drop_eq_getElem_cons hlt, hc]
    have hno : c ∉ l.take i := fun hm => by
      obtain ⟨k, hk, e⟩ := List.getElem_of_mem hm
      have hk' : k < i := by simp at hk; omega
      exact g2 k hk' (by rw [List.getElem?_eq_getElem (by omega)]; rw [List.getElem_take] at e; rw [e])
    conv => lhs; rw [e1]
    exact cutAt_app c _ _ hno

section code
set_option maxHeartbeats 8000000
set_option maxRecDepth 1000000
theorem cutLite_any (s : ByteArray) (c : UInt8) (w : World) (hs : s.size ≤ 1000000000) :
    Calls Tryz.prog 226 #[.string s, .string ⟨#[c]⟩] w fun e w' => e = .returned (.tuple #[.string (ba (cutAt c s.data.toList).1), .string (ba (cutAt c s.data.toList).2.1), .bool (cutAt c s.data.toList).2.2]) ∧ ∃ n, w' = w.drewN n := by
  have HI := Lib.hid (fun w => Tryz.stringslite_Index_one s c w)
  rcases idx_cut c s.data.toList with ⟨h1, h2⟩ | ⟨i, h0, h1, h2⟩
  · rw [h1] at HI
    rw [h2]
    clear h1 h2
    go_enter Tryz.func226, Tryz.ntmps226
    go_wp2_with (go_at_call 187; with_reducible refine (HI.out _).mono ?_; rintro e w1 ⟨rfl, hw⟩; rw [hw]; clear hw)
    go_ret3
    exact ⟨rfl, 0, rfl⟩
  · rw [h1] at HI
    rw [h2]
    rw [len] at h0
    have c0 : (0 : Int) ≤ (i : Int) := by omega
    have c1 : (i : Int) ≤ (s.size : Int) := by omega
    have c2 : IntKind.i64.wrap ((i : Int) + 1) = ((i + 1 : Nat) : Int) := by rw [wrap_in _ (by omega) (by omega)]; omega
    have c3 : ((i + 1 : Nat) : Int) ≤ (s.size : Int) := by omega
    have e1 : s.extract 0 i = ba (s.data.toList.take i) := ba_ext (by rw [Lib.extract_data]; simp [ba])
    have e2 : s.extract (i + 1) s.size = ba (s.data.toList.drop (i + 1)) := ba_ext (by rw [Lib.extract_data, List.take_of_length_le (by rw [List.length_drop, len]; omega)]; rfl)
    simp only
    rw [← e1, ← e2]
    clear h1 h2 e1 e2
    go_enter Tryz.func226, Tryz.ntmps226
    go_wp2_with (go_at_call 187; with_reducible refine (HI.out _).mono ?_; rintro e w1 ⟨rfl, hw⟩; rw [hw]; clear hw)
    go_quiet (fail)
    rename_i nq
    go_wp2
    go_ret3
    exact ⟨rfl, nq, rfl⟩
theorem cut_any (s : ByteArray) (c : UInt8) (w : World) (hs : s.size ≤ 1000000000) :
    Calls Tryz.prog 199 #[.string s, .string ⟨#[c]⟩] w fun e w' => e = .returned (.tuple #[.string (ba (cutAt c s.data.toList).1), .string (ba (cutAt c s.data.toList).2.1), .bool (cutAt c s.data.toList).2.2]) ∧ ∃ n, w' = w.drewN n := by
  have HI := Lib.hid (fun w => cutLite_any s c w hs)
  generalize cutAt c s.data.toList = r at *
  go_enter Tryz.func199, Tryz.ntmps199
  go_wp2_with (go_at_call 226; with_reducible refine (HI.out _).mono ?_; rintro e w1 ⟨rfl, n, hw⟩; rw [hw]; clear hw)
  go_ret3
  exact ⟨rfl, n, rfl⟩
end code
end Go.Proofs.YtibnobdbmojjhaaGreatDoor.Tgt
