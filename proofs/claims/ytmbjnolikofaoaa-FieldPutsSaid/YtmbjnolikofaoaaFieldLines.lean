/-
  Layer 9 (field): the lines of fields that may be, one behind another: where a line ends, and what stands in it. No program is spoken of.
-/
import Derived.Test.YtmbjnolikofaoaaFieldRight
import Derived.Test.YtmbjnolikofaoaaFieldPut
namespace Go.Proofs.Ytmbjnolikofaoaa.Fd
open Go.RowKit Base Txt Tgt

/-- A field that may be, of a bounded size. -/
structure Good (f : Fld) : Prop where
  r : right f.1.data.toList f.2.data.toList = true
  n : f.1.size ≤ 4
  v : f.2.size ≤ 40
theorem Good.pos {f : Fld} (h : Good f) : 0 < f.1.size := by
  obtain ⟨h1, _⟩ := right_iff.1 h.r
  rw [← len]; exact List.length_pos_iff.2 h1
/-- Of a name of tokens and of a value that may stand behind another name. -/
theorem right_mix {n n' v v' : List UInt8} (h1 : right n v = true) (h2 : right n' v' = true) : right n v' = true := by
  obtain ⟨a, b, _, _⟩ := right_iff.1 h1
  obtain ⟨_, _, c, d⟩ := right_iff.1 h2
  exact right_iff.2 ⟨a, b, c, d⟩
theorem line_len {f : Fld} (h : Good f) : 5 ≤ (line f).length ∧ (line f).length ≤ 48 := by
  rw [line_length]
  have := h.pos; have := h.n; have := h.v
  omega
/-- A line's last two bytes; and no byte ahead of them is a line's end. -/
theorem line_parts (f : Fld) : line f = (f.1.data.toList ++ 58 :: 32 :: f.2.data.toList) ++ [13, 10] := by simp [line]
theorem line_end {f : Fld} (h : Good f) : ((line f)[(line f).length - 2]?.getD 0 = 13 ∧ (line f)[(line f).length - 1]?.getD 0 = 10) ∧ ∀ d, d + 1 < (line f).length → (line f)[d]?.getD 0 ≠ 10 := by
  obtain ⟨h1, h2, h3, h4⟩ := right_iff.1 h.r
  have hl : (line f).length = (f.1.data.toList ++ 58 :: 32 :: f.2.data.toList).length + 2 := by rw [line_parts]; simp; omega
  refine ⟨⟨?_, ?_⟩, fun d hd => ?_⟩
  · rw [hl, line_parts, List.getElem?_append_right (by omega)]
    simp
  · rw [hl, line_parts, List.getElem?_append_right (by omega)]
    simp
  · rw [line_parts]
    rcases Nat.lt_or_ge d (f.1.data.toList ++ 58 :: 32 :: f.2.data.toList).length with hlt | hge
    · rw [List.getElem?_append_left hlt, List.getElem?_eq_getElem hlt, Option.getD_some]
      intro e
      have hm : (10 : UInt8) ∈ f.1.data.toList ++ 58 :: 32 :: f.2.data.toList := by rw [← e]; exact List.getElem_mem hlt
      rw [List.mem_append, List.mem_cons, List.mem_cons] at hm
      rcases hm with hm | hm | hm | hm
      · exact (token_of (all_of h2 _ hm)).2.2.1 rfl
      · exact absurd hm (by decide)
      · exact absurd hm (by decide)
      · exact (text_of (all_of h3 _ hm)).2 rfl
    · rw [List.getElem?_append_right hge, show d - (f.1.data.toList ++ 58 :: 32 :: f.2.data.toList).length = 0 by omega]
      simp
theorem put_cons (f : Fld) (fs : List Fld) : put (f :: fs) = line f ++ put fs := rfl
theorem put_split (fs : List Fld) (c : Nat) (hc : c < fs.length) : put fs = put (fs.take c) ++ (line (fs[c]?.getD dflt) ++ put (fs.drop (c + 1))) := by
  conv => lhs; rw [← List.take_append_drop c fs, put_append, List.drop_eq_getElem_cons hc, put_cons]
  rw [List.getElem?_eq_getElem hc, Option.getD_some]
/-- The text of all lines, at a place of line number c. -/
theorem put_at (fs : List Fld) (c d : Nat) (hc : c < fs.length) (hd : d < (line (fs[c]?.getD dflt)).length) : (put fs)[(put (fs.take c)).length + d]? = (line (fs[c]?.getD dflt))[d]? := by
  have e := put_split fs c hc
  rw [e, List.getElem?_append_right (by omega), Nat.add_sub_cancel_left, List.getElem?_append_left hd]
theorem put_cut (fs : List Fld) (c : Nat) (hc : c < fs.length) : ((put fs).drop (put (fs.take c)).length).take ((line (fs[c]?.getD dflt)).length - 2) = (fs[c]?.getD dflt).1.data.toList ++ 58 :: 32 :: (fs[c]?.getD dflt).2.data.toList := by
  have e := put_split fs c hc
  rw [e, List.drop_append_of_le_length (Nat.le_refl _), List.drop_length, List.nil_append]
  generalize fs[c]?.getD dflt = f
  have hl : (line f).length - 2 = (f.1.data.toList ++ 58 :: 32 :: f.2.data.toList).length := by rw [line_parts]; simp; omega
  rw [hl, line_parts, List.append_assoc, List.take_append_of_le_length (Nat.le_refl _), List.take_of_length_le (Nat.le_refl _)]
theorem put_grow (fs : List Fld) (c : Nat) (hc : c < fs.length) : (put (fs.take (c + 1))).length = (put (fs.take c)).length + (line (fs[c]?.getD dflt)).length := by
  rw [put_snoc fs c hc, List.length_append]
theorem put_bound : ∀ fs : List Fld, (∀ f ∈ fs, Good f) → (put fs).length ≤ 48 * fs.length
  | [], _ => Nat.le_refl _
  | f :: fs, h => by
    have := put_bound fs (fun g hg => h g (by simp [hg]))
    have := (line_len (h f (by simp))).2
    rw [show put (f :: fs) = line f ++ put fs by simp [put], List.length_append, List.length_cons]
    omega

/-! ### The names and the values that the law takes -/
def nms : List ByteArray := [⟨#[65]⟩, ⟨#[72, 111, 115, 116]⟩, ⟨#[120, 45, 121]⟩, ⟨#[33, 126]⟩]
def vls : List ByteArray := [⟨#[]⟩, ⟨#[98]⟩, ⟨#[99, 32, 100]⟩, ⟨#[195, 169, 58, 44]⟩]
theorem base_good (i j : Nat) (hi : i < 4) (hj : j < 4) : Good (nms[i]?.getD ByteArray.empty, vls[j]?.getD ByteArray.empty) := by
  have h : ∀ i j : Fin 4, right (nms[i.val]?.getD ByteArray.empty).data.toList (vls[j.val]?.getD ByteArray.empty).data.toList = true ∧ (nms[i.val]?.getD ByteArray.empty).size ≤ 4 ∧ (vls[j.val]?.getD ByteArray.empty).size ≤ 40 := by decide +kernel
  obtain ⟨a, b, c⟩ := h ⟨i, hi⟩ ⟨j, hj⟩
  exact ⟨a, b, c⟩
theorem other_good {N V x : ByteArray} (h : Good (N, V)) (hr : right [65] x.data.toList = true) (hx : x.size < 40) : Good (N, x) :=
  ⟨right_mix h.r hr, h.n, Nat.le_of_lt hx⟩
end Go.Proofs.Ytmbjnolikofaoaa.Fd
