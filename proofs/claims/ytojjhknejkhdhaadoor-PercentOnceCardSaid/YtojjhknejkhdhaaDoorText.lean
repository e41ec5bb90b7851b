/-
  Layer 3 (text): what Lower, Same, Trim and TrimOf answer, of every text up to a great size, and write nothing that was there.
-/
import Derived.Test.YtojjhknejkhdhaaDoorTextWords
import Derived.Test.YtojjhknejkhdhaaDoorOctet
import Derived.Lib.AppendStr
import Derived.Laws.OwnMore
import Derived.Laws.IdiomStrings
import Derived.Shelf.Abstract
import Derived.Test.YtojjhknejkhdhaaDoorShelf
import Derived.Shelf.Strings.Split
namespace Go.Proofs.YtojjhknejkhdhaaDoor.Txt
open Go.RowKit Base Oct

theorem byte_info : (Tryd.prog.info? 5).map (fun i => (i.zero, i.size, i.bytes)) = some (some (.int .u8 0), 1, 1) := by kernel_rfl
theorem text_info : (Tryd.prog.info? 9).map (fun i => (i.zero, i.size, i.bytes)) = some (some (.string ByteArray.empty), 1, 16) := by kernel_rfl

/-- The bytes behind k rounds of Lower. -/
def mix (l : List UInt8) (k : Nat) : List UInt8 := low (l.take k) ++ l.drop k
def bcells (l : List UInt8) : List Value := l.map fun b => Value.int .u8 b.toNat
theorem mix_zero (l : List UInt8) : mix l 0 = l := by simp [mix, low]
theorem mix_all (l : List UInt8) (k : Nat) (h : l.length ≤ k) : mix l k = low l := by
  unfold mix; rw [List.take_of_length_le h, List.drop_eq_nil_of_le h, List.append_nil]
theorem mix_length (l : List UInt8) (k : Nat) : (mix l k).length = l.length := by
  unfold mix low; simp; omega
theorem mix_at (l : List UInt8) (k : Nat) (h : k < l.length) : (bcells (mix l k))[k]? = some (.int .u8 (l[k].toNat : Int)) := by
  unfold bcells mix low
  rw [List.getElem?_map, List.getElem?_append_right (by simp; omega)]
  have : k - (List.map lowB (List.take k l)).length = 0 := by simp; omega
  rw [this, List.getElem?_drop, Nat.add_zero, List.getElem?_eq_getElem h]; rfl
theorem mix_set (l : List UInt8) (k : Nat) (h : k < l.length) : (bcells (mix l k)).set k (.int .u8 (lowN (l[k].toNat : Int))) = bcells (mix l (k + 1)) := by
  unfold bcells mix low
  rw [List.map_append, List.map_append, List.set_append_right _ _ (by simp; omega), List.take_succ_eq_append_getElem h, List.drop_eq_getElem_cons h]
  have : k - (List.map (fun b : UInt8 => Value.int IntKind.u8 b.toNat) (List.map lowB (List.take k l))).length = 0 := by simp; omega
  rw [this, List.map_cons, List.set_cons_zero, List.map_append, List.map_append, List.append_assoc]
  simp [lowB_toNat]

section code
set_option maxHeartbeats 1000000
theorem blank_is (x : UInt8) : Oct.blank (x.toNat : Int) = blank x := by
  rw [Bool.eq_iff_iff]
  simp only [Oct.blank, blank, Bool.or_eq_true, decide_eq_true_eq, beq_iff_eq]
  constructor
  · rintro (h | h)
    · exact Or.inl (UInt8.toNat_inj.1 (by show x.toNat = 32; omega))
    · exact Or.inr (UInt8.toNat_inj.1 (by show x.toNat = 9; omega))
  · rintro (rfl | rfl) <;> decide

end code
end Go.Proofs.YtojjhknejkhdhaaDoor.Txt

/-
  Layer 3 (text): what TrimOf answers, of every text and set up to a great size.
-/
namespace Go.Proofs.YtojjhknejkhdhaaDoor.Txt
open Go.RowKit Base Oct

/-- Without bytes of the set at both ends. -/
def isIn (set : ByteArray) (x : UInt8) : Bool := set.data.toList.contains x
def trimOf (s set : ByteArray) : ByteArray := trimB (isIn set) s
def marks (l : List UInt8) : List Value := (List.range 256).map fun j => Value.bool (l.any fun b => b.toNat == j)
theorem marks_length (l : List UInt8) : (marks l).length = 256 := by rw [marks, List.length_map, List.length_range]
theorem marks_none (l : List UInt8) (j : Nat) (h : ¬ j < 256) : (marks l)[j]? = none := List.getElem?_eq_none (by rw [marks_length]; omega)
theorem marks_some (l : List UInt8) (j : Nat) (h : j < 256) : (marks l)[j]? = some (.bool (l.any fun b => b.toNat == j)) := by
  unfold marks; rw [List.getElem?_map, List.getElem?_range h]; rfl
theorem marks_nil (n : Nat) (hn : n = 256) : (Array.replicate n (Value.bool false)).toList = marks [] := by
  rw [Array.toList_replicate]
  apply List.ext_getElem?
  intro j
  by_cases h : j < 256
  · rw [marks_some _ _ h, List.getElem?_replicate, if_pos (by omega)]; rfl
  · rw [marks_none _ _ h, List.getElem?_replicate, if_neg (by omega)]
theorem marks_at (l : List UInt8) (x : UInt8) : (marks l)[x.toNat]? = some (.bool (l.contains x)) := by
  rw [marks_some _ _ x.toNat_lt]
  simp only [Option.some.injEq, Value.bool.injEq]
  rw [Bool.eq_iff_iff, List.any_eq_true, List.contains_iff_exists_mem_beq]
  constructor
  · rintro ⟨b, hb, e⟩; exact ⟨b, hb, by rw [beq_iff_eq] at e ⊢; exact (UInt8.toNat_inj.1 e).symm⟩
  · rintro ⟨b, hb, e⟩; rw [beq_iff_eq] at e; subst e; exact ⟨x, hb, by simp⟩
theorem marks_set (l : List UInt8) (x : UInt8) : (marks l).set x.toNat (.bool true) = marks (l ++ [x]) := by
  apply List.ext_getElem?
  intro j
  rw [List.getElem?_set]
  have hx := x.toNat_lt
  by_cases h : x.toNat = j
  · subst h
    rw [if_pos rfl, if_pos (by rw [marks_length]; exact hx), marks_some _ _ hx]
    simp
  · rw [if_neg h]
    by_cases hj : j < 256
    · rw [marks_some _ _ hj, marks_some _ _ hj]
      have : (x.toNat == j) = false := by simpa using h
      simp [this]
    · rw [marks_none _ _ hj, marks_none _ _ hj]

section code
set_option maxHeartbeats 1000000
end code
end Go.Proofs.YtojjhknejkhdhaaDoor.Txt

/-
  Layer 3 (text): what List and Find answer, of every slice of texts and of fields up to a great size.
-/
namespace Go.Proofs.YtojjhknejkhdhaaDoor.Txt
open Go.RowKit Base Oct

/-- How long a list may be, at most, by its texts. -/
def room (vs : List ByteArray) : Nat := (vs.map fun v => v.size + 1).sum
theorem partsOf_le (v : ByteArray) : (partsOf v).length ≤ v.size + 1 := by
  unfold partsOf; rw [List.length_map]; have := parts_le 44 v.data.toList; rwa [len] at this
theorem list_le : ∀ vs : List ByteArray, (list vs).length ≤ room vs
  | [] => by simp [list, room]
  | v :: vs => by
    have h1 := partsOf_le v
    have h2 := list_le vs
    simp only [list, room, List.flatMap_cons, List.length_append, List.map_cons, List.sum_cons] at *
    omega
theorem room_mem : ∀ (vs : List ByteArray) (v : ByteArray), v ∈ vs → v.size + 1 ≤ room vs
  | u :: vs, v, h => by
    rw [room, List.map_cons, List.sum_cons]
    rcases List.mem_cons.1 h with rfl | h
    · omega
    · have := room_mem vs v h; rw [room] at this; omega
theorem len_room : ∀ vs : List ByteArray, vs.length ≤ room vs
  | [] => Nat.zero_le _
  | v :: vs => by have := len_room vs; rw [room] at *; rw [List.map_cons, List.sum_cons, List.length_cons]; omega
theorem partsOf_map (x : ByteArray) : partsOf x = ((parts 44 x.data.toList).map ba).map trim := by rw [partsOf, List.map_map]; rfl
theorem list_take_le (vs : List ByteArray) (k : Nat) : (list (vs.take k)).length ≤ (list vs).length := by
  conv => rhs; rw [← List.take_append_drop k vs]
  unfold list
  rw [List.flatMap_append, List.length_append]; omega
theorem list_snoc (vs : List ByteArray) (k : Nat) (h : k < vs.length) : list (vs.take (k + 1)) = list (vs.take k) ++ partsOf (vs[k]?.getD ByteArray.empty) := by
  rw [strs_snoc vs k h]; unfold list; simp

section code
set_option maxHeartbeats 1000000
set_option maxRecDepth 10000
theorem split_at (c : UInt8) (s : ByteArray) (w : World) (hs : s.size < 4294967281) :
    Calls Tryd.prog 29 #[.string s, .string ⟨#[c]⟩] w fun e w' => ∃ n k, e = .returned (.slice (some ⟨w.heap.size, 0, none⟩) n k) ∧ n = (parts c s.data.toList).length ∧ Strs w' (some ⟨w.heap.size, 0, none⟩) n ((parts c s.data.toList).map ba) ∧ w.heap.size < w'.heap.size ∧ Below w.heap.size w w' := by
  have hle := Lib.countB_le ⟨#[c]⟩ (Nat.le_refl 1) s.size s (Nat.le_refl _)
  have hlen := Lib.splitB_all ⟨#[c]⟩ (Nat.le_refl 1) 0 _ s rfl
  have ct := Any.strings_genSplit_core Tryd.lays221 text_info s ⟨#[c]⟩ 0 (-1) (Lib.countB s ⟨#[c]⟩ + 1) w hs (Nat.le_refl 1) (Nat.zero_le _)
    (fun x cs hx => (Tryd.strings_Index_one x c _).mono fun e w' ⟨he, hw⟩ => ⟨by rw [he]; congr 2; exact (Lib.index_one _ _).symm, hw⟩)
    ((Tryd.strings_Count_one s c w).mono fun e w' ⟨he, hw⟩ => ⟨by rw [he]; congr 3; exact (Lib.count_one _ _).symm, hw⟩)
    (by decide) (by decide) (by rw [if_pos (by decide)]; omega)
  rw [Nat.add_sub_cancel, hlen] at ct
  have e2 : Lib.cellsOf (Lib.splitB ⟨#[c]⟩ 0 (Lib.countB s ⟨#[c]⟩) s) (Lib.countB s ⟨#[c]⟩ + 1) = ((Lib.splitB ⟨#[c]⟩ 0 (Lib.countB s ⟨#[c]⟩) s).map Value.string).toArray := by rw [← hlen]; exact Lib.cellsOf_full _
  rw [e2, splitB_parts c _ s rfl, countB_parts] at ct
  have HC := Lib.hid ((show Calls Tryd.prog 40 #[.string s, .string ⟨#[c]⟩, .int .i64 0, .int .i64 (-1)] w _ from ct).mono (R' := fun e w' => ∃ n k, e = .returned (.slice (some ⟨w.heap.size, 0, none⟩) n k) ∧ n = (parts c s.data.toList).length ∧ Strs w' (some ⟨w.heap.size, 0, none⟩) n ((parts c s.data.toList).map ba) ∧ w.heap.size < w'.heap.size ∧ Below w.heap.size w w') (by
    rintro e w' ⟨rfl, rfl⟩
    exact ⟨_, _, rfl, rfl, Strs.made w _ rfl _ _ _ (by rw [List.length_map]), by simp, (Below.refl _ _).alloc (Nat.le_refl _) _⟩))
  clear ct e2 hle hlen
  go_enter Tryd.func29, Tryd.ntmps29
  go_wp2_with (go_at_call 40; with_reducible refine HC.out.mono ?_; rintro e w' ⟨n, k, rfl, rfl, hS, hg, hb⟩)
  go_ret
  exact ⟨_, _, rfl, rfl, hS, hg, hb⟩
theorem split_any (s : ByteArray) (w : World) (hs : s.size < 4294967281) :
    Calls Tryd.prog 29 #[.string s, .string ⟨#[44]⟩] w fun e w' => ∃ n c, e = .returned (.slice (some ⟨w.heap.size, 0, none⟩) n c) ∧ n = (parts 44 s.data.toList).length ∧ Strs w' (some ⟨w.heap.size, 0, none⟩) n ((parts 44 s.data.toList).map ba) ∧ w.heap.size < w'.heap.size ∧ Below w.heap.size w w' := split_at 44 s w hs

end code
end Go.Proofs.YtojjhknejkhdhaaDoor.Txt

/-
  Layer 3 (text): whether two slices of fields, two of texts, are alike: package text's Fields, and the document's Fields and Strings.
-/
namespace Go.Proofs.YtojjhknejkhdhaaDoor.Txt
open Go.RowKit Base Oct

theorem ba_beq (a b : ByteArray) : (a.toList == b.toList) = decide (a = b) := by
  rw [Lib.toList_data, Lib.toList_data, Bool.eq_iff_iff, beq_iff_eq, decide_eq_true_eq]
  exact ⟨ba_ext, fun h => by rw [h]⟩
theorem toList_iff (a b : ByteArray) : a.toList = b.toList ↔ a = b := by
  rw [Lib.toList_data, Lib.toList_data]
  exact ⟨ba_ext, fun h => by rw [h]⟩
theorem take_eq_snoc {α : Type} (d : α) (xs ys : List α) (k : Nat) (hx : k < xs.length) (hy : k < ys.length) (h : xs.take k = ys.take k) (e : xs[k]?.getD d = ys[k]?.getD d) : xs.take (k + 1) = ys.take (k + 1) := by
  rw [List.take_succ_eq_append_getElem hx, List.take_succ_eq_append_getElem hy, h]
  rw [List.getElem?_eq_getElem hx, List.getElem?_eq_getElem hy] at e
  congr 2
theorem ne_of_at {α : Type} (d : α) (xs ys : List α) (k : Nat) (e : ¬ xs[k]?.getD d = ys[k]?.getD d) : xs ≠ ys := fun h => e (by rw [h])

section code
set_option maxHeartbeats 1000000
theorem rstrings_any (a : Option Addr) (n cap : Nat) (xs : List ByteArray) (b : Option Addr) (m cap2 : Nat) (ys : List ByteArray) (w : World) (hx : Strs w a n xs) (hy : Strs w b m ys) (hn : n ≤ 1000000000) (hm : m ≤ 1000000000) :
    Calls Tryd.prog 13 #[.slice a n cap, .slice b m cap2] w fun e w' => e = .returned (.bool (decide (xs = ys))) ∧ ∃ q, w' = w.drewN q := by
  have HX := Lib.hid hx; have HY := Lib.hid hy
  have HLX := Lib.hid hx.1; have HLY := Lib.hid hy.1
  clear hx hy
  by_cases hl : n = m
  · subst hl
    go_enter Tryd.func13, Tryd.ntmps13
    go_wp2
    go_loopw [5] (fun i wr => ∃ k q : Nat, k ≤ n ∧ i = .int .i64 k ∧ wr = w.drewN q ∧ Hid (xs.take k = ys.take k)) (fun i _ => n - (intOf i).toNat)
    case atStart => exact ⟨0, 0, Nat.zero_le _, rfl, rfl, Lib.hid rfl⟩
    case round =>
      obtain ⟨k, q, hk, rfl, rfl, hsm⟩ := hrel
      rcases Nat.lt_or_ge k n with hlt | hge
      · obtain ⟨b1, o1, rfl, _, hc⟩ := HX.out.2 (by omega)
        have hc0 := hc k hlt
        clear hc
        obtain ⟨b2, o2, rfl, _, hd⟩ := HY.out.2 (by omega)
        have hd0 := hd k hlt
        clear hd
        have i1 : (k : Int) < (n : Int) := by omega
        by_cases he : xs[k]?.getD ByteArray.empty = ys[k]?.getD ByteArray.empty
        · have hT := Lib.hid (take_eq_snoc ByteArray.empty xs ys k (by rw [HLX.out]; exact hlt) (by rw [HLY.out]; exact hlt) hsm.out he)
          rw [he] at hc0
          clear he
          generalize (ys[k]?.getD ByteArray.empty) = y at *
          go_wp2_with fail
          go_quiet (fail)
          rename_i nq
          go_wp2
          go_roundw
          case rel => first | exact ⟨k + 1, q + nq, by omega, by go_num, (World.drewN_drewN _ _ _).symm ▸ rfl, hT⟩ | exact ⟨k + 1, q + nq, by omega, by go_num, by rw [World.drewN_drewN], hT⟩ | exact ⟨k + 1, q + nq, by omega, by go_num, rfl, hT⟩
          case measure => simp [intOf]; omega
        · have hF := Lib.hid (ne_of_at ByteArray.empty xs ys k he)
          generalize (xs[k]?.getD ByteArray.empty) = x at *
          generalize (ys[k]?.getD ByteArray.empty) = y at *
          have he2 : ¬ x.toList = y.toList := fun h => he ((toList_iff x y).1 h)
          have he3 : (x.toList == y.toList) = false := by simpa using he2
          go_wp2_with fail
          go_quiet (fail)
          rename_i nq
          go_wp2
          go_ret
          refine ⟨by rw [decide_eq_false hF.out]; rfl, q + nq, ?_⟩
          first | rfl | rw [World.drewN_drewN]
      · obtain rfl : k = n := by omega
        go_wp2
        go_ret
        have e := hsm.out
        rw [List.take_of_length_le (by rw [HLX.out]; exact Nat.le_refl _), List.take_of_length_le (by rw [HLY.out]; exact Nat.le_refl _)] at e
        refine ⟨by rw [decide_eq_true e]; rfl, q, rfl⟩
  · have hne : xs ≠ ys := fun h => hl (by rw [← HLX.out, ← HLY.out, h])
    have hl' : ¬ (n : Int) = (m : Int) := by omega
    have HN := Lib.hid hne
    clear hne
    go_enter Tryd.func13, Tryd.ntmps13
    go_wp2
    go_ret
    exact ⟨by rw [decide_eq_false HN.out]; rfl, 0, rfl⟩

end code
end Go.Proofs.YtojjhknejkhdhaaDoor.Txt
