/-
  Layer 1 (octet): the walk of OctetJoins: it returns true, and writes nothing that was there.
-/
import Derived.Test.YtplgadihanaefaaOctetLaws
import Derived.Deep.RegionHeld3
import Derived.Test.YtplgadihanaefaaSched
import Derived.Deep.DrawnRows
namespace Go.Proofs.Ytplgadihanaefaa.OctL
open Go.RowKit Base Oct

attribute [local go_sem ↓] Go.wp_at_zero Go.wp_at_succ

section code
set_option maxHeartbeats 4000000
theorem all_app (ks : List Int) (l m : List UInt8) : allOf ks (l ++ m) = (allOf ks l && allOf ks m) := by simp [allOf]
theorem all_swap (x y : Int) (l : List UInt8) : allOf [x, y] l = allOf [y, x] l := by
  unfold allOf; congr 1; funext c; simp [oneOf, Bool.or_comm]
theorem all_more (x y : Int) (l : List UInt8) (h : allOf [x] l = true) : allOf [x, y] l = true := by
  simp only [allOf, List.all_eq_true] at *
  intro c hc
  have := h c hc
  simp_all [oneOf]
theorem all_nil (l : List UInt8) : allOf [] l = l.isEmpty := by cases l <;> simp [allOf, oneOf]
theorem all_odd (l : List UInt8) : allOf [0, 7, -1] l = l.isEmpty := by cases l <;> simp [allOf, oneOf, ofKind]
theorem joins_walk (s t : ByteArray) (a b : Int) (w : World) (hs : s.size ≤ 140737488351232) (ht : t.size ≤ 140737488351232) (ha0 : 0 ≤ a) (ha1 : a ≤ 255) (hb0 : 0 ≤ b) (hb1 : b ≤ 255) :
    Calls Try.prog 6 #[.string s, .string t, .int .u8 a, .int .u8 b] w fun e w' => e = .returned (.bool true) ∧ Below w.heap.size w w' := by
  have hJ := all_app [a % 6 + 1, b % 6 + 1] s.data.toList t.data.toList
  have hR := (all_swap (a % 6 + 1) (b % 6 + 1) s.data.toList).symm
  have hN := all_nil s.data.toList
  have hM := all_odd s.data.toList
  have hE := congrArg List.isEmpty (Go.ByteArray.toList_eq s)
  generalize s.data.toList.isEmpty = E at hN hM hE
  have hA0 := all_more (a % 6 + 1) (b % 6 + 1) s.data.toList
  generalize hj : allOf [a % 6 + 1, b % 6 + 1] (s.data.toList ++ t.data.toList) = J at hJ
  generalize ha : allOf [a % 6 + 1, b % 6 + 1] s.data.toList = A at hJ hA0 hR
  generalize hb' : allOf [a % 6 + 1, b % 6 + 1] t.data.toList = B at hJ
  generalize hx : allOf [a % 6 + 1] s.data.toList = X at hA0
  have H1 := Lib.hid hj; have H2 := Lib.hid ha; have H3 := Lib.hid hb'; have H4 := Lib.hid hx; have H5 := Lib.hid hJ; have H6 := Lib.hid hA0; have H7 := Lib.hid hR; have H8 := Lib.hid hN; have H9 := Lib.hid hM; have H10 := Lib.hid hE
  clear hj ha hb' hx hJ hA0 hR hN hM hE
  have hs' : s.size ≤ maxLen := by unfold maxLen; omega
  have ht' : t.size ≤ maxLen := by unfold maxLen; omega
  have hst0 : s.size + t.size ≤ maxLen := by unfold maxLen; omega
  have hst : (s ++ t).size ≤ maxLen := by rw [ByteArray.size_append]; exact hst0
  have hov : ¬ 9223372036854775807 < s.size + t.size := by omega
  go_enter Try.func6, Try.ntmps6
  go_wp2_with (first
    | (go_at_call 7; refine (known_any _).mono ?_; rintro e w1 ⟨rfl, hb⟩)
    | fail)
  · go_ret
    exact ⟨rfl, hb⟩
  have hc0 : (w1.alloc (.cells #[.int .i64 (a % 6 + 1), .int .i64 (b % 6 + 1)] 3)).cell? ⟨w1.heap.size, 0, none⟩ = some (.int .i64 (a % 6 + 1)) := by simp
  have hc1 : (w1.alloc (.cells #[.int .i64 (a % 6 + 1), .int .i64 (b % 6 + 1)] 3)).cell? ⟨w1.heap.size, 1, none⟩ = some (.int .i64 (b % 6 + 1)) := by simp
  have hI : Ints (w1.alloc (.cells #[.int .i64 (a % 6 + 1), .int .i64 (b % 6 + 1)] 3)) (some ⟨w1.heap.size, 0, none⟩) 2 [a % 6 + 1, b % 6 + 1] := Ints.two _ _ rfl _ _ _
  have hg : w1.heap.size < (w1.alloc (.cells #[.int .i64 (a % 6 + 1), .int .i64 (b % 6 + 1)] 3)).heap.size := by simp
  have hW : Below w.heap.size w (w1.alloc (.cells #[.int .i64 (a % 6 + 1), .int .i64 (b % 6 + 1)] 3)) := hb.alloc hb.size _
  generalize w1.alloc (.cells #[.int .i64 (a % 6 + 1), .int .i64 (b % 6 + 1)] 3) = W at *
  generalize w1.heap.size = g at *
  refine Sched.region [(0, false), (1, false), (2, false), (3, false), (5, false), (6, false), (4, true), (7, true), (8, false), (9, false), (10, false), (11, true), (12, false), (13, false), (14, false), (15, false), (16, false), (17, false), (18, false), (19, true), (20, true), (21, false), (22, false), (23, false), (24, false), (25, true), (26, false), (27, false), (28, false), (29, false), (30, false), (31, false), (32, false), (33, false), (34, false), (35, false), (38, false), (39, false), (36, true), (37, true), (40, true), (41, false), (42, false), (43, false), (44, false), (46, false), (47, false), (45, true), (48, false), (49, false), (50, false), (51, false), (54, false), (55, false), (52, true), (53, true), (56, false), (57, false), (58, false)] (fun w' => Below W.heap.size W w') (by kernel_rfl) (by kernel_rfl) (fun _ _ d _ _ h => by cases d <;> exact h) (Base.below_drewN (Below.refl _ _) 1) ?_
  simp only [Sched.picked, List.filterMap_cons, List.filterMap_nil, List.getElem?_cons_zero, List.getElem?_cons_succ, Option.map_some]
  have j1 := H1.out; have j2 := H2.out; have j3 := H3.out; have j4 := H4.out; have j5 := H5.out; have j6 := H6.out; have j7 := H7.out; have j8 := H8.out; have j9 := H9.out; have j10 := H10.out
  clear H1 H2 H3 H4 H5 H6 H7 H8 H9 H10
  have hcase : (A = false ∧ X = false ∧ J = false) ∨ (A = true ∧ X = false ∧ J = B) ∨ (A = true ∧ X = true ∧ J = B) := by
    revert j5 j6; cases A <;> cases X <;> simp
  clear j5 j6
  rcases hcase with ⟨rfl, rfl, rfl⟩ | ⟨rfl, rfl, rfl⟩ | ⟨rfl, rfl, rfl⟩
  all_goals
    repeat (first
      | (refine Sched.skip (by rfl) ?_; simp only [Act.put, List.setIfInBounds_toArray, List.set_cons_zero, List.set_cons_succ])
      | (refine Sched.move _ (by rfl) (by rfl) ?_; simp only [Act.put, Act.eval, Array.getD_eq_getD_getElem?, List.getElem?_toArray, List.getElem?_cons_zero, List.getElem?_cons_succ, Option.getD_some, List.setIfInBounds_toArray, List.set_cons_zero, List.set_cons_succ])
      | (refine Sched.assign _ (by rfl) (by rfl) ?_; simp only [Act.put, Act.eval, Array.getD_eq_getD_getElem?, List.getElem?_toArray, List.getElem?_cons_zero, List.getElem?_cons_succ, Option.getD_some, List.setIfInBounds_toArray, List.set_cons_zero, List.set_cons_succ])
      | (refine Sched.quiet (by rfl) ?_ ?_ ?_; rotate_left 1; (· (intro w' hS; have q0 := (hS.cell (p := ⟨g, 0, none⟩) hg).trans hc0; have q1 := (hS.cell (p := ⟨g, 1, none⟩) hg).trans hc1; go_simp; with_reducible rfl)); simp only [Act.put, List.setIfInBounds_toArray, List.set_cons_zero, List.set_cons_succ])
      | (refine Sched.change (by rfl) (fun K hK => ?_); go_simp
         first
           | (refine hK _ _ ?_ ?_; (repeat (first | exact Below.refl _ _ | refine Base.below_drewN ?_ _ | refine Below.alloc ?_ (by simp <;> omega) _)); clear hK K)
           | ((with_reducible refine (all_any _ _ 2 2 [a % 6 + 1, b % 6 + 1] _ ?_ ?_ ?_).mono ?_); assumption; (exact hI.below (by repeat (first | exact Below.refl _ _ | refine Base.below_drewN ?_ _ | refine Below.alloc ?_ (by simp <;> omega) _))); decide; rintro e w' ⟨rfl, rfl⟩)
           | ((with_reducible refine (all_any _ _ 2 2 [b % 6 + 1, a % 6 + 1] _ ?_ ?_ ?_).mono ?_); assumption; (exact Ints.two _ _ (by simp) _ _ _); decide; rintro e w' ⟨rfl, rfl⟩)
           | ((with_reducible refine (all_any _ _ 1 1 [a % 6 + 1] _ ?_ ?_ ?_).mono ?_); assumption; (exact Ints.one _ _ (by simp) _ _); decide; rintro e w' ⟨rfl, rfl⟩)
           | ((with_reducible refine (all_any _ _ 0 0 [] _ ?_ ?_ ?_).mono ?_); assumption; (exact Ints.nil _ _); decide; rintro e w' ⟨rfl, rfl⟩)
           | ((with_reducible refine (all_any _ _ 3 3 [0, 7, -1] _ ?_ ?_ ?_).mono ?_); assumption; (exact Ints.three _ _ (by simp) _ _ _ _); decide; rintro e w' ⟨rfl, rfl⟩))
      | (dsimp only; (try simp only [ByteArray.data_append, Array.toList_append, j1, j2, j3, j4, j7, j8, j9]); refine hK _ _ ?_ ?_; (repeat (first | exact Below.refl _ _ | refine Base.below_drewN ?_ _ | refine Below.alloc ?_ (by simp <;> omega) _)); clear hK K))
    refine Sched.done ?_
    go_wp2
    go_ret
    exact ⟨rfl, hW.trans (Below.mono (by repeat (first | exact Below.refl _ _ | refine Base.below_drewN ?_ _ | refine Below.alloc ?_ (by simp <;> omega) _)) hW.size)⟩
end code
end Go.Proofs.Ytplgadihanaefaa.OctL
