/-
  Layer 13 (parser), in plain words: a first line that is too long. No program is spoken of.
-/
import Derived.Test.YtibnobdbmojjhaaGreatDoorPgFeed
namespace Go.Proofs.YtibnobdbmojjhaaGreatDoor.Pg
open Go.RowKit Base Txt Par

theorem rem_of (a m : Int) (hm : 0 < m) (h : 0 ≤ a) : ∃ r : Nat, (r : Int) < m ∧ a.tmod m = (r : Int) := by
  have h1 := Int.emod_nonneg a (show m ≠ 0 by omega)
  have h2 := Int.emod_lt_of_pos a hm
  exact ⟨(a % m).toNat, by omega, by rw [Int.tmod_eq_emod_of_nonneg h]; omega⟩
/-- Bounds as usual, but for the line's. -/
abbrev lineB (x : Int) : Bd := ⟨x, 32, 8192, 65536, 32, 8, 4, 20, true, true⟩
/-- A first line with so many letters. -/
def tgtL (m : Nat) : List UInt8 := ([71, 69, 84, 32, 47] ++ List.replicate m 97) ++ [32, 72, 84, 84, 80, 47, 49, 46, 49]
theorem tgtL_length (m : Nat) : (tgtL m).length = 14 + m := by unfold tgtL; simp; omega
theorem tgt_a : ∀ c ∈ ([71, 69, 84, 32, 47] : List UInt8), c ≠ 10 ∧ c ≠ 13 := by decide
theorem tgt_b : ∀ c ∈ ([32, 72, 84, 84, 80, 47, 49, 46, 49] : List UInt8), c ≠ 10 ∧ c ≠ 13 := by decide
theorem tgtL_plain (m : Nat) : ∀ c ∈ tgtL m, c ≠ 10 ∧ c ≠ 13 := by
  intro c hc
  unfold tgtL at hc
  rcases List.mem_append.1 hc with hc | hc
  · rcases List.mem_append.1 hc with hc | hc
    · exact tgt_a c hc
    · rw [(List.mem_replicate.1 hc).2]; decide
  · exact tgt_b c hc
theorem tgt_all : ∀ m : Fin 100, Rq.request (Rq.clOf 0) true (tgtL m.val) = ([71, 69, 84], 47 :: List.replicate m.val 97, 1, 0) := by decide +kernel
theorem lineB_right : ∀ j : Fin 20, (lineB (64 + (j.val : Int))).right = true := by decide +kernel
theorem mid_at (j : Nat) (hj : j < 20) : Ln.mid (64 + (j : Int)) = 64 + j := by unfold Ln.mid; omega
theorem new_live {p : Nat} {b : Bd} (h : b.right = true) (hp : p < 1073741824) : Q.new p b = .live (T.new p b) := by
  unfold Q.new
  rw [h, decide_eq_true hp]
  rfl
theorem new_open (p : Nat) (b : Bd) : (T.new p b).Open := ⟨rfl, rfl, rfl⟩
theorem targets_ok (m j : Nat) (hm : m < 100) (hj : j < 20) (h : 14 + m ≤ 64 + j) : (Q.read 0 (lineB (64 + (j : Int))) (tgtL m ++ [13, 10])).err = 0 ∧ (Q.read 0 (lineB (64 + (j : Int))) (tgtL m ++ [13, 10])).held = 4 + m ∧ (Q.read 0 (lineB (64 + (j : Int))) (tgtL m ++ [13, 10])).clean = false := by
  unfold Q.read
  rw [new_live (lineB_right ⟨j, hj⟩) (by decide), feed_line (tgtL m) (new_open 0 _) rfl (tgtL_plain m) (by rw [tgtL_length]; show 14 + m ≤ Ln.mid (64 + (j : Int)); rw [mid_at j hj]; exact h) (by intro _; rw [tgtL_length]; show ((0 + (14 + m + 2) : Nat) : Int) ≤ 8192; omega)]
  have hq := tgt_all ⟨m, hm⟩
  have hne : tgtL m ≠ [] := by intro e; have := congrArg List.length e; rw [tgtL_length] at this; simp at this
  unfold T.line T.first
  rw [if_pos (by rfl), if_neg hne, hq]
  refine ⟨rfl, ?_, rfl⟩
  show 0 + ((ba [71, 69, 84]).size + (ba (47 :: List.replicate m 97)).size + Rec.weigh [] + Rec.weigh [] + ([] : List UInt8).length) = 4 + m
  rw [size_ba, size_ba]
  simp only [Rec.weigh, List.map_nil, List.sum_nil, List.length_cons, List.length_nil, List.length_replicate]
  omega
theorem targets_long (m j : Nat) (hj : j < 20) (h : 64 + j < 14 + m) : (Q.read 0 (lineB (64 + (j : Int))) (tgtL m ++ [13, 10])).err = 414 ∧ (Q.read 0 (lineB (64 + (j : Int))) (tgtL m ++ [13, 10])).held = 0 ∧ (Q.read 0 (lineB (64 + (j : Int))) (tgtL m ++ [13, 10])).clean = false := by
  have hl := tgtL_length m
  have hlt : 64 + j < (tgtL m).length := by omega
  have e : tgtL m = ((tgtL m).take (64 + j) ++ [(tgtL m)[64 + j]]) ++ (tgtL m).drop (64 + j + 1) := by
    rw [← List.take_succ_eq_append_getElem hlt, List.take_append_drop]
  have key : (Q.live (T.new 0 (lineB (64 + (j : Int))))).feed 0 (lineB (64 + (j : Int))) ((tgtL m).take (64 + j) ++ [(tgtL m)[64 + j]]) = .dead 414 [] := by
    have hlen : ((tgtL m).take (64 + j)).length = 64 + j := by rw [List.length_take]; omega
    refine feed_long _ _ (new_open 0 _) rfl (fun x hx => tgtL_plain m x ?_) ?_ ?_ (by show 1 ≠ 6; decide) ?_
    · rw [e]; exact List.mem_append_left _ hx
    · rw [hlen]; show 64 + j = Ln.mid (64 + (j : Int)); rw [mid_at j hj]
    · intro _; rw [hlen]; show ((0 + (64 + j + 1) : Nat) : Int) ≤ 8192; omega
    · intro e0; rw [e0] at hlen; simp at hlen; omega
  have hr : Q.read 0 (lineB (64 + (j : Int))) (tgtL m ++ [13, 10]) = .dead 414 [] := by
    unfold Q.read
    rw [new_live (lineB_right ⟨j, hj⟩) (by decide), feed_app, e, feed_app, key, feed_dead, feed_dead]
  rw [hr]
  exact ⟨rfl, rfl, rfl⟩
end Go.Proofs.YtibnobdbmojjhaaGreatDoor.Pg
