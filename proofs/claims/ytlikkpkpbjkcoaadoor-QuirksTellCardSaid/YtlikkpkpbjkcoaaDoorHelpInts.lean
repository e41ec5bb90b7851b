/-
  The statements' help: two slices of whole numbers held against one another.
-/
import Derived.Test.YtlikkpkpbjkcoaaDoorLists
import Derived.Test.YtlikkpkpbjkcoaaDoorSched
import Derived.Deep.QuietTactic
namespace Go.Proofs.YtlikkpkpbjkcoaaDoor.Help
open Go.RowKit Base

section code
set_option maxHeartbeats 1000000
theorem ints_any (a : Option Addr) (n cap : Nat) (xs : List Int) (b : Option Addr) (m cap2 : Nat) (ys : List Int) (w : World) (hx : Ints w a n xs) (hy : Ints w b m ys) (hn : n ≤ maxLen) :
    Calls Tryd.prog 22 #[.slice a n cap, .slice b m cap2] w fun e w' => e = .returned (.bool (decide (xs = ys))) ∧ ∃ q, w' = w.drewN q := by
  have HX := Lib.hid hx; have HY := Lib.hid hy
  have HLX := Lib.hid hx.1; have HLY := Lib.hid hy.1
  clear hx hy
  unfold maxLen at hn
  by_cases hl : n = m
  · subst hl
    go_enter Tryd.func22, Tryd.ntmps22
    go_wp2
    go_loopw [5] (fun i wr => ∃ k q : Nat, k ≤ n ∧ i = .int .i64 k ∧ wr = w.drewN q ∧ Hid (xs.take k = ys.take k)) (fun i _ => n - (intOf i).toNat)
    case atStart => exact ⟨0, 0, Nat.zero_le _, rfl, rfl, Lib.hid rfl⟩
    case round =>
      obtain ⟨k, q, hk, rfl, rfl, hsm⟩ := hrel
      rcases Nat.lt_or_ge k n with hlt | hge
      · obtain ⟨b1, o1, rfl, _, hc⟩ := HX.out.2 (by omega)
        have hc0 := hc k hlt
        clear hc
        obtain ⟨b2, o2, rfl, _, hd⟩ := HY.out.2 (by omega)
        have hd0 := hd k hlt
        clear hd
        have i1 : (k : Int) < (n : Int) := by omega
        by_cases he : xs[k]?.getD 0 = ys[k]?.getD 0
        · have hT := Lib.hid (Ls.take_eq_snoc 0 xs ys k (by rw [HLX.out]; exact hlt) (by rw [HLY.out]; exact hlt) hsm.out he)
          rw [he] at hc0
          clear he
          generalize (ys[k]?.getD 0) = y at *
          go_wp2_with fail
          go_quiet (fail)
          rename_i nq
          go_wp2
          go_roundw
          case rel => first | exact ⟨k + 1, q + nq, by omega, by go_num, (World.drewN_drewN _ _ _).symm ▸ rfl, hT⟩ | exact ⟨k + 1, q + nq, by omega, by go_num, by rw [World.drewN_drewN], hT⟩ | exact ⟨k + 1, q + nq, by omega, by go_num, rfl, hT⟩
          case measure => simp [intOf]; omega
        · have hF := Lib.hid (Ls.ne_of_at 0 xs ys k he)
          generalize (xs[k]?.getD 0) = x at *
          generalize (ys[k]?.getD 0) = y at *
          go_wp2_with fail
          go_quiet (fail)
          rename_i nq
          go_wp2
          go_ret
          refine ⟨by rw [decide_eq_false hF.out]; rfl, q + nq, ?_⟩
          first | rfl | rw [World.drewN_drewN]
      · obtain rfl : k = n := by omega
        go_wp2
        go_ret
        have e := hsm.out
        rw [List.take_of_length_le (by rw [HLX.out]; exact Nat.le_refl _), List.take_of_length_le (by rw [HLY.out]; exact Nat.le_refl _)] at e
        refine ⟨by rw [decide_eq_true e]; rfl, q, rfl⟩
  · have hne : xs ≠ ys := fun h => hl (by rw [← HLX.out, ← HLY.out, h])
    have hl' : ¬ (n : Int) = (m : Int) := by omega
    have HN := Lib.hid hne
    clear hne
    go_enter Tryd.func22, Tryd.ntmps22
    go_wp2
    go_ret
    exact ⟨by rw [decide_eq_false HN.out]; rfl, 0, rfl⟩
end code
end Go.Proofs.YtlikkpkpbjkcoaaDoor.Help
