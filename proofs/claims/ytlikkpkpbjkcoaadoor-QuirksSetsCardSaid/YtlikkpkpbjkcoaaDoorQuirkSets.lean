/-
  Layer 5 (quirks): the walk of QuirksSets: it returns true, and writes nothing that was there.
-/
import Derived.Test.YtlikkpkpbjkcoaaDoorQuirkLaws
namespace Go.Proofs.YtlikkpkpbjkcoaaDoor.Qk
open Go.RowKit Base

theorem has_or (p q : Nat) (c : Int) : has (p ||| q) c = (has p c || has q c) := by
  unfold has
  rw [Nat.testBit_or]
  cases known c <;> simp
theorem has_and (p q : Nat) (c : Int) : has (p &&& q) c = (has p c && has q c) := by
  unfold has
  rw [Nat.testBit_and]
  cases known c <;> simp

section code
set_option maxHeartbeats 4000000
set_option maxRecDepth 10000
attribute [local go_sem] Base.some_undef
theorem quirksSets_any (a b k : Nat) (ha : a < 4294967296) (hb : b < 4294967296) (hk : k < 256) (w : World) (hT : Tab w) : Calls Tryd.prog 5 #[.int .u32 a, .int .u32 b, .int .u8 k] w fun e w' => e = .returned (.bool true) ∧ Below w.heap.size w w' := by
  have hm := mask30 a ha
  have hm2 := mask30 b hb
  have hp : a % 1073741824 < 1073741824 := Nat.mod_lt _ (by decide)
  have hq : b % 1073741824 < 1073741824 := Nat.mod_lt _ (by decide)
  generalize a % 1073741824 = p at *
  generalize b % 1073741824 = q at *
  obtain ⟨i0, hi, hz0, hz1, hz2⟩ := info_parts int_info
  have G1 := Lib.hid hi; have G2 := Lib.hid hz0; have G3 := Lib.hid hz1; have G4 := Lib.hid hz2
  clear hi hz0 hz1 hz2
  have HK := Lib.hid (known_law w hT)
  have L1 := Lib.hid (list_any p (by omega)); have L2 := Lib.hid (list_any q (by omega))
  have hlp := upTo_le p 30; have hlq := upTo_le q 30
  have L0 : Hid (∀ w, Calls Tryd.prog 23 #[.int .u32 0] w fun e w' => ∃ A c, e = .returned (.slice A 0 c) ∧ Below w.heap.size w w') := Lib.hid (fun w => (list_any 0 (by decide) w).mono (by
    rintro e w' ⟨v, rfl, ho, hb⟩
    obtain ⟨A, c, rfl, hA⟩ := Ints.of_own ho
    exact ⟨A, c, by rw [show (upTo 0 30).length = 0 from by decide +kernel], hb⟩))
  have O0 : Hid (∀ w, Calls Tryd.prog 20 #[.slice none 0 0] w fun e w' => e = .returned (.int .u32 0) ∧ w' = w) := Lib.hid (fun w => of_any none 0 0 [] w (Ints.nil _ _) (by decide))
  have O1 : Hid (∀ (A : Option Addr) (n c : Nat) w, Ints w A n (upTo p 30 ++ upTo q 30) → n ≤ maxLen → Calls Tryd.prog 20 #[.slice A n c] w fun e w' => e = .returned (.int .u32 (p ||| q : Nat)) ∧ w' = w) := Lib.hid (fun A n c w h hn => by
    have := of_any A n c _ w h hn
    rwa [ofL_append, ofL_upTo p hp, ofL_upTo q hq] at this)
  have ho : bits .or .u32 (p : Int) (q : Int) = ((p ||| q : Nat) : Int) := u32_or_nat p q (by omega) (by omega)
  have hn : bits .and .u32 (p : Int) (q : Int) = ((p &&& q : Nat) : Int) := u32_and_nat p q (by omega) (by omega)
  have hr : p ||| q < 4294967296 := Nat.lt_trans (or_lt30 hp hq) (by decide)
  have hs : p &&& q < 4294967296 := Nat.lt_of_le_of_lt Nat.and_le_left (by omega)
  have H1 := Lib.hid (has_any p (by omega) ((k : Int) % 30)); have H2 := Lib.hid (has_any q (by omega) ((k : Int) % 30))
  have H3 := Lib.hid (has_any (p ||| q) hr ((k : Int) % 30)); have H4 := Lib.hid (has_any (p &&& q) hs ((k : Int) % 30))
  rw [has_or] at H3
  rw [has_and] at H4
  have H5 : Hid (∀ w, Calls Tryd.prog 9 #[.int .u32 p, .int .i64 30] w fun e w' => e = .returned (.bool false) ∧ w' = w) := Lib.hid (fun w => has_any p (by omega) 30 w)
  have H6 : Hid (∀ w, Calls Tryd.prog 9 #[.int .u32 p, .int .i64 (-1)] w fun e w' => e = .returned (.bool false) ∧ w' = w) := Lib.hid (fun w => has_any p (by omega) (-1) w)
  have H7 := Lib.hid (right_any p (by omega))
  rw [decide_eq_true hp] at H7
  generalize has p ((k : Int) % 30) = b1 at *
  generalize has q ((k : Int) % 30) = b2 at *
  generalize p ||| q = r at *
  generalize p &&& q = s at *
  generalize upTo p 30 = lp at *
  generalize upTo q 30 = lq at *
  go_enter Tryd.func5, Tryd.ntmps5
  go_wp2_with (first
    | (go_at_call 7; with_reducible refine HK.out.mono ?_; rintro e w1 ⟨rfl, hbw⟩)
    | (go_at_call 23; first
      | (with_reducible refine (L1.out _).mono ?_; rintro e w2 ⟨v, rfl, hown, hb2⟩)
      | (with_reducible refine (L2.out _).mono ?_; rintro e w3 ⟨v2, rfl, hown2, hb3⟩; obtain ⟨A2, c2, rfl, hI2⟩ := Ints.of_own hown2; clear hown2))
    | (at_builtin; refine App.wpList_append_list _ rfl _ _ 23 rfl w1.heap.size 3 i0 (.int .i64 0) 1 8 Tryd.underlying23 G1.out G2.out G3.out G4.out rfl (by decide) _ _ _ rfl (Ls.own_below hown hb3) A2 lq.length c2 (lq.map (Value.int .i64)) rfl (by simp) (Ls.ints_here hI2) (Ls.ints_one' _) (by unfold maxLen; omega) (by omega) (Nat.le_trans hb2.size hb3.size) ?_))
  intro v' w' hown' hgr _ _
  have hown2 : w'.ownsRow w1.heap.size 3 1 v' (lp.length + lq.length) ((lp ++ lq).map (Value.int .i64)) := by rw [List.map_append]; exact hown'
  obtain ⟨A, c, rfl, hI⟩ := Ints.of_own hown2
  have hc : Below w.heap.size w w' := by
    refine (Base.below_step (Base.below_step hbw hb2) hb3).grown hgr (Nat.le_trans hbw.size (Nat.le_trans hb2.size hb3.size)) fun g hg => Nat.le_trans hbw.size (own_base hown g hg)
  have HI := Lib.hid hI
  have hll : lp.length + lq.length ≤ maxLen := by unfold maxLen; omega
  clear hgr hown' hown2 hI hI2 hown hb3 hb2 hbw
  generalize lp.length + lq.length = nn at *
  cases b1 <;> cases b2
  all_goals
    go_wp2_with (first
      | (go_at_call 20; first
        | (with_reducible refine (O1.out _ _ _ _ HI.out hll).mono ?_; rintro e w1 ⟨rfl, hw⟩; rw [hw]; clear hw)
        | (with_reducible refine (O0.out _).mono ?_; rintro e w1 ⟨rfl, hw⟩; rw [hw]; clear hw))
      | (go_at_call 9; first
        | (with_reducible refine (H1.out _).mono ?_; rintro e w1 ⟨rfl, hw⟩; rw [hw]; clear hw)
        | (with_reducible refine (H2.out _).mono ?_; rintro e w1 ⟨rfl, hw⟩; rw [hw]; clear hw)
        | (with_reducible refine (H3.out _).mono ?_; rintro e w1 ⟨rfl, hw⟩; rw [hw]; clear hw)
        | (with_reducible refine (H4.out _).mono ?_; rintro e w1 ⟨rfl, hw⟩; rw [hw]; clear hw)
        | (with_reducible refine (H5.out _).mono ?_; rintro e w1 ⟨rfl, hw⟩; rw [hw]; clear hw)
        | (with_reducible refine (H6.out _).mono ?_; rintro e w1 ⟨rfl, hw⟩; rw [hw]; clear hw))
      | (go_at_call 23; with_reducible refine (L0.out _).mono ?_; rintro e w2 ⟨A0, c0, rfl, hb⟩; replace hc := Base.below_step hc hb; clear hb)
      | (go_at_call 18; with_reducible refine (H7.out _).mono ?_; rintro e w1 ⟨rfl, hw⟩; rw [hw]; clear hw))
    go_ret
    exact ⟨rfl, hc⟩
end code
end Go.Proofs.YtlikkpkpbjkcoaaDoor.Qk
