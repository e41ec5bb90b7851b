/-
  Layer 5 (quirks): the walk of QuirksTell: it returns true, and writes nothing that was there.
-/
import Derived.Test.YtlikkpkpbjkcoaaDoorQuirkLaws
import Derived.Test.YtlikkpkpbjkcoaaDoorSeat
import Derived.Test.YtlikkpkpbjkcoaaDoorHelpInts
import Derived.Deep.CutBlock
import Derived.Deep.DeepCutAuto
namespace Go.Proofs.YtlikkpkpbjkcoaaDoor.Qk
open Go.RowKit Base

theorem find_of_name {x : Int} (h0 : 0 ≤ x) (h1 : x < 30) : foundAt (nameOf x) = x ∧ foundIs (nameOf x) = true := by
  have e : nameOf x = nm x.toNat := by rw [nameOf, if_pos (by simp [known]; omega)]
  obtain ⟨f1, f2⟩ := found_at (s := nameOf x) (k := x.toNat) (by omega) e.symm
  exact ⟨by rw [f1]; omega, f2⟩
theorem find_of_none {x : Int} (h : x < 0 ∨ 30 ≤ x) : foundAt (nameOf x) = 0 ∧ foundIs (nameOf x) = false := by
  have e : nameOf x = ByteArray.empty := by rw [nameOf, if_neg (by simp [known]; omega)]
  rw [e]
  exact ⟨by decide +kernel, by decide +kernel⟩

section code
set_option maxHeartbeats 8000000
set_option maxRecDepth 10000
attribute [local go_sem] Base.some_undef
theorem quirksTell_any (a k : Nat) (c : Int) (la : Option Addr) (n cap : Nat) (zs : List Int) (s : ByteArray) (x0 x1 x2 x3 x4 x5 x6 x7 : Int) (ch old : Bool) (w : World)
    (ha : a < 4294967296) (hk : k < 256) (hz : Ints w la n zs) (hn : n ≤ maxLen) (hs : s.size ≤ 140737488351232) (hT : Tab w) :
    Calls Tryd.prog 3 #[.int .u32 a, .int .u8 k, .int .i64 c, .slice la n cap, .string s, Bnd.bnd x0 x1 x2 x3 x4 x5 x6 x7 ch old] w fun e w' => e = .returned (.bool true) ∧ Below w.heap.size w w' := by
  have hT1 : Tab (w.alloc (.cells #[.int .i64 x0, .int .i64 x1, .int .i64 x2, .int .i64 x3, .int .i64 x4, .int .i64 x5, .int .i64 x6, .int .i64 x7, .bool ch, .bool old] 25)) := hT.below ((Below.refl _ _).alloc (Nat.le_refl _) _)
  have HK := Lib.hid (known_law _ hT1)
  have HZ := Lib.hid hz
  have hnm := hn
  unfold maxLen at hnm
  clear hz
  rcases (by omega : 40 < n ∨ (n ≤ 40 ∧ 20 < s.size) ∨ (n ≤ 40 ∧ s.size ≤ 20)) with h | ⟨h, h'⟩ | ⟨h, h'⟩
  · have hi : (40 : Int) < n := by omega
    go_enter Tryd.func3, Tryd.ntmps3
    go_wp2_with (go_at_call 7; with_reducible refine HK.out.mono ?_; rintro e w1 ⟨rfl, hb⟩)
    go_ret
    exact ⟨rfl, Base.below_step ((Below.refl _ _).alloc (Nat.le_refl _) _) hb⟩
  · have hi : ¬ (40 : Int) < n := by omega
    have hj : (20 : Int) < s.size := by omega
    go_enter Tryd.func3, Tryd.ntmps3
    go_wp2_with (go_at_call 7; with_reducible refine HK.out.mono ?_; rintro e w1 ⟨rfl, hb⟩)
    go_ret
    exact ⟨rfl, Base.below_step ((Below.refl _ _).alloc (Nat.le_refl _) _) hb⟩
  have hi : ¬ (40 : Int) < n := by omega
  have hj : ¬ (20 : Int) < s.size := by omega
  have HP := Lib.hid (Seat.profile_any a k ha hk)
  have hp := Seat.seatP_lt a k
  generalize Seat.seatP a k = p at *
  have HA := Lib.hid (Bnd.At.new w 25 x0 x1 x2 x3 x4 x5 x6 x7 ch old)
  have HT := Lib.hid hT1
  clear hT hT1
  have h1 : Below w.heap.size w (w.alloc (.cells #[.int .i64 x0, .int .i64 x1, .int .i64 x2, .int .i64 x3, .int .i64 x4, .int .i64 x5, .int .i64 x6, .int .i64 x7, .bool ch, .bool old] 25)) := (Below.refl _ _).alloc (Nat.le_refl _) _
  have hg : w.heap.size < (w.alloc (.cells #[.int .i64 x0, .int .i64 x1, .int .i64 x2, .int .i64 x3, .int .i64 x4, .int .i64 x5, .int .i64 x6, .int .i64 x7, .bool ch, .bool old] 25)).heap.size := by simp
  have H1 := Lib.hid h1; have HG := Lib.hid hg
  clear h1 hg
  go_enter Tryd.func3, Tryd.ntmps3
  go_wp2_with (first
    | (go_at_call 7; with_reducible refine HK.out.mono ?_; rintro e w1 ⟨rfl, hb1⟩)
    | (go_at_call 8; with_reducible refine (HP.out _).mono ?_; rintro e w2 ⟨rfl, hb2⟩))
  have hc3 := (Base.below_step (Base.below_step H1.out hb1) hb2).alloc (Base.below_step (Base.below_step H1.out hb1) hb2).size (.cells #[.int .i64 c, .int .i64 (bits BinOp.and IntKind.i64 c 31), .int .i64 ((k : Int) % 30)] 3)
  have hb3 := (Base.below_step hb1 hb2).alloc (Base.below_step hb1 hb2).size (.cells #[.int .i64 c, .int .i64 (bits BinOp.and IntKind.i64 c 31), .int .i64 ((k : Int) % 30)] 3)
  have HA3 := Lib.hid (HA.out.below HG.out hb3)
  have HG3 := Lib.hid (Nat.lt_of_lt_of_le HG.out hb3.size)
  have HT3 := Lib.hid (HT.out.below hb3)
  have HY3 := Lib.hid (Ints.three w2 _ rfl c (bits BinOp.and IntKind.i64 c 31) ((k : Int) % 30) 3)
  have HZ3 := Lib.hid (HZ.out.below hc3)
  have HC3 := Lib.hid hc3
  clear HA HG HT HZ hc3 hb3 hb1 hb2 H1 HK HP
  generalize w2.alloc (.cells #[.int .i64 c, .int .i64 (bits BinOp.and IntKind.i64 c 31), .int .i64 ((k : Int) % 30)] 3) = W at *
  generalize hgw : w.heap.size = g at *
  have HG := Lib.hid hgw
  clear hgw
  generalize w2.heap.size = g2 at *
  go_loopw [43] (fun i wr => ∃ q : Nat, q ≤ 3 ∧ i = .int .i64 q ∧ Hid (Below W.heap.size W wr)) (fun i _ => 3 - (intOf i).toNat)
  case atStart => exact ⟨0, Nat.zero_le _, rfl, Lib.hid (Below.refl _ _)⟩
  case round =>
    obtain ⟨q, hq, rfl, hbq⟩ := hrel
    rcases Nat.lt_or_ge q 3 with hlt | hge
    · have hq3 : (q : Int) < 3 := by omega
      have HAr := HA3.out.below HG3.out hbq.out
      have HGr := Nat.lt_of_lt_of_le HG3.out hbq.out.size
      have HTr := Lib.hid (HT3.out.below hbq.out)
      obtain ⟨b', o', e', _, hcs⟩ := (HY3.out.below hbq.out).2 (by decide)
      have hck := hcs q hlt
      obtain ⟨rfl, rfl⟩ : g2 = b' ∧ 0 = o' := by simpa using e'
      rw [Nat.zero_add] at hck
      clear hcs e'
      generalize ([c, bits BinOp.and IntKind.i64 c 31, (k : Int) % 30][q]?.getD 0) = x at *
      have P1 := Lib.hid (has_any p (by omega) x); have P2 := Lib.hid (rhas_any p (by omega) x)
      have A1 := Lib.hid (has_any a ha x); have A2 := Lib.hid (rhas_any a ha x)
      have N1 := Lib.hid (name_any x); have N2 := Lib.hid (rname_any x)
      have D1 := Lib.hid (needs_any x p (by omega) x0 x1 x2 x3 x4 x5 x6 x7 ch old); have D2 := Lib.hid (rneeds_any x p (by omega) x0 x1 x2 x3 x4 x5 x6 x7 ch old)
      have S0 := Lib.hid (Seat.bounds_any k hk)
      obtain ⟨bs, hbs⟩ : ∃ bs : Bool, needs x p (!decide (k % 8 = 7)) (!decide (12 < k % 16)) = bs := ⟨_, rfl⟩
      have S1 : Hid (∀ w, Calls Tryd.prog 13 #[.int .i64 x, .int .u32 p, Seat.seatB k] w fun e w' => e = .returned (.bool bs) ∧ Below w.heap.size w w') := Lib.hid (fun w => by rw [← hbs]; exact needs_any x p (by omega) _ _ _ _ _ _ _ _ _ _ w)
      have S2 : Hid (∀ w, Calls Tryd.prog 14 #[.int .i64 x, .int .u32 p, Seat.seatB k] w fun e w' => e = .returned (.bool bs) ∧ Below w.heap.size w w') := Lib.hid (fun w => by rw [← hbs]; exact rneeds_any x p (by omega) _ _ _ _ _ _ _ _ _ _ w)
      clear hbs
      obtain ⟨fx, bx, hF, hx⟩ : ∃ (fx : Int) (bx : Bool), Hid (∀ w, Tab w → Calls Tryd.prog 16 #[.string (nameOf x)] w fun e w' => e = .returned (.tuple #[.int .i64 fx, .bool bx]) ∧ w' = w) ∧ (x < 0 ∧ bx = false ∨ 0 ≤ x ∧ 30 ≤ x ∧ bx = false ∨ 0 ≤ x ∧ x < 30 ∧ bx = true ∧ fx = x) := by
        refine ⟨foundAt (nameOf x), foundIs (nameOf x), Lib.hid (fun w h => find_any _ w h), ?_⟩
        rcases (by omega : x < 0 ∨ (0 ≤ x ∧ 30 ≤ x) ∨ (0 ≤ x ∧ x < 30)) with h | ⟨h, h'⟩ | ⟨h, h'⟩
        · exact .inl ⟨h, (find_of_none (.inl h)).2⟩
        · exact .inr (.inl ⟨h, h', (find_of_none (.inr h')).2⟩)
        · exact .inr (.inr ⟨h, h', (find_of_name h h').2, (find_of_name h h').1⟩)
      generalize Seat.seatB k = SB at *
      generalize nameOf x = nx at *
      generalize has p x = b1 at *
      generalize has a x = b2 at *
      generalize needs x p ch old = b3 at *
      go_upto_region 9 with fail
      have hb := Base.below_drewN (Below.refl wr.heap.size wr) 1
      refine Sched.region [(0, false), (1, false), (3, false), (4, false), (2, true), (5, true), (6, false), (7, false), (8, false), (9, false), (11, false), (12, false), (10, true), (13, true), (14, false), (15, false), (16, false), (17, false), (19, false), (18, true), (20, true), (21, false), (22, false), (23, false), (24, false), (25, false), (26, false), (28, false), (29, false), (30, false), (27, true), (31, true), (32, false), (33, false), (34, false), (35, false), (36, false), (37, false), (40, false), (41, false), (42, false), (38, true), (39, true), (43, true), (44, true), (45, false), (46, false)] (fun w' => Below wr.heap.size wr w') (by kernel_rfl) (by kernel_rfl) (fun _ _ d _ _ h => by cases d <;> exact h) hb ?_
      simp only [Sched.picked, List.filterMap_cons, List.filterMap_nil, List.getElem?_cons_zero, List.getElem?_cons_succ, Option.map_some]
      repeat (first
        | (refine Sched.skip rfl ?_; simp only [Act.put, List.setIfInBounds_toArray, List.set_cons_zero, List.set_cons_succ])
        | (refine Sched.move _ rfl rfl ?_; simp only [Act.put, Act.eval, Array.getD_eq_getD_getElem?, List.getElem?_toArray, List.getElem?_cons_zero, List.getElem?_cons_succ, Option.getD_some, List.setIfInBounds_toArray, List.set_cons_zero, List.set_cons_succ])
        | (refine Sched.quiet rfl ?_ ?_ ?_; rotate_left 1; (· (intro w' hS; obtain ⟨q0, q1, q2, q3, q4, q5, q6, q7, q8, q9⟩ := HAr.below HGr hS; clear hS; go_simp; with_reducible rfl)); simp only [Act.put, List.setIfInBounds_toArray, List.set_cons_zero, List.set_cons_succ])
        | (refine Sched.change rfl (fun K hK => ?_); go_simp
           first
             | ((with_reducible refine (P1.out _).mono ?_); rintro e w5 ⟨rfl, hw⟩; rw [hw]; dsimp only; refine hK _ _ hb ?_; clear hK K hw)
             | ((with_reducible refine (P2.out _).mono ?_); rintro e w5 ⟨rfl, hw⟩; rw [hw]; dsimp only; refine hK _ _ hb ?_; clear hK K hw)
             | ((with_reducible refine (A1.out _).mono ?_); rintro e w5 ⟨rfl, hw⟩; rw [hw]; dsimp only; refine hK _ _ hb ?_; clear hK K hw)
             | ((with_reducible refine (A2.out _).mono ?_); rintro e w5 ⟨rfl, hw⟩; rw [hw]; dsimp only; refine hK _ _ hb ?_; clear hK K hw)
             | ((with_reducible refine (N1.out _ (HTr.out.below hb)).mono ?_); rintro e w5 ⟨rfl, hw⟩; rw [hw]; dsimp only; refine hK _ _ hb ?_; clear hK K hw)
             | ((with_reducible refine (N2.out _).mono ?_); rintro e w5 ⟨rfl, hb5⟩; replace hb := Base.below_step hb hb5; dsimp only; refine hK _ _ hb ?_; clear hK K hb5)
             | ((with_reducible refine (D1.out _).mono ?_); rintro e w6 ⟨rfl, hb5⟩; replace hb := Base.below_step hb hb5; dsimp only; refine hK _ _ hb ?_; clear hK K hb5)
             | ((with_reducible refine (D2.out _).mono ?_); rintro e w6 ⟨rfl, hb5⟩; replace hb := Base.below_step hb hb5; dsimp only; refine hK _ _ hb ?_; clear hK K hb5)
             | ((with_reducible refine (S0.out _).mono ?_); rintro e w6 ⟨rfl, hb5⟩; replace hb := Base.below_step hb hb5; dsimp only; refine hK _ _ hb ?_; clear hK K hb5)
             | ((with_reducible refine (S1.out _).mono ?_); rintro e w6 ⟨rfl, hb5⟩; replace hb := Base.below_step hb hb5; dsimp only; refine hK _ _ hb ?_; clear hK K hb5)
             | ((with_reducible refine (S2.out _).mono ?_); rintro e w6 ⟨rfl, hb5⟩; replace hb := Base.below_step hb hb5; dsimp only; refine hK _ _ hb ?_; clear hK K hb5)))
      refine Sched.done ?_
      have HTe := Lib.hid (HTr.out.below hb)
      have HBe := Lib.hid (hbq.out.trans (hb.mono hbq.out.size))
      clear hb HAr hck hbq
      rcases hx with ⟨z0, rfl⟩ | ⟨z0, z1, rfl⟩ | ⟨z0, z1, rfl, rfl⟩
      all_goals
        go_wp2_with (first
          | (go_at_call 11; with_reducible refine (N1.out _ HTe.out).mono ?_; rintro e w7 ⟨rfl, hw⟩; rw [hw]; clear hw)
          | (go_at_call 16; with_reducible refine (hF.out _ HTe.out).mono ?_; rintro e w7 ⟨rfl, hw⟩; rw [hw]; clear hw))
        go_roundw
        case rel => exact ⟨q + 1, by omega, by go_num, HBe⟩
        case measure => simp [intOf]; omega
    · obtain rfl : q = 3 := by omega
      have F1 := Lib.hid (find_any s wr (HT3.out.below hbq.out)); have F2 := Lib.hid (rfind_any s wr)
      have R1 := Lib.hid (right_any a ha); have R2 := Lib.hid (rright_any a ha)
      have O1 := Lib.hid (of_any la n cap zs); have O2 := Lib.hid (rof_any la n cap zs)
      obtain ⟨m, hm, hml⟩ : ∃ m, (upTo p 30).length = m ∧ m ≤ maxLen := ⟨_, rfl, Nat.le_trans (upTo_le p 30) (by decide)⟩
      have L1 : Hid (∀ w, Calls Tryd.prog 23 #[.int .u32 p] w fun e w' => ∃ A c, e = .returned (.slice A m c) ∧ Ints w' A m (upTo p 30) ∧ Below w.heap.size w w') := Lib.hid (fun w => (list_any p (by omega) w).mono (by
        rintro e w' ⟨v, rfl, ho, hb⟩
        obtain ⟨A, c, rfl, hA⟩ := Ints.of_own ho
        exact ⟨A, c, by rw [hm], hm ▸ hA, hb⟩))
      have L2 : Hid (∀ w, Calls Tryd.prog 24 #[.int .u32 p] w fun e w' => ∃ A c, e = .returned (.slice A m c) ∧ Ints w' A m (upTo p 30) ∧ Below w.heap.size w w') := Lib.hid (fun w => (rlist_any p (by omega) w).mono (by
        rintro e w' ⟨v, rfl, ho, hb⟩
        obtain ⟨A, c, rfl, hA⟩ := Ints.of_own ho
        exact ⟨A, c, by rw [hm], hm ▸ hA, hb⟩))
      have I1 : Hid (∀ A c B c2 w, Ints w A m (upTo p 30) → Ints w B m (upTo p 30) → Calls Tryd.prog 22 #[.slice A m c, .slice B m c2] w fun e w' => e = .returned (.bool true) ∧ ∃ q, w' = w.drewN q) := Lib.hid (fun A c B c2 w h1 h2 => by
        have := Help.ints_any A m c _ B m c2 _ w h1 h2 hml
        rwa [decide_eq_true rfl] at this)
      have O3 : Hid (∀ A c w, Ints w A m (upTo p 30) → Calls Tryd.prog 20 #[.slice A m c] w fun e w' => e = .returned (.int .u32 p) ∧ w' = w) := Lib.hid (fun A c w h => by
        have := of_any A m c _ w h hml
        rwa [ofL_upTo p hp] at this)
      generalize upTo p 30 = lp at *
      generalize foundAt s = f1 at *
      generalize foundIs s = f2 at *
      generalize decide (a < 1073741824) = r1 at *
      generalize ofL zs = oz at *
      clear hm
      have hb := hbq.out
      go_wp2_with (first
        | (go_at_call 16; with_reducible refine F1.out.mono ?_; rintro e w7 ⟨rfl, hw⟩; rw [hw]; clear hw)
        | (go_at_call 17; with_reducible refine F2.out.mono ?_; rintro e w8 ⟨rfl, hb8⟩; replace hb := Base.below_step hb hb8; clear hb8)
        | (go_at_call 18; with_reducible refine (R1.out _).mono ?_; rintro e w7 ⟨rfl, hw⟩; rw [hw]; clear hw)
        | (go_at_call 19; with_reducible refine (R2.out _).mono ?_; rintro e w7 ⟨rfl, hw⟩; rw [hw]; clear hw)
        | (go_at_call 20; first
          | (with_reducible refine (O1.out _ (HZ3.out.below hb) hn).mono ?_; rintro e w7 ⟨rfl, hw⟩; rw [hw]; clear hw)
          | (with_reducible refine (O3.out _ _ _ hI3).mono ?_; rintro e w7 ⟨rfl, hw⟩; rw [hw]; clear hw))
        | (go_at_call 21; with_reducible refine (O2.out _ (HZ3.out.below hb) hn).mono ?_; rintro e w7 ⟨rfl, hw⟩; rw [hw]; clear hw)
        | (go_at_call 22; with_reducible refine (I1.out _ _ _ _ _ hI1 hI2).mono ?_; rintro e w11 ⟨rfl, nq, hw⟩; rw [hw]; clear hw; replace hb := Base.below_drewN hb nq)
        | (go_at_call 24; with_reducible refine (L2.out _).mono ?_; rintro e w10 ⟨A2, d2, rfl, hI2, hb10⟩; replace hb := Base.below_step hb hb10; replace hI1 := hI1.below hb10; clear hb10)
        | (go_at_call 23; with_reducible refine (L1.out _).mono ?_; first
          | (clear hI1 hI2; rintro e w12 ⟨A3, d3, rfl, hI3, hb10⟩; replace hb := Base.below_step hb hb10; clear hb10)
          | (rintro e w9 ⟨A1, d1, rfl, hI1, hb10⟩; replace hb := Base.below_step hb hb10; clear hb10)))
      go_ret
      obtain rfl := HG.out
      exact ⟨rfl, HC3.out.trans (hb.mono HC3.out.size)⟩
end code
end Go.Proofs.YtlikkpkpbjkcoaaDoor.Qk
