/-
  Layer 5 (quirks): the walks of known, QuirksNeed, QuirksSets: each returns true, and writes nothing that was there.
-/
import Derived.Test.YtlikkpkpbjkcoaaDoorQuirkFind
import Derived.Test.YtlikkpkpbjkcoaaDoorAppend
namespace Go.Proofs.YtlikkpkpbjkcoaaDoor.Qk
open Go.RowKit Base

theorem mask30 (a : Nat) (ha : a < 4294967296) : bits .and .u32 (a : Int) 1073741823 = ((a % 1073741824 : Nat) : Int) := by
  rw [show (1073741823 : Int) = ((1073741823 : Nat) : Int) from rfl, u32_and_nat a _ ha (by decide)]
  exact congrArg _ (Nat.and_two_pow_sub_one_eq_mod a 30)
theorem bit_one (p : Nat) (hp : p < 1073741824) (n : Nat) (hn : n < 30) : (bits BinOp.and IntKind.u32 ((p : Int) / 2 ^ n) 1 == 1) = has p n := by
  rw [Bool.eq_iff_iff, shr_bit p (by omega) n, has, show known (n : Int) = true from by simp [known]; omega, Bool.true_and, Int.toNat_natCast]
theorem bit_nought (p : Nat) (hp : p < 1073741824) (n : Nat) (hn : n < 30) : (bits BinOp.and IntKind.u32 ((p : Int) / 2 ^ n) 1 == 0) = !has p n := by
  rw [← bit_one p hp n hn]
  have h : ((p : Int) / 2 ^ n) = ((p / 2 ^ n : Nat) : Int) := by rw [Int.natCast_ediv, Int.natCast_pow]; rfl
  have h1 : p / 2 ^ n < 4294967296 := Nat.lt_of_le_of_lt (Nat.div_le_self _ _) (by omega)
  rw [h, show (1 : Int) = ((1 : Nat) : Int) from rfl, u32_and_nat _ 1 h1 (by decide), Nat.and_one_is_mod]
  have h2 : p / 2 ^ n % 2 = 0 ∨ p / 2 ^ n % 2 = 1 := by omega
  rcases h2 with h2 | h2 <;> rw [h2] <;> rfl

section code
set_option maxHeartbeats 2000000
set_option maxRecDepth 10000
attribute [local go_sem] Base.some_undef
theorem known_law (w : World) (hT : Tab w) : Calls Tryd.prog 7 #[] w fun e w' => e = .returned (.bool true) ∧ Below w.heap.size w w' := by
  have F1 : Hid (∀ w, Tab w → Calls Tryd.prog 16 #[.string ⟨#[99, 104, 117, 110, 107, 101, 110, 100]⟩] w fun e w' => e = .returned (.tuple #[.int .i64 29, .bool true]) ∧ w' = w) := Lib.hid (fun w h => by
    have := find_any ⟨#[99, 104, 117, 110, 107, 101, 110, 100]⟩ w h
    rwa [show foundAt ⟨#[99, 104, 117, 110, 107, 101, 110, 100]⟩ = 29 from by decide +kernel, show foundIs ⟨#[99, 104, 117, 110, 107, 101, 110, 100]⟩ = true from by decide +kernel] at this)
  have F2 : Hid (∀ w, Tab w → Calls Tryd.prog 16 #[.string ⟨#[120]⟩] w fun e w' => e = .returned (.tuple #[.int .i64 0, .bool false]) ∧ w' = w) := Lib.hid (fun w h => by
    have := find_any ⟨#[120]⟩ w h
    rwa [show foundAt ⟨#[120]⟩ = 0 from by decide +kernel, show foundIs ⟨#[120]⟩ = false from by decide +kernel] at this)
  have F3 : Hid (∀ w, Tab w → Calls Tryd.prog 11 #[.int .i64 0] w fun e w' => e = .returned (.string ⟨#[101, 109, 112, 116, 121]⟩) ∧ w' = w) := Lib.hid (fun w h => name_any 0 w h)
  have F4 : Hid (∀ (g : Nat) w, Ints w (some ⟨g, 0, none⟩) 3 [0, 2, 99] → Calls Tryd.prog 20 #[.slice (some ⟨g, 0, none⟩) 3 3] w fun e w' => e = .returned (.int .u32 5) ∧ w' = w) := Lib.hid (fun g w h => of_any _ 3 3 [0, 2, 99] w h (by decide))
  have F5 : Hid (∀ w, Calls Tryd.prog 9 #[.int .u32 5, .int .i64 2] w fun e w' => e = .returned (.bool true) ∧ w' = w) := Lib.hid (fun w => has_any 5 (by decide) 2 w)
  have F6 : Hid (∀ w, Calls Tryd.prog 23 #[.int .u32 5] w fun e w' => ∃ A c, e = .returned (.slice A 2 c) ∧ Below w.heap.size w w') := Lib.hid (fun w => (list_any 5 (by decide) w).mono (by
    rintro e w' ⟨v, rfl, ho, hb⟩
    obtain ⟨A, c, rfl, hA⟩ := Ints.of_own ho
    exact ⟨A, c, by rw [show (upTo 5 30).length = 2 from by decide +kernel], hb⟩))
  have F7 : Hid (∀ w, Calls Tryd.prog 18 #[.int .u32 1073741823] w fun e w' => e = .returned (.bool true) ∧ w' = w) := Lib.hid (fun w => right_any 1073741823 (by decide) w)
  have F8 : Hid (∀ w, Calls Tryd.prog 18 #[.int .u32 1073741824] w fun e w' => e = .returned (.bool false) ∧ w' = w) := Lib.hid (fun w => right_any 1073741824 (by decide) w)
  have F9 : Hid (∀ w, Calls Tryd.prog 13 #[.int .i64 0, .int .u32 1, Bnd.bnd 0 0 0 0 0 0 0 0 false false] w fun e w' => e = .returned (.bool true) ∧ Below w.heap.size w w') := Lib.hid (fun w => needs_any 0 1 (by decide) 0 0 0 0 0 0 0 0 false false w)
  have F10 : Hid (∀ w, Calls Tryd.prog 13 #[.int .i64 17, .int .u32 0, Bnd.bnd 0 0 0 0 0 0 0 0 false false] w fun e w' => e = .returned (.bool false) ∧ Below w.heap.size w w') := Lib.hid (fun w => needs_any 17 0 (by decide) 0 0 0 0 0 0 0 0 false false w)
  have hc := Below.refl w.heap.size w
  have HT := Lib.hid hT
  clear hT
  go_enter Tryd.func7, Tryd.ntmps7
  go_wp2_with (first
    | (go_at_call 16; first
      | (with_reducible refine (F1.out _ HT.out).mono ?_; rintro e w1 ⟨rfl, hw⟩; rw [hw]; clear hw)
      | (with_reducible refine (F2.out _ HT.out).mono ?_; rintro e w1 ⟨rfl, hw⟩; rw [hw]; clear hw))
    | (go_at_call 11; with_reducible refine (F3.out _ HT.out).mono ?_; rintro e w1 ⟨rfl, hw⟩; rw [hw]; clear hw)
    | (go_at_call 20; with_reducible refine (F4.out _ _ (Ints.three _ _ rfl _ _ _ _)).mono ?_; rintro e w1 ⟨rfl, hw⟩; rw [hw]; clear hw; replace hc := hc.alloc hc.size (.cells #[.int .i64 0, .int .i64 2, .int .i64 99] 3))
    | (go_at_call 9; with_reducible refine (F5.out _).mono ?_; rintro e w1 ⟨rfl, hw⟩; rw [hw]; clear hw)
    | (go_at_call 23; with_reducible refine (F6.out _).mono ?_; rintro e w2 ⟨A, c, rfl, hb⟩; replace hc := Base.below_step hc hb; clear hb)
    | (go_at_call 18; first
      | (with_reducible refine (F7.out _).mono ?_; rintro e w1 ⟨rfl, hw⟩; rw [hw]; clear hw)
      | (with_reducible refine (F8.out _).mono ?_; rintro e w1 ⟨rfl, hw⟩; rw [hw]; clear hw))
    | (go_at_call 13; first
      | (with_reducible refine (F9.out _).mono ?_; rintro e w3 ⟨rfl, hb⟩; replace hc := Base.below_step hc hb; clear hb)
      | (with_reducible refine (F10.out _).mono ?_; rintro e w4 ⟨rfl, hb⟩; replace hc := Base.below_step hc hb; clear hb)))
  go_ret
  exact ⟨rfl, hc⟩

theorem quirksNeed_any (c a : Nat) (ch old : Bool) (hc : c < 256) (ha : a < 4294967296) (w : World) (hT : Tab w) : Calls Tryd.prog 6 #[.int .u8 c, .int .u32 a, .bool ch, .bool old] w fun e w' => e = .returned (.bool true) ∧ Below w.heap.size w w' := by
  have hm := mask30 a ha
  have hp : a % 1073741824 < 1073741824 := Nat.mod_lt _ (by decide)
  generalize a % 1073741824 = p at *
  have HK := Lib.hid (known_law w hT)
  have NK := Lib.hid (fun K : Int => needs_any K p (by omega) 0 0 0 0 0 0 0 0 ch old)
  have e14 : (bits BinOp.and IntKind.u32 ((p : Int) / 16384) 1 == 1) = has p 14 := by have := bit_one p hp 14 (by decide); rwa [show (2 : Int) ^ 14 = 16384 from by decide] at this
  have e19 : (bits BinOp.and IntKind.u32 ((p : Int) / 524288) 1 == 1) = has p 19 := by have := bit_one p hp 19 (by decide); rwa [show (2 : Int) ^ 19 = 524288 from by decide] at this
  have e22 : (bits BinOp.and IntKind.u32 ((p : Int) / 4194304) 1 == 1) = has p 22 := by have := bit_one p hp 22 (by decide); rwa [show (2 : Int) ^ 22 = 4194304 from by decide] at this
  have f21 : (bits BinOp.and IntKind.u32 ((p : Int) / 2097152) 1 == 0) = !has p 21 := by have := bit_nought p hp 21 (by decide); rwa [show (2 : Int) ^ 21 = 2097152 from by decide] at this
  have f25 : (bits BinOp.and IntKind.u32 ((p : Int) / 33554432) 1 == 0) = !has p 25 := by have := bit_nought p hp 25 (by decide); rwa [show (2 : Int) ^ 25 = 33554432 from by decide] at this
  have N1 : Hid (∀ w, Calls Tryd.prog 13 #[.int .i64 (-1), .int .u32 p, Bnd.bnd 0 0 0 0 0 0 0 0 ch old] w fun e w' => e = .returned (.bool false) ∧ Below w.heap.size w w') := Lib.hid (NK.out (-1))
  have N2 : Hid (∀ w, Calls Tryd.prog 13 #[.int .i64 30, .int .u32 p, Bnd.bnd 0 0 0 0 0 0 0 0 ch old] w fun e w' => e = .returned (.bool false) ∧ Below w.heap.size w w') := Lib.hid (NK.out 30)
  have HV : ∀ b : Bool, ∀ K : Int, needs K p ch old = b → Hid (∀ w, Calls Tryd.prog 13 #[.int .i64 K, .int .u32 p, Bnd.bnd 0 0 0 0 0 0 0 0 ch old] w fun e w' => e = .returned (.bool b) ∧ Below w.heap.size w w') := fun b K h => Lib.hid (by rw [← h]; exact NK.out K)
  have hs : (c : Int) % 30 < 30 := by omega
  have h0 : 0 ≤ (c : Int) % 30 := by omega
  have hV : ∃ b : Bool, needs ((c : Int) % 30) p ch old = b := ⟨_, rfl⟩
  rcases (by omega : (c : Int) % 30 = 6 ∨ (c : Int) % 30 = 17 ∨ (c : Int) % 30 = 18 ∨ (c : Int) % 30 = 21 ∨ (c : Int) % 30 = 27 ∨ (c : Int) % 30 = 28 ∨ (c : Int) % 30 = 29 ∨ (c : Int) % 30 = 22 ∨ (c : Int) % 30 = 26 ∨ (c : Int) % 30 = 20 ∨
    ((c : Int) % 30 ≠ 6 ∧ (c : Int) % 30 ≠ 17 ∧ (c : Int) % 30 ≠ 18 ∧ (c : Int) % 30 ≠ 21 ∧ (c : Int) % 30 ≠ 27 ∧ (c : Int) % 30 ≠ 28 ∧ (c : Int) % 30 ≠ 29 ∧ (c : Int) % 30 ≠ 22 ∧ (c : Int) % 30 ≠ 26 ∧ (c : Int) % 30 ≠ 20))
    with h | h | h | h | h | h | h | h | h | h | ⟨n0, n1, n2, n3, n4, n5, n6, n7, n8, n9⟩
  rotate_right 2
  · have HX := HV _ 20 rfl
    clear hV NK HV
    unfold needs at HX
    simp only [Int.reduceEq, if_false, if_true, or_self] at HX
    generalize has p 14 = b14 at *
    generalize has p 19 = b19 at *
    generalize has p 22 = b22 at *
    generalize has p 21 = b21 at *
    generalize has p 25 = b25 at *
    cases old; rotate_left 1; cases ch; cases b19; cases b22; rotate_left 1; cases b21
    all_goals
      go_enter Tryd.func6, Tryd.ntmps6
      go_wp2_with (first
        | (go_at_call 7; with_reducible refine HK.out.mono ?_; rintro e w1 ⟨rfl, hbw⟩)
        | (go_at_call 13; first
          | (with_reducible refine (HX.out _).mono ?_; rintro e w3 ⟨rfl, hb⟩; have hA := (Bnd.At.new w1 25 0 0 0 0 0 0 0 0 _ _).below (by simp) hb; have hg : w1.heap.size < w3.heap.size := Nat.lt_of_lt_of_le (by simp) hb.size; have hc := Base.below_step (hbw.alloc hbw.size _) hb; clear hb; obtain ⟨q0, q1, q2, q3, q4, q5, q6, q7, q8, q9⟩ := hA)
          | (with_reducible refine (N1.out _).mono ?_; rintro e w4 ⟨rfl, hb⟩; have hA := (Bnd.At.mk q0 q1 q2 q3 q4 q5 q6 q7 q8 q9).below hg hb; replace hc := Base.below_step hc hb; clear hb hg q0 q1 q2 q3 q4 q5 q6 q7 q8 q9; obtain ⟨q0, q1, q2, q3, q4, q5, q6, q7, q8, q9⟩ := hA)
          | (with_reducible refine (N2.out _).mono ?_; rintro e w5 ⟨rfl, hb⟩; replace hc := Base.below_step hc hb)))
      go_ret
      exact ⟨rfl, hc⟩
  · have HX := HV true ((c : Int) % 30) (by simp [needs, *, known])
    clear hV NK HV e14 e19 e22 f21 f25
    go_enter Tryd.func6, Tryd.ntmps6
    go_wp2_with (first
      | (go_at_call 7; with_reducible refine HK.out.mono ?_; rintro e w1 ⟨rfl, hbw⟩)
      | (go_at_call 13; first
        | (with_reducible refine (HX.out _).mono ?_; rintro e w3 ⟨rfl, hb⟩; have hA := (Bnd.At.new w1 25 0 0 0 0 0 0 0 0 _ _).below (by simp) hb; have hg : w1.heap.size < w3.heap.size := Nat.lt_of_lt_of_le (by simp) hb.size; have hc := Base.below_step (hbw.alloc hbw.size _) hb; clear hb; obtain ⟨q0, q1, q2, q3, q4, q5, q6, q7, q8, q9⟩ := hA)
        | (with_reducible refine (N1.out _).mono ?_; rintro e w4 ⟨rfl, hb⟩; have hA := (Bnd.At.mk q0 q1 q2 q3 q4 q5 q6 q7 q8 q9).below hg hb; replace hc := Base.below_step hc hb; clear hb hg q0 q1 q2 q3 q4 q5 q6 q7 q8 q9; obtain ⟨q0, q1, q2, q3, q4, q5, q6, q7, q8, q9⟩ := hA)
        | (with_reducible refine (N2.out _).mono ?_; rintro e w5 ⟨rfl, hb⟩; replace hc := Base.below_step hc hb)))
    go_ret
    exact ⟨rfl, hc⟩
  all_goals
    obtain ⟨b, hb0⟩ := hV
    rw [h] at hb0
    have HX := HV _ _ hb0
    obtain rfl := hb0
    unfold needs at HX
    simp only [Int.reduceEq, if_false, if_true, or_false, or_true, or_self] at HX
    clear NK HV
    generalize has p 14 = b14 at *
    generalize has p 19 = b19 at *
    generalize has p 22 = b22 at *
    generalize has p 21 = b21 at *
    generalize has p 25 = b25 at *
    go_enter Tryd.func6, Tryd.ntmps6
    go_wp2_with (first
      | (go_at_call 7; with_reducible refine HK.out.mono ?_; rintro e w1 ⟨rfl, hbw⟩)
      | (go_at_call 13; first
        | (with_reducible refine (HX.out _).mono ?_; rintro e w3 ⟨rfl, hb⟩; have hA := (Bnd.At.new w1 25 0 0 0 0 0 0 0 0 _ _).below (by simp) hb; have hg : w1.heap.size < w3.heap.size := Nat.lt_of_lt_of_le (by simp) hb.size; have hc := Base.below_step (hbw.alloc hbw.size _) hb; clear hb; obtain ⟨q0, q1, q2, q3, q4, q5, q6, q7, q8, q9⟩ := hA)
        | (with_reducible refine (N1.out _).mono ?_; rintro e w4 ⟨rfl, hb⟩; have hA := (Bnd.At.mk q0 q1 q2 q3 q4 q5 q6 q7 q8 q9).below hg hb; replace hc := Base.below_step hc hb; clear hb hg q0 q1 q2 q3 q4 q5 q6 q7 q8 q9; obtain ⟨q0, q1, q2, q3, q4, q5, q6, q7, q8, q9⟩ := hA)
        | (with_reducible refine (N2.out _).mono ?_; rintro e w5 ⟨rfl, hb⟩; replace hc := Base.below_step hc hb)))
    go_ret
    exact ⟨rfl, hc⟩
end code
end Go.Proofs.YtlikkpkpbjkcoaaDoor.Qk
