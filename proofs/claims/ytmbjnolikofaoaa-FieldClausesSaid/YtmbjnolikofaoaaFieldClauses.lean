/-
  Layer 9 (field): the walk of FieldClauses: it returns true, and writes nothing that was there. (Printed by tools/gen_fclauses.py.)
-/
import Derived.Test.YtmbjnolikofaoaaFieldKnown
namespace Go.Proofs.Ytmbjnolikofaoaa.Fd
open Go.RowKit Base Txt Tgt

theorem has_and (A M : Nat) (j : Int) : Qk.has (A &&& M) j = (Qk.has A j && Qk.has M j) := by
  unfold Qk.has
  rw [Nat.testBit_and]
  cases Qk.known j <;> cases A.testBit j.toNat <;> cases M.testBit j.toNat <;> rfl
theorem has_or (A M : Nat) (j : Int) : Qk.has (A ||| M) j = (Qk.has A j || Qk.has M j) := by
  unfold Qk.has
  rw [Nat.testBit_or]
  cases Qk.known j <;> cases A.testBit j.toNat <;> cases M.testBit j.toNat <;> rfl
theorem parse_known (s : ByteArray) (p : Nat) (hp : p < 4294967296) (w : World) (hs : s.size ≤ 1000000000) (r : Ans) (h : parse (clOf p) s.data.toList = r) : Calls Try.prog 13 #[.string s, .int .u32 (p : Nat)] w fun e w' => e = .returned (rv r) ∧ Below w.heap.size w w' := by
  rw [← h]; exact parse_any s p hp w hs
theorem case9 : ∀ b2 b3 b4 : Bool, parse ⟨false, false, b2, b3, b4⟩ [65, 32, 9, 58, 32, 98] = none ∧ parse ⟨true, false, b2, b3, b4⟩ [65, 32, 9, 58, 32, 98] = some (some ([65], [98])) := by decide +kernel
theorem case10 : ∀ b0 b2 b3 b4 : Bool, parse ⟨b0, false, b2, b3, b4⟩ [40, 65, 58, 32, 98] = none ∧ parse ⟨b0, true, b2, b3, b4⟩ [40, 65, 58, 32, 98] = some (some ([40, 65], [98])) := by decide +kernel
theorem case11 : ∀ b0 b1 b3 b4 : Bool, parse ⟨b0, b1, false, b3, b4⟩ [65, 32, 98] = none ∧ parse ⟨b0, b1, true, b3, b4⟩ [65, 32, 98] = some none := by decide +kernel
theorem case12 : ∀ b0 b1 b2 b4 : Bool, parse ⟨b0, b1, b2, false, b4⟩ [58, 32, 98] = none ∧ parse ⟨b0, b1, b2, true, b4⟩ [58, 32, 98] = some none := by decide +kernel
theorem case14 : ∀ b0 b1 b2 b3 : Bool, parse ⟨b0, b1, b2, b3, false⟩ [65, 58, 32, 98, 1] = none ∧ parse ⟨b0, b1, b2, b3, true⟩ [65, 58, 32, 98, 1] = some (some ([65], [98, 1])) := by decide +kernel

section code
set_option maxHeartbeats 2000000
attribute [local go_sem] Base.some_undef
set_option maxRecDepth 10000 in
theorem clauses0 (c : Int) (A a : Nat) (w : World) (hcm : c.tmod 5 = 0) (hm : bits .and .u32 (a : Int) 1073741823 = (A : Int)) (hA : A < 1073741824) :
    Calls Try.prog 5 #[.int .u8 c, .int .u32 a] w fun e w' => e = .returned (.bool true) ∧ Below w.heap.size w w' := by
  obtain ⟨r0, r1⟩ := case9 (Qk.has A 11) (Qk.has A 12) (Qk.has A 14)
  have e1 : clOf ((A &&& 4294966783) &&& 4294966271) = ⟨false, false, Qk.has A 11, Qk.has A 12, Qk.has A 14⟩ := by
    simp only [clOf, has_and, show Qk.has 4294966783 9 = false from by decide +kernel, show Qk.has 4294966783 10 = true from by decide +kernel, show Qk.has 4294966783 11 = true from by decide +kernel, show Qk.has 4294966783 12 = true from by decide +kernel, show Qk.has 4294966783 14 = true from by decide +kernel, show Qk.has 4294966271 9 = true from by decide +kernel, show Qk.has 4294966271 10 = false from by decide +kernel, show Qk.has 4294966271 11 = true from by decide +kernel, show Qk.has 4294966271 12 = true from by decide +kernel, show Qk.has 4294966271 14 = true from by decide +kernel, Bool.and_true, Bool.and_false]
  have e2 : clOf (((A &&& 4294966783) &&& 4294966271) ||| 512) = ⟨true, false, Qk.has A 11, Qk.has A 12, Qk.has A 14⟩ := by
    simp only [clOf, has_or, has_and, show Qk.has 4294966783 9 = false from by decide +kernel, show Qk.has 4294966783 10 = true from by decide +kernel, show Qk.has 4294966783 11 = true from by decide +kernel, show Qk.has 4294966783 12 = true from by decide +kernel, show Qk.has 4294966783 14 = true from by decide +kernel, show Qk.has 4294966271 9 = true from by decide +kernel, show Qk.has 4294966271 10 = false from by decide +kernel, show Qk.has 4294966271 11 = true from by decide +kernel, show Qk.has 4294966271 12 = true from by decide +kernel, show Qk.has 4294966271 14 = true from by decide +kernel, show Qk.has 512 9 = true from by decide +kernel, show Qk.has 512 10 = false from by decide +kernel, show Qk.has 512 11 = false from by decide +kernel, show Qk.has 512 12 = false from by decide +kernel, show Qk.has 512 14 = false from by decide +kernel, Bool.and_true, Bool.and_false, Bool.or_true, Bool.or_false]
  rw [← e1] at r0
  rw [← e2] at r1
  clear e1 e2
  have hP0 : A &&& 4294966783 < 4294967296 := Nat.lt_of_le_of_lt Nat.and_le_left (by omega)
  have hP : (A &&& 4294966783) &&& 4294966271 < 4294967296 := Nat.lt_of_le_of_lt Nat.and_le_left hP0
  have hQ : ((A &&& 4294966783) &&& 4294966271) ||| 512 < 4294967296 := Nat.or_lt_two_pow (n := 32) hP (by decide)
  have N1 : bits .andNot .u32 (A : Int) 512 = ((A &&& 4294966783 : Nat) : Int) := u32_andNot_nat A 512 (by omega) (by decide)
  have N3 : bits .andNot .u32 ((A &&& 4294966783 : Nat) : Int) 1024 = (((A &&& 4294966783) &&& 4294966271 : Nat) : Int) := u32_andNot_nat (A &&& 4294966783) 1024 hP0 (by decide)
  have N2 : bits .or .u32 (((A &&& 4294966783) &&& 4294966271 : Nat) : Int) 512 = ((((A &&& 4294966783) &&& 4294966271) ||| 512 : Nat) : Int) := u32_or_nat ((A &&& 4294966783) &&& 4294966271) 512 hP (by decide)
  have K1 : Hid (∀ w, Calls Try.prog 13 #[.string ⟨#[65, 32, 9, 58, 32, 98]⟩, .int .u32 (((A &&& 4294966783) &&& 4294966271 : Nat) : Int)] w fun e w' => e = .returned (.tuple #[fv E0 E0, .bool false, .int .i64 400]) ∧ Below w.heap.size w w') :=
    Lib.hid fun w => parse_known ⟨#[65, 32, 9, 58, 32, 98]⟩ ((A &&& 4294966783) &&& 4294966271) hP w (by decide) _ r0
  have K2 : Hid (∀ w, Calls Try.prog 13 #[.string ⟨#[65, 32, 9, 58, 32, 98]⟩, .int .u32 ((((A &&& 4294966783) &&& 4294966271) ||| 512 : Nat) : Int)] w fun e w' => e = .returned (.tuple #[fv ⟨#[65]⟩ ⟨#[98]⟩, .bool true, .int .i64 0]) ∧ Below w.heap.size w w') :=
    Lib.hid fun w => parse_known ⟨#[65, 32, 9, 58, 32, 98]⟩ (((A &&& 4294966783) &&& 4294966271) ||| 512) hQ w (by decide) _ r1
  clear r0 r1 hP hQ hP0
  generalize ((A &&& 4294966783) &&& 4294966271) ||| 512 = Q at *
  generalize (A &&& 4294966783) &&& 4294966271 = P at *
  generalize A &&& 4294966783 = P0 at *
  have hwr : IntKind.u32.wrap 512 = 512 := by decide
  go_enter Try.func5, Try.ntmps5
  go_wp2_with (first
    | (go_at_call 7; with_reducible refine (known_any _).mono ?_; rintro e w1 ⟨rfl, hb⟩; have hc := hb; clear hb)
    | (go_at_call 13; with_reducible refine (K1.out _).mono ?_; rintro e w3 ⟨rfl, hb⟩
       have HB := Lib.hid (Base.below_step ((hc.alloc hc.size _).alloc (Nat.le_trans hc.size (by simp)) _) hb)
       clear hb hc)
    | (go_at_call 13; with_reducible refine (K2.out _).mono ?_; rintro e w4 ⟨rfl, hb⟩
       replace HB := Lib.hid (Base.below_step (HB.out.alloc HB.out.size _) hb)
       clear hb))
  go_ret
  exact ⟨rfl, by first | exact HB.out | exact HB.out.alloc HB.out.size _⟩
set_option maxRecDepth 10000 in
theorem clauses1 (c : Int) (A a : Nat) (w : World) (hcm : c.tmod 5 = 1) (hm : bits .and .u32 (a : Int) 1073741823 = (A : Int)) (hA : A < 1073741824) :
    Calls Try.prog 5 #[.int .u8 c, .int .u32 a] w fun e w' => e = .returned (.bool true) ∧ Below w.heap.size w w' := by
  obtain ⟨r0, r1⟩ := case10 (Qk.has A 9) (Qk.has A 11) (Qk.has A 12) (Qk.has A 14)
  have e1 : clOf (A &&& 4294966271) = ⟨Qk.has A 9, false, Qk.has A 11, Qk.has A 12, Qk.has A 14⟩ := by
    simp only [clOf, has_and, show Qk.has 4294966271 9 = true from by decide +kernel, show Qk.has 4294966271 10 = false from by decide +kernel, show Qk.has 4294966271 11 = true from by decide +kernel, show Qk.has 4294966271 12 = true from by decide +kernel, show Qk.has 4294966271 14 = true from by decide +kernel, Bool.and_true, Bool.and_false]
  have e2 : clOf ((A &&& 4294966271) ||| 1024) = ⟨Qk.has A 9, true, Qk.has A 11, Qk.has A 12, Qk.has A 14⟩ := by
    simp only [clOf, has_or, has_and, show Qk.has 4294966271 9 = true from by decide +kernel, show Qk.has 4294966271 10 = false from by decide +kernel, show Qk.has 4294966271 11 = true from by decide +kernel, show Qk.has 4294966271 12 = true from by decide +kernel, show Qk.has 4294966271 14 = true from by decide +kernel, show Qk.has 1024 9 = false from by decide +kernel, show Qk.has 1024 10 = true from by decide +kernel, show Qk.has 1024 11 = false from by decide +kernel, show Qk.has 1024 12 = false from by decide +kernel, show Qk.has 1024 14 = false from by decide +kernel, Bool.and_true, Bool.and_false, Bool.or_true, Bool.or_false]
  rw [← e1] at r0
  rw [← e2] at r1
  clear e1 e2
  have hP0 : A &&& 4294966271 < 4294967296 := Nat.lt_of_le_of_lt Nat.and_le_left (by omega)
  have hP : A &&& 4294966271 < 4294967296 := hP0
  have hQ : (A &&& 4294966271) ||| 1024 < 4294967296 := Nat.or_lt_two_pow (n := 32) hP (by decide)
  have N1 : bits .andNot .u32 (A : Int) 1024 = ((A &&& 4294966271 : Nat) : Int) := u32_andNot_nat A 1024 (by omega) (by decide)
  have N2 : bits .or .u32 ((A &&& 4294966271 : Nat) : Int) 1024 = (((A &&& 4294966271) ||| 1024 : Nat) : Int) := u32_or_nat (A &&& 4294966271) 1024 hP (by decide)
  have K1 : Hid (∀ w, Calls Try.prog 13 #[.string ⟨#[40, 65, 58, 32, 98]⟩, .int .u32 ((A &&& 4294966271 : Nat) : Int)] w fun e w' => e = .returned (.tuple #[fv E0 E0, .bool false, .int .i64 400]) ∧ Below w.heap.size w w') :=
    Lib.hid fun w => parse_known ⟨#[40, 65, 58, 32, 98]⟩ (A &&& 4294966271) hP w (by decide) _ r0
  have K2 : Hid (∀ w, Calls Try.prog 13 #[.string ⟨#[40, 65, 58, 32, 98]⟩, .int .u32 (((A &&& 4294966271) ||| 1024 : Nat) : Int)] w fun e w' => e = .returned (.tuple #[fv ⟨#[40, 65]⟩ ⟨#[98]⟩, .bool true, .int .i64 0]) ∧ Below w.heap.size w w') :=
    Lib.hid fun w => parse_known ⟨#[40, 65, 58, 32, 98]⟩ ((A &&& 4294966271) ||| 1024) hQ w (by decide) _ r1
  clear r0 r1 hP hQ hP0
  generalize (A &&& 4294966271) ||| 1024 = Q at *
  generalize A &&& 4294966271 = P at *
  have hwr : IntKind.u32.wrap 1024 = 1024 := by decide
  go_enter Try.func5, Try.ntmps5
  go_wp2_with (first
    | (go_at_call 7; with_reducible refine (known_any _).mono ?_; rintro e w1 ⟨rfl, hb⟩; have hc := hb; clear hb)
    | (go_at_call 13; with_reducible refine (K1.out _).mono ?_; rintro e w3 ⟨rfl, hb⟩
       have HB := Lib.hid (Base.below_step ((hc.alloc hc.size _).alloc (Nat.le_trans hc.size (by simp)) _) hb)
       clear hb hc)
    | (go_at_call 13; with_reducible refine (K2.out _).mono ?_; rintro e w4 ⟨rfl, hb⟩
       replace HB := Lib.hid (Base.below_step (HB.out.alloc HB.out.size _) hb)
       clear hb))
  go_ret
  exact ⟨rfl, by first | exact HB.out | exact HB.out.alloc HB.out.size _⟩
set_option maxRecDepth 10000 in
theorem clauses2 (c : Int) (A a : Nat) (w : World) (hcm : c.tmod 5 = 2) (hm : bits .and .u32 (a : Int) 1073741823 = (A : Int)) (hA : A < 1073741824) :
    Calls Try.prog 5 #[.int .u8 c, .int .u32 a] w fun e w' => e = .returned (.bool true) ∧ Below w.heap.size w w' := by
  obtain ⟨r0, r1⟩ := case11 (Qk.has A 9) (Qk.has A 10) (Qk.has A 12) (Qk.has A 14)
  have e1 : clOf (A &&& 4294965247) = ⟨Qk.has A 9, Qk.has A 10, false, Qk.has A 12, Qk.has A 14⟩ := by
    simp only [clOf, has_and, show Qk.has 4294965247 9 = true from by decide +kernel, show Qk.has 4294965247 10 = true from by decide +kernel, show Qk.has 4294965247 11 = false from by decide +kernel, show Qk.has 4294965247 12 = true from by decide +kernel, show Qk.has 4294965247 14 = true from by decide +kernel, Bool.and_true, Bool.and_false]
  have e2 : clOf ((A &&& 4294965247) ||| 2048) = ⟨Qk.has A 9, Qk.has A 10, true, Qk.has A 12, Qk.has A 14⟩ := by
    simp only [clOf, has_or, has_and, show Qk.has 4294965247 9 = true from by decide +kernel, show Qk.has 4294965247 10 = true from by decide +kernel, show Qk.has 4294965247 11 = false from by decide +kernel, show Qk.has 4294965247 12 = true from by decide +kernel, show Qk.has 4294965247 14 = true from by decide +kernel, show Qk.has 2048 9 = false from by decide +kernel, show Qk.has 2048 10 = false from by decide +kernel, show Qk.has 2048 11 = true from by decide +kernel, show Qk.has 2048 12 = false from by decide +kernel, show Qk.has 2048 14 = false from by decide +kernel, Bool.and_true, Bool.and_false, Bool.or_true, Bool.or_false]
  rw [← e1] at r0
  rw [← e2] at r1
  clear e1 e2
  have hP0 : A &&& 4294965247 < 4294967296 := Nat.lt_of_le_of_lt Nat.and_le_left (by omega)
  have hP : A &&& 4294965247 < 4294967296 := hP0
  have hQ : (A &&& 4294965247) ||| 2048 < 4294967296 := Nat.or_lt_two_pow (n := 32) hP (by decide)
  have N1 : bits .andNot .u32 (A : Int) 2048 = ((A &&& 4294965247 : Nat) : Int) := u32_andNot_nat A 2048 (by omega) (by decide)
  have N2 : bits .or .u32 ((A &&& 4294965247 : Nat) : Int) 2048 = (((A &&& 4294965247) ||| 2048 : Nat) : Int) := u32_or_nat (A &&& 4294965247) 2048 hP (by decide)
  have K1 : Hid (∀ w, Calls Try.prog 13 #[.string ⟨#[65, 32, 98]⟩, .int .u32 ((A &&& 4294965247 : Nat) : Int)] w fun e w' => e = .returned (.tuple #[fv E0 E0, .bool false, .int .i64 400]) ∧ Below w.heap.size w w') :=
    Lib.hid fun w => parse_known ⟨#[65, 32, 98]⟩ (A &&& 4294965247) hP w (by decide) _ r0
  have K2 : Hid (∀ w, Calls Try.prog 13 #[.string ⟨#[65, 32, 98]⟩, .int .u32 (((A &&& 4294965247) ||| 2048 : Nat) : Int)] w fun e w' => e = .returned (.tuple #[fv E0 E0, .bool false, .int .i64 0]) ∧ Below w.heap.size w w') :=
    Lib.hid fun w => parse_known ⟨#[65, 32, 98]⟩ ((A &&& 4294965247) ||| 2048) hQ w (by decide) _ r1
  clear r0 r1 hP hQ hP0
  generalize (A &&& 4294965247) ||| 2048 = Q at *
  generalize A &&& 4294965247 = P at *
  have hwr : IntKind.u32.wrap 2048 = 2048 := by decide
  go_enter Try.func5, Try.ntmps5
  go_wp2_with (first
    | (go_at_call 7; with_reducible refine (known_any _).mono ?_; rintro e w1 ⟨rfl, hb⟩; have hc := hb; clear hb)
    | (go_at_call 13; with_reducible refine (K1.out _).mono ?_; rintro e w3 ⟨rfl, hb⟩
       have HB := Lib.hid (Base.below_step ((hc.alloc hc.size _).alloc (Nat.le_trans hc.size (by simp)) _) hb)
       clear hb hc)
    | (go_at_call 13; with_reducible refine (K2.out _).mono ?_; rintro e w4 ⟨rfl, hb⟩
       replace HB := Lib.hid (Base.below_step (HB.out.alloc HB.out.size _) hb)
       clear hb))
  go_ret
  exact ⟨rfl, by first | exact HB.out | exact HB.out.alloc HB.out.size _⟩
set_option maxRecDepth 10000 in
theorem clauses3 (c : Int) (A a : Nat) (w : World) (hcm : c.tmod 5 = 3) (hm : bits .and .u32 (a : Int) 1073741823 = (A : Int)) (hA : A < 1073741824) :
    Calls Try.prog 5 #[.int .u8 c, .int .u32 a] w fun e w' => e = .returned (.bool true) ∧ Below w.heap.size w w' := by
  obtain ⟨r0, r1⟩ := case12 (Qk.has A 9) (Qk.has A 10) (Qk.has A 11) (Qk.has A 14)
  have e1 : clOf (A &&& 4294963199) = ⟨Qk.has A 9, Qk.has A 10, Qk.has A 11, false, Qk.has A 14⟩ := by
    simp only [clOf, has_and, show Qk.has 4294963199 9 = true from by decide +kernel, show Qk.has 4294963199 10 = true from by decide +kernel, show Qk.has 4294963199 11 = true from by decide +kernel, show Qk.has 4294963199 12 = false from by decide +kernel, show Qk.has 4294963199 14 = true from by decide +kernel, Bool.and_true, Bool.and_false]
  have e2 : clOf ((A &&& 4294963199) ||| 4096) = ⟨Qk.has A 9, Qk.has A 10, Qk.has A 11, true, Qk.has A 14⟩ := by
    simp only [clOf, has_or, has_and, show Qk.has 4294963199 9 = true from by decide +kernel, show Qk.has 4294963199 10 = true from by decide +kernel, show Qk.has 4294963199 11 = true from by decide +kernel, show Qk.has 4294963199 12 = false from by decide +kernel, show Qk.has 4294963199 14 = true from by decide +kernel, show Qk.has 4096 9 = false from by decide +kernel, show Qk.has 4096 10 = false from by decide +kernel, show Qk.has 4096 11 = false from by decide +kernel, show Qk.has 4096 12 = true from by decide +kernel, show Qk.has 4096 14 = false from by decide +kernel, Bool.and_true, Bool.and_false, Bool.or_true, Bool.or_false]
  rw [← e1] at r0
  rw [← e2] at r1
  clear e1 e2
  have hP0 : A &&& 4294963199 < 4294967296 := Nat.lt_of_le_of_lt Nat.and_le_left (by omega)
  have hP : A &&& 4294963199 < 4294967296 := hP0
  have hQ : (A &&& 4294963199) ||| 4096 < 4294967296 := Nat.or_lt_two_pow (n := 32) hP (by decide)
  have N1 : bits .andNot .u32 (A : Int) 4096 = ((A &&& 4294963199 : Nat) : Int) := u32_andNot_nat A 4096 (by omega) (by decide)
  have N2 : bits .or .u32 ((A &&& 4294963199 : Nat) : Int) 4096 = (((A &&& 4294963199) ||| 4096 : Nat) : Int) := u32_or_nat (A &&& 4294963199) 4096 hP (by decide)
  have K1 : Hid (∀ w, Calls Try.prog 13 #[.string ⟨#[58, 32, 98]⟩, .int .u32 ((A &&& 4294963199 : Nat) : Int)] w fun e w' => e = .returned (.tuple #[fv E0 E0, .bool false, .int .i64 400]) ∧ Below w.heap.size w w') :=
    Lib.hid fun w => parse_known ⟨#[58, 32, 98]⟩ (A &&& 4294963199) hP w (by decide) _ r0
  have K2 : Hid (∀ w, Calls Try.prog 13 #[.string ⟨#[58, 32, 98]⟩, .int .u32 (((A &&& 4294963199) ||| 4096 : Nat) : Int)] w fun e w' => e = .returned (.tuple #[fv E0 E0, .bool false, .int .i64 0]) ∧ Below w.heap.size w w') :=
    Lib.hid fun w => parse_known ⟨#[58, 32, 98]⟩ ((A &&& 4294963199) ||| 4096) hQ w (by decide) _ r1
  clear r0 r1 hP hQ hP0
  generalize (A &&& 4294963199) ||| 4096 = Q at *
  generalize A &&& 4294963199 = P at *
  have hwr : IntKind.u32.wrap 4096 = 4096 := by decide
  go_enter Try.func5, Try.ntmps5
  go_wp2_with (first
    | (go_at_call 7; with_reducible refine (known_any _).mono ?_; rintro e w1 ⟨rfl, hb⟩; have hc := hb; clear hb)
    | (go_at_call 13; with_reducible refine (K1.out _).mono ?_; rintro e w3 ⟨rfl, hb⟩
       have HB := Lib.hid (Base.below_step ((hc.alloc hc.size _).alloc (Nat.le_trans hc.size (by simp)) _) hb)
       clear hb hc)
    | (go_at_call 13; with_reducible refine (K2.out _).mono ?_; rintro e w4 ⟨rfl, hb⟩
       replace HB := Lib.hid (Base.below_step (HB.out.alloc HB.out.size _) hb)
       clear hb))
  go_ret
  exact ⟨rfl, by first | exact HB.out | exact HB.out.alloc HB.out.size _⟩
set_option maxRecDepth 10000 in
theorem clauses4 (c : Int) (A a : Nat) (w : World) (hcm : c.tmod 5 = 4) (hm : bits .and .u32 (a : Int) 1073741823 = (A : Int)) (hA : A < 1073741824) :
    Calls Try.prog 5 #[.int .u8 c, .int .u32 a] w fun e w' => e = .returned (.bool true) ∧ Below w.heap.size w w' := by
  obtain ⟨r0, r1⟩ := case14 (Qk.has A 9) (Qk.has A 10) (Qk.has A 11) (Qk.has A 12)
  have e1 : clOf (A &&& 4294950911) = ⟨Qk.has A 9, Qk.has A 10, Qk.has A 11, Qk.has A 12, false⟩ := by
    simp only [clOf, has_and, show Qk.has 4294950911 9 = true from by decide +kernel, show Qk.has 4294950911 10 = true from by decide +kernel, show Qk.has 4294950911 11 = true from by decide +kernel, show Qk.has 4294950911 12 = true from by decide +kernel, show Qk.has 4294950911 14 = false from by decide +kernel, Bool.and_true, Bool.and_false]
  have e2 : clOf ((A &&& 4294950911) ||| 16384) = ⟨Qk.has A 9, Qk.has A 10, Qk.has A 11, Qk.has A 12, true⟩ := by
    simp only [clOf, has_or, has_and, show Qk.has 4294950911 9 = true from by decide +kernel, show Qk.has 4294950911 10 = true from by decide +kernel, show Qk.has 4294950911 11 = true from by decide +kernel, show Qk.has 4294950911 12 = true from by decide +kernel, show Qk.has 4294950911 14 = false from by decide +kernel, show Qk.has 16384 9 = false from by decide +kernel, show Qk.has 16384 10 = false from by decide +kernel, show Qk.has 16384 11 = false from by decide +kernel, show Qk.has 16384 12 = false from by decide +kernel, show Qk.has 16384 14 = true from by decide +kernel, Bool.and_true, Bool.and_false, Bool.or_true, Bool.or_false]
  rw [← e1] at r0
  rw [← e2] at r1
  clear e1 e2
  have hP0 : A &&& 4294950911 < 4294967296 := Nat.lt_of_le_of_lt Nat.and_le_left (by omega)
  have hP : A &&& 4294950911 < 4294967296 := hP0
  have hQ : (A &&& 4294950911) ||| 16384 < 4294967296 := Nat.or_lt_two_pow (n := 32) hP (by decide)
  have N1 : bits .andNot .u32 (A : Int) 16384 = ((A &&& 4294950911 : Nat) : Int) := u32_andNot_nat A 16384 (by omega) (by decide)
  have N2 : bits .or .u32 ((A &&& 4294950911 : Nat) : Int) 16384 = (((A &&& 4294950911) ||| 16384 : Nat) : Int) := u32_or_nat (A &&& 4294950911) 16384 hP (by decide)
  have K1 : Hid (∀ w, Calls Try.prog 13 #[.string ⟨#[65, 58, 32, 98, 1]⟩, .int .u32 ((A &&& 4294950911 : Nat) : Int)] w fun e w' => e = .returned (.tuple #[fv E0 E0, .bool false, .int .i64 400]) ∧ Below w.heap.size w w') :=
    Lib.hid fun w => parse_known ⟨#[65, 58, 32, 98, 1]⟩ (A &&& 4294950911) hP w (by decide) _ r0
  have K2 : Hid (∀ w, Calls Try.prog 13 #[.string ⟨#[65, 58, 32, 98, 1]⟩, .int .u32 (((A &&& 4294950911) ||| 16384 : Nat) : Int)] w fun e w' => e = .returned (.tuple #[fv ⟨#[65]⟩ ⟨#[98, 1]⟩, .bool true, .int .i64 0]) ∧ Below w.heap.size w w') :=
    Lib.hid fun w => parse_known ⟨#[65, 58, 32, 98, 1]⟩ ((A &&& 4294950911) ||| 16384) hQ w (by decide) _ r1
  clear r0 r1 hP hQ hP0
  generalize (A &&& 4294950911) ||| 16384 = Q at *
  generalize A &&& 4294950911 = P at *
  have hwr : IntKind.u32.wrap 16384 = 16384 := by decide
  go_enter Try.func5, Try.ntmps5
  go_wp2_with (first
    | (go_at_call 7; with_reducible refine (known_any _).mono ?_; rintro e w1 ⟨rfl, hb⟩; have hc := hb; clear hb)
    | (go_at_call 13; with_reducible refine (K1.out _).mono ?_; rintro e w3 ⟨rfl, hb⟩
       have HB := Lib.hid (Base.below_step ((hc.alloc hc.size _).alloc (Nat.le_trans hc.size (by simp)) _) hb)
       clear hb hc)
    | (go_at_call 13; with_reducible refine (K2.out _).mono ?_; rintro e w4 ⟨rfl, hb⟩
       replace HB := Lib.hid (Base.below_step (HB.out.alloc HB.out.size _) hb)
       clear hb))
  go_ret
  exact ⟨rfl, by first | exact HB.out | exact HB.out.alloc HB.out.size _⟩
theorem fieldClauses_any (c : Int) (a : Nat) (w : World) (hc : 0 ≤ c ∧ c ≤ 255) (ha : a < 4294967296) :
    Calls Try.prog 5 #[.int .u8 c, .int .u32 a] w fun e w' => e = .returned (.bool true) ∧ Below w.heap.size w w' := by
  have hm := Seat.mask30 a ha
  have hA : a % 1073741824 < 1073741824 := Nat.mod_lt _ (by decide)
  have h : c.tmod 5 = 0 ∨ c.tmod 5 = 1 ∨ c.tmod 5 = 2 ∨ c.tmod 5 = 3 ∨ c.tmod 5 = 4 := by
    rw [Int.tmod_eq_emod_of_nonneg hc.1]; omega
  rcases h with h | h | h | h | h
  · exact clauses0 c _ a w h hm hA
  · exact clauses1 c _ a w h hm hA
  · exact clauses2 c _ a w h hm hA
  · exact clauses3 c _ a w h hm hA
  · exact clauses4 c _ a w h hm hA
end code
end Go.Proofs.Ytmbjnolikofaoaa.Fd
