/-
  Layer 8 (request): the walk of RequestClauses: it returns true, and writes nothing that was there.
-/
import Derived.Test.YtlignmlkoahbmaaDoorReqKnown
import Derived.Test.YtlignmlkoahbmaaDoorReqMethods
import Derived.Test.YtlignmlkoahbmaaDoorSeat
import Derived.Test.YtlignmlkoahbmaaDoorSched
namespace Go.Proofs.YtlignmlkoahbmaaDoor.Rq
open Go.RowKit Base Txt

theorem has_and (A M : Nat) (j : Int) : Qk.has (A &&& M) j = (Qk.has A j && Qk.has M j) := by
  unfold Qk.has
  rw [Nat.testBit_and]
  cases Qk.known j <;> cases A.testBit j.toNat <;> cases M.testBit j.toNat <;> rfl
theorem has_or (A M : Nat) (j : Int) : Qk.has (A ||| M) j = (Qk.has A j || Qk.has M j) := by
  unfold Qk.has
  rw [Nat.testBit_or]
  cases Qk.known j <;> cases A.testBit j.toNat <;> cases M.testBit j.toNat <;> rfl
theorem cl_and (A M : Nat) : clOf (A &&& M) = ⟨Qk.has A 3 && Qk.has M 3, Qk.has A 4 && Qk.has M 4, Qk.has A 5 && Qk.has M 5, Qk.has A 6 && Qk.has M 6, Qk.has A 7 && Qk.has M 7, Qk.has A 8 && Qk.has M 8⟩ := by
  simp only [clOf, has_and]
theorem cl_or (A M : Nat) : clOf (A ||| M) = ⟨Qk.has A 3 || Qk.has M 3, Qk.has A 4 || Qk.has M 4, Qk.has A 5 || Qk.has M 5, Qk.has A 6 || Qk.has M 6, Qk.has A 7 || Qk.has M 7, Qk.has A 8 || Qk.has M 8⟩ := by
  simp only [clOf, has_or]
/-- Without a clause, and with it. -/
theorem cl_off (A K : Nat) (hK : 3 ≤ K ∧ K ≤ 8) : ∃ b0 b1 b2 b3 b4 b5 : Bool, clOf (A &&& (4294967295 - 2 ^ K)) = ⟨b0 && !decide (K = 3), b1 && !decide (K = 4), b2 && !decide (K = 5), b3 && !decide (K = 6), b4 && !decide (K = 7), b5 && !decide (K = 8)⟩ ∧
    clOf ((A &&& (4294967295 - 2 ^ K)) ||| 2 ^ K) = ⟨b0 && !decide (K = 3) || decide (K = 3), b1 && !decide (K = 4) || decide (K = 4), b2 && !decide (K = 5) || decide (K = 5), b3 && !decide (K = 6) || decide (K = 6), b4 && !decide (K = 7) || decide (K = 7), b5 && !decide (K = 8) || decide (K = 8)⟩ := by
  refine ⟨Qk.has A 3, Qk.has A 4, Qk.has A 5, Qk.has A 6, Qk.has A 7, Qk.has A 8, ?_⟩
  rw [cl_or, cl_and]
  simp only [has_and]
  have hk : ∀ K : Fin 9, 3 ≤ K.val → (Qk.has (4294967295 - 2 ^ K.val) 3 = !decide (K.val = 3) ∧ Qk.has (4294967295 - 2 ^ K.val) 4 = !decide (K.val = 4) ∧ Qk.has (4294967295 - 2 ^ K.val) 5 = !decide (K.val = 5) ∧ Qk.has (4294967295 - 2 ^ K.val) 6 = !decide (K.val = 6) ∧ Qk.has (4294967295 - 2 ^ K.val) 7 = !decide (K.val = 7) ∧ Qk.has (4294967295 - 2 ^ K.val) 8 = !decide (K.val = 8)) ∧
      Qk.has (2 ^ K.val) 3 = decide (K.val = 3) ∧ Qk.has (2 ^ K.val) 4 = decide (K.val = 4) ∧ Qk.has (2 ^ K.val) 5 = decide (K.val = 5) ∧ Qk.has (2 ^ K.val) 6 = decide (K.val = 6) ∧ Qk.has (2 ^ K.val) 7 = decide (K.val = 7) ∧ Qk.has (2 ^ K.val) 8 = decide (K.val = 8) := by decide +kernel
  obtain ⟨⟨h3, h4, h5, h6, h7, h8⟩, g3, g4, g5, g6, g7, g8⟩ := hk ⟨K, by omega⟩ hK.1
  dsimp only at h3 h4 h5 h6 h7 h8 g3 g4 g5 g6 g7 g8
  rw [h3, h4, h5, h6, h7, h8, g3, g4, g5, g6, g7, g8]
  exact ⟨rfl, rfl⟩
def okR (t : List UInt8) (k : Nat) : List UInt8 × List UInt8 × Nat × Nat := ([71, 69, 84], t, k, 0)
theorem case3 : ∀ b1 b2 b3 b4 b5 o : Bool, request ⟨false, b1, b2, b3, b4, b5⟩ o [71, 69, 84, 32, 9, 47, 97, 32, 32, 72, 84, 84, 80, 47, 49, 46, 49] = badR ∧ request ⟨true, b1, b2, b3, b4, b5⟩ o [71, 69, 84, 32, 9, 47, 97, 32, 32, 72, 84, 84, 80, 47, 49, 46, 49] = okR [47, 97] 1 := by decide +kernel
theorem case4 : ∀ b0 b2 b3 b4 b5 o : Bool, request ⟨b0, false, b2, b3, b4, b5⟩ o [71, 69, 84, 32, 47, 97, 32, 72, 84, 84, 80, 47, 49, 46, 55] = verR ∧ request ⟨b0, true, b2, b3, b4, b5⟩ o [71, 69, 84, 32, 47, 97, 32, 72, 84, 84, 80, 47, 49, 46, 55] = okR [47, 97] 1 := by decide +kernel
theorem case5 : ∀ b0 b1 b3 b4 b5 o : Bool, request ⟨b0, b1, false, b3, b4, b5⟩ o [71, 69, 84, 32, 47, 97, 32, 72, 116, 84, 112, 47, 49, 46, 49] = verR ∧ request ⟨b0, b1, true, b3, b4, b5⟩ o [71, 69, 84, 32, 47, 97, 32, 72, 116, 84, 112, 47, 49, 46, 49] = okR [47, 97] 1 := by decide +kernel
theorem case6 : ∀ b0 b1 b2 b4 b5 : Bool, ∀ o, request ⟨b0, b1, b2, false, b4, b5⟩ o [71, 69, 84, 32, 47, 97] = badR ∧ request ⟨b0, b1, b2, true, b4, b5⟩ o [71, 69, 84, 32, 47, 97] = if o = true then okR [47, 97] 0 else verR := by decide +kernel
theorem case7 : ∀ b0 b1 b2 b3 b5 o : Bool, request ⟨b0, b1, b2, b3, false, b5⟩ o [71, 69, 84, 32, 47, 97, 32, 98, 32, 72, 84, 84, 80, 47, 49, 46, 49] = badR ∧ request ⟨b0, b1, b2, b3, true, b5⟩ o [71, 69, 84, 32, 47, 97, 32, 98, 32, 72, 84, 84, 80, 47, 49, 46, 49] = okR [47, 97, 32, 98] 1 := by decide +kernel
theorem case8 : ∀ b0 b1 b2 b3 b4 o : Bool, request ⟨b0, b1, b2, b3, b4, false⟩ o [71, 69, 84, 32, 47, 97, 1, 32, 72, 84, 84, 80, 47, 49, 46, 49] = badR ∧ request ⟨b0, b1, b2, b3, b4, true⟩ o [71, 69, 84, 32, 47, 97, 1, 32, 72, 84, 84, 80, 47, 49, 46, 49] = okR [47, 97, 1] 1 := by decide +kernel

section code
set_option maxHeartbeats 2000000
attribute [local go_sem] Base.some_undef
set_option maxRecDepth 10000 in
theorem clauses0 (c : Int) (A a : Nat) (old : Bool) (w : World) (hcm : c.tmod 6 = 0) (hm : bits .and .u32 (a : Int) 1073741823 = (A : Int)) (hA : A < 1073741824) :
    Calls Tryd.prog 4 #[.int .u8 c, .int .u32 a, .bool old] w fun e w' => e = .returned (.bool true) ∧ Below w.heap.size w w' := by
  obtain ⟨b0, b1, b2, b3, b4, b5, e1, e2⟩ := cl_off A 3 (by decide)
  simp at e1 e2
  obtain ⟨r0, r1⟩ := case3 b1 b2 b3 b4 b5 old
  rw [← e1] at r0
  rw [← e2] at r1
  clear e1 e2
  have hP : A &&& 4294967287 < 4294967296 := Nat.lt_of_le_of_lt Nat.and_le_left (by omega)
  have hQ : A &&& 4294967287 ||| 8 < 4294967296 := Nat.or_lt_two_pow (n := 32) hP (by decide)
  have N1 : bits .andNot .u32 (A : Int) 8 = ((A &&& 4294967287 : Nat) : Int) := u32_andNot_nat A 8 (by omega) (by decide)
  have N2 : bits .or .u32 ((A &&& 4294967287 : Nat) : Int) 8 = ((A &&& 4294967287 ||| 8 : Nat) : Int) := u32_or_nat (A &&& 4294967287) 8 hP (by decide)
  have K1 : Hid (∀ w, Calls Tryd.prog 10 #[.string ⟨#[71, 69, 84, 32, 9, 47, 97, 32, 32, 72, 84, 84, 80, 47, 49, 46, 49]⟩, .int .u32 ((A &&& 4294967287 : Nat) : Int), ub old] w fun e w' => e = .returned (.tuple #[.string ⟨#[]⟩, .string ⟨#[]⟩, .int .i64 0, .int .i64 400]) ∧ Below w.heap.size w w') :=
    Lib.hid fun w => parse_known ⟨#[71, 69, 84, 32, 9, 47, 97, 32, 32, 72, 84, 84, 80, 47, 49, 46, 49]⟩ (A &&& 4294967287) hP 1024 32 8192 65536 32 8 4 20 true old w (by decide) _ r0
  have K2 : Hid (∀ w, Calls Tryd.prog 10 #[.string ⟨#[71, 69, 84, 32, 9, 47, 97, 32, 32, 72, 84, 84, 80, 47, 49, 46, 49]⟩, .int .u32 ((A &&& 4294967287 ||| 8 : Nat) : Int), ub old] w fun e w' => e = .returned (.tuple #[.string ⟨#[71, 69, 84]⟩, .string ⟨#[47, 97]⟩, .int .i64 1, .int .i64 0]) ∧ Below w.heap.size w w') :=
    Lib.hid fun w => parse_known ⟨#[71, 69, 84, 32, 9, 47, 97, 32, 32, 72, 84, 84, 80, 47, 49, 46, 49]⟩ (A &&& 4294967287 ||| 8) hQ 1024 32 8192 65536 32 8 4 20 true old w (by decide) _ r1
  clear r0 r1 hP hQ
  generalize A &&& 4294967287 ||| 8 = Q at *
  generalize A &&& 4294967287 = P at *
  have HU := Lib.hid (fun w => Bnd.rusual_any w)
  go_enter Tryd.func4, Tryd.ntmps4
  go_wp2_with (first
    | (go_at_call 6; with_reducible refine (known_any _).mono ?_; rintro e w1 ⟨rfl, hb⟩; have hc := hb; clear hb)
    | (go_at_call 12; with_reducible refine (HU.out _).mono ?_; rintro e w2 ⟨rfl, hb⟩; replace hc := Base.below_step hc hb; clear hb)
    | (go_at_call 10; with_reducible refine (K1.out _).mono ?_; rintro e w3 ⟨rfl, hb⟩
       have hq : Below (w2.alloc (.cells (ubCells old) 26)).heap.size (w2.alloc (.cells (ubCells old) 26)) w3 := Base.below_step (((Below.refl _ _).alloc (Nat.le_refl _) _).alloc (by simp) _) hb
       have AT := Lib.hid ((Bnd.At.new w2 26 1024 32 8192 65536 32 8 4 20 true old).below (by simp) hq)
       have S3 := Lib.hid (Nat.lt_of_lt_of_le (show w2.heap.size < (w2.alloc (.cells (ubCells old) 26)).heap.size by simp) hq.size)
       have HB := Lib.hid (Base.below_step (hc.alloc hc.size (.cells (ubCells old) 26)) hq)
       clear hb hq hc))
  refine Sched.region [(0, false), (1, false), (2, false), (3, false), (4, false), (5, false), (6, true), (7, false), (8, false), (9, false), (10, false), (11, false), (12, false), (13, false), (14, false), (15, false)] (fun w' => Bnd.At w' w2.heap.size 1024 32 8192 65536 32 8 4 20 true old) (by kernel_rfl) (by kernel_rfl) (fun _ _ d _ _ h => by cases d <;> exact h) (AT.out.below S3.out (Base.below_drewN (Below.refl _ _) 1)) ?_
  replace AT := Lib.hid (AT.out.below S3.out (Base.below_drewN (Below.refl _ _) 1))
  replace HB := Lib.hid (Base.below_drewN HB.out 1)
  have S4 : Hid (w2.heap.size < (World.drewN w3 1).heap.size) := S3
  clear S3
  generalize World.drewN w3 1 = W6 at *
  simp only [Sched.picked, List.filterMap_cons, List.filterMap_nil, List.getElem?_cons_zero, List.getElem?_cons_succ, Option.map_some]
  iterate 6
    refine Sched.quiet (by rfl) ?_ ?_ ?_
    rotate_left 1
    · intro w' hS
      obtain ⟨q0, q1, q2, q3, q4, q5, q6, q7, q8, q9⟩ := hS
      go_simp
      with_reducible rfl
    simp only [Act.put, List.setIfInBounds_toArray, List.set_cons_zero, List.set_cons_succ]

  refine Sched.change (by rfl) (fun K hK => ?_)
  go_simp
  rw [show IntKind.u32.wrap 8 = 8 from by decide, N2]
  with_reducible refine (K2.out _).mono ?_
  rintro e w7 ⟨rfl, hb⟩
  dsimp only
  replace AT := Lib.hid (AT.out.below S4.out hb)
  replace HB := Lib.hid (Base.below_step HB.out hb)
  clear hb
  refine hK _ _ AT.out ?_
  clear hK K
  iterate 9
    refine Sched.quiet (by rfl) ?_ ?_ ?_
    rotate_left 1
    · intro w' hS
      clear hS
      go_simp
      with_reducible rfl
    simp only [Act.put, List.setIfInBounds_toArray, List.set_cons_zero, List.set_cons_succ]

  refine Sched.done ?_
  clear AT S4 K1 K2 HU
  go_wp2_with fail
  go_ret
  exact ⟨rfl, by first | exact HB.out | exact HB.out.alloc HB.out.size _⟩
set_option maxRecDepth 10000 in
theorem clauses1 (c : Int) (A a : Nat) (old : Bool) (w : World) (hcm : c.tmod 6 = 1) (hm : bits .and .u32 (a : Int) 1073741823 = (A : Int)) (hA : A < 1073741824) :
    Calls Tryd.prog 4 #[.int .u8 c, .int .u32 a, .bool old] w fun e w' => e = .returned (.bool true) ∧ Below w.heap.size w w' := by
  obtain ⟨b0, b1, b2, b3, b4, b5, e1, e2⟩ := cl_off A 4 (by decide)
  simp at e1 e2
  obtain ⟨r0, r1⟩ := case4 b0 b2 b3 b4 b5 old
  rw [← e1] at r0
  rw [← e2] at r1
  clear e1 e2
  have hP : A &&& 4294967279 < 4294967296 := Nat.lt_of_le_of_lt Nat.and_le_left (by omega)
  have hQ : A &&& 4294967279 ||| 16 < 4294967296 := Nat.or_lt_two_pow (n := 32) hP (by decide)
  have N1 : bits .andNot .u32 (A : Int) 16 = ((A &&& 4294967279 : Nat) : Int) := u32_andNot_nat A 16 (by omega) (by decide)
  have N2 : bits .or .u32 ((A &&& 4294967279 : Nat) : Int) 16 = ((A &&& 4294967279 ||| 16 : Nat) : Int) := u32_or_nat (A &&& 4294967279) 16 hP (by decide)
  have K1 : Hid (∀ w, Calls Tryd.prog 10 #[.string ⟨#[71, 69, 84, 32, 47, 97, 32, 72, 84, 84, 80, 47, 49, 46, 55]⟩, .int .u32 ((A &&& 4294967279 : Nat) : Int), ub old] w fun e w' => e = .returned (.tuple #[.string ⟨#[]⟩, .string ⟨#[]⟩, .int .i64 0, .int .i64 505]) ∧ Below w.heap.size w w') :=
    Lib.hid fun w => parse_known ⟨#[71, 69, 84, 32, 47, 97, 32, 72, 84, 84, 80, 47, 49, 46, 55]⟩ (A &&& 4294967279) hP 1024 32 8192 65536 32 8 4 20 true old w (by decide) _ r0
  have K2 : Hid (∀ w, Calls Tryd.prog 10 #[.string ⟨#[71, 69, 84, 32, 47, 97, 32, 72, 84, 84, 80, 47, 49, 46, 55]⟩, .int .u32 ((A &&& 4294967279 ||| 16 : Nat) : Int), ub old] w fun e w' => e = .returned (.tuple #[.string ⟨#[71, 69, 84]⟩, .string ⟨#[47, 97]⟩, .int .i64 1, .int .i64 0]) ∧ Below w.heap.size w w') :=
    Lib.hid fun w => parse_known ⟨#[71, 69, 84, 32, 47, 97, 32, 72, 84, 84, 80, 47, 49, 46, 55]⟩ (A &&& 4294967279 ||| 16) hQ 1024 32 8192 65536 32 8 4 20 true old w (by decide) _ r1
  clear r0 r1 hP hQ
  generalize A &&& 4294967279 ||| 16 = Q at *
  generalize A &&& 4294967279 = P at *
  have HU := Lib.hid (fun w => Bnd.rusual_any w)
  go_enter Tryd.func4, Tryd.ntmps4
  go_wp2_with (first
    | (go_at_call 6; with_reducible refine (known_any _).mono ?_; rintro e w1 ⟨rfl, hb⟩; have hc := hb; clear hb)
    | (go_at_call 12; with_reducible refine (HU.out _).mono ?_; rintro e w2 ⟨rfl, hb⟩; replace hc := Base.below_step hc hb; clear hb)
    | (go_at_call 10; with_reducible refine (K1.out _).mono ?_; rintro e w3 ⟨rfl, hb⟩
       have hq : Below (w2.alloc (.cells (ubCells old) 26)).heap.size (w2.alloc (.cells (ubCells old) 26)) w3 := Base.below_step (((Below.refl _ _).alloc (Nat.le_refl _) _).alloc (by simp) _) hb
       have AT := Lib.hid ((Bnd.At.new w2 26 1024 32 8192 65536 32 8 4 20 true old).below (by simp) hq)
       have S3 := Lib.hid (Nat.lt_of_lt_of_le (show w2.heap.size < (w2.alloc (.cells (ubCells old) 26)).heap.size by simp) hq.size)
       have HB := Lib.hid (Base.below_step (hc.alloc hc.size (.cells (ubCells old) 26)) hq)
       clear hb hq hc))
  refine Sched.region [(0, false), (1, false), (2, false), (3, false), (4, false), (5, false), (6, true), (7, false), (8, false), (9, false), (10, false), (11, false), (12, false), (13, false), (14, false), (15, false)] (fun w' => Bnd.At w' w2.heap.size 1024 32 8192 65536 32 8 4 20 true old) (by kernel_rfl) (by kernel_rfl) (fun _ _ d _ _ h => by cases d <;> exact h) (AT.out.below S3.out (Base.below_drewN (Below.refl _ _) 1)) ?_
  replace AT := Lib.hid (AT.out.below S3.out (Base.below_drewN (Below.refl _ _) 1))
  replace HB := Lib.hid (Base.below_drewN HB.out 1)
  have S4 : Hid (w2.heap.size < (World.drewN w3 1).heap.size) := S3
  clear S3
  generalize World.drewN w3 1 = W6 at *
  simp only [Sched.picked, List.filterMap_cons, List.filterMap_nil, List.getElem?_cons_zero, List.getElem?_cons_succ, Option.map_some]
  iterate 6
    refine Sched.quiet (by rfl) ?_ ?_ ?_
    rotate_left 1
    · intro w' hS
      obtain ⟨q0, q1, q2, q3, q4, q5, q6, q7, q8, q9⟩ := hS
      go_simp
      with_reducible rfl
    simp only [Act.put, List.setIfInBounds_toArray, List.set_cons_zero, List.set_cons_succ]

  refine Sched.change (by rfl) (fun K hK => ?_)
  go_simp
  rw [show IntKind.u32.wrap 16 = 16 from by decide, N2]
  with_reducible refine (K2.out _).mono ?_
  rintro e w7 ⟨rfl, hb⟩
  dsimp only
  replace AT := Lib.hid (AT.out.below S4.out hb)
  replace HB := Lib.hid (Base.below_step HB.out hb)
  clear hb
  refine hK _ _ AT.out ?_
  clear hK K
  iterate 9
    refine Sched.quiet (by rfl) ?_ ?_ ?_
    rotate_left 1
    · intro w' hS
      clear hS
      go_simp
      with_reducible rfl
    simp only [Act.put, List.setIfInBounds_toArray, List.set_cons_zero, List.set_cons_succ]

  refine Sched.done ?_
  clear AT S4 K1 K2 HU
  go_wp2_with fail
  go_ret
  exact ⟨rfl, by first | exact HB.out | exact HB.out.alloc HB.out.size _⟩
set_option maxRecDepth 10000 in
theorem clauses2 (c : Int) (A a : Nat) (old : Bool) (w : World) (hcm : c.tmod 6 = 2) (hm : bits .and .u32 (a : Int) 1073741823 = (A : Int)) (hA : A < 1073741824) :
    Calls Tryd.prog 4 #[.int .u8 c, .int .u32 a, .bool old] w fun e w' => e = .returned (.bool true) ∧ Below w.heap.size w w' := by
  obtain ⟨b0, b1, b2, b3, b4, b5, e1, e2⟩ := cl_off A 5 (by decide)
  simp at e1 e2
  obtain ⟨r0, r1⟩ := case5 b0 b1 b3 b4 b5 old
  rw [← e1] at r0
  rw [← e2] at r1
  clear e1 e2
  have hP : A &&& 4294967263 < 4294967296 := Nat.lt_of_le_of_lt Nat.and_le_left (by omega)
  have hQ : A &&& 4294967263 ||| 32 < 4294967296 := Nat.or_lt_two_pow (n := 32) hP (by decide)
  have N1 : bits .andNot .u32 (A : Int) 32 = ((A &&& 4294967263 : Nat) : Int) := u32_andNot_nat A 32 (by omega) (by decide)
  have N2 : bits .or .u32 ((A &&& 4294967263 : Nat) : Int) 32 = ((A &&& 4294967263 ||| 32 : Nat) : Int) := u32_or_nat (A &&& 4294967263) 32 hP (by decide)
  have K1 : Hid (∀ w, Calls Tryd.prog 10 #[.string ⟨#[71, 69, 84, 32, 47, 97, 32, 72, 116, 84, 112, 47, 49, 46, 49]⟩, .int .u32 ((A &&& 4294967263 : Nat) : Int), ub old] w fun e w' => e = .returned (.tuple #[.string ⟨#[]⟩, .string ⟨#[]⟩, .int .i64 0, .int .i64 505]) ∧ Below w.heap.size w w') :=
    Lib.hid fun w => parse_known ⟨#[71, 69, 84, 32, 47, 97, 32, 72, 116, 84, 112, 47, 49, 46, 49]⟩ (A &&& 4294967263) hP 1024 32 8192 65536 32 8 4 20 true old w (by decide) _ r0
  have K2 : Hid (∀ w, Calls Tryd.prog 10 #[.string ⟨#[71, 69, 84, 32, 47, 97, 32, 72, 116, 84, 112, 47, 49, 46, 49]⟩, .int .u32 ((A &&& 4294967263 ||| 32 : Nat) : Int), ub old] w fun e w' => e = .returned (.tuple #[.string ⟨#[71, 69, 84]⟩, .string ⟨#[47, 97]⟩, .int .i64 1, .int .i64 0]) ∧ Below w.heap.size w w') :=
    Lib.hid fun w => parse_known ⟨#[71, 69, 84, 32, 47, 97, 32, 72, 116, 84, 112, 47, 49, 46, 49]⟩ (A &&& 4294967263 ||| 32) hQ 1024 32 8192 65536 32 8 4 20 true old w (by decide) _ r1
  clear r0 r1 hP hQ
  generalize A &&& 4294967263 ||| 32 = Q at *
  generalize A &&& 4294967263 = P at *
  have HU := Lib.hid (fun w => Bnd.rusual_any w)
  go_enter Tryd.func4, Tryd.ntmps4
  go_wp2_with (first
    | (go_at_call 6; with_reducible refine (known_any _).mono ?_; rintro e w1 ⟨rfl, hb⟩; have hc := hb; clear hb)
    | (go_at_call 12; with_reducible refine (HU.out _).mono ?_; rintro e w2 ⟨rfl, hb⟩; replace hc := Base.below_step hc hb; clear hb)
    | (go_at_call 10; with_reducible refine (K1.out _).mono ?_; rintro e w3 ⟨rfl, hb⟩
       have hq : Below (w2.alloc (.cells (ubCells old) 26)).heap.size (w2.alloc (.cells (ubCells old) 26)) w3 := Base.below_step (((Below.refl _ _).alloc (Nat.le_refl _) _).alloc (by simp) _) hb
       have AT := Lib.hid ((Bnd.At.new w2 26 1024 32 8192 65536 32 8 4 20 true old).below (by simp) hq)
       have S3 := Lib.hid (Nat.lt_of_lt_of_le (show w2.heap.size < (w2.alloc (.cells (ubCells old) 26)).heap.size by simp) hq.size)
       have HB := Lib.hid (Base.below_step (hc.alloc hc.size (.cells (ubCells old) 26)) hq)
       clear hb hq hc))
  refine Sched.region [(0, false), (1, false), (2, false), (3, false), (4, false), (5, false), (6, true), (7, false), (8, false), (9, false), (10, false), (11, false), (12, false), (13, false), (14, false), (15, false)] (fun w' => Bnd.At w' w2.heap.size 1024 32 8192 65536 32 8 4 20 true old) (by kernel_rfl) (by kernel_rfl) (fun _ _ d _ _ h => by cases d <;> exact h) (AT.out.below S3.out (Base.below_drewN (Below.refl _ _) 1)) ?_
  replace AT := Lib.hid (AT.out.below S3.out (Base.below_drewN (Below.refl _ _) 1))
  replace HB := Lib.hid (Base.below_drewN HB.out 1)
  have S4 : Hid (w2.heap.size < (World.drewN w3 1).heap.size) := S3
  clear S3
  generalize World.drewN w3 1 = W6 at *
  simp only [Sched.picked, List.filterMap_cons, List.filterMap_nil, List.getElem?_cons_zero, List.getElem?_cons_succ, Option.map_some]
  iterate 6
    refine Sched.quiet (by rfl) ?_ ?_ ?_
    rotate_left 1
    · intro w' hS
      obtain ⟨q0, q1, q2, q3, q4, q5, q6, q7, q8, q9⟩ := hS
      go_simp
      with_reducible rfl
    simp only [Act.put, List.setIfInBounds_toArray, List.set_cons_zero, List.set_cons_succ]

  refine Sched.change (by rfl) (fun K hK => ?_)
  go_simp
  rw [show IntKind.u32.wrap 32 = 32 from by decide, N2]
  with_reducible refine (K2.out _).mono ?_
  rintro e w7 ⟨rfl, hb⟩
  dsimp only
  replace AT := Lib.hid (AT.out.below S4.out hb)
  replace HB := Lib.hid (Base.below_step HB.out hb)
  clear hb
  refine hK _ _ AT.out ?_
  clear hK K
  iterate 9
    refine Sched.quiet (by rfl) ?_ ?_ ?_
    rotate_left 1
    · intro w' hS
      clear hS
      go_simp
      with_reducible rfl
    simp only [Act.put, List.setIfInBounds_toArray, List.set_cons_zero, List.set_cons_succ]

  refine Sched.done ?_
  clear AT S4 K1 K2 HU
  go_wp2_with fail
  go_ret
  exact ⟨rfl, by first | exact HB.out | exact HB.out.alloc HB.out.size _⟩
set_option maxRecDepth 10000 in
theorem clauses3false (c : Int) (A a : Nat) (w : World) (hcm : c.tmod 6 = 3) (hm : bits .and .u32 (a : Int) 1073741823 = (A : Int)) (hA : A < 1073741824) :
    Calls Tryd.prog 4 #[.int .u8 c, .int .u32 a, .bool false] w fun e w' => e = .returned (.bool true) ∧ Below w.heap.size w w' := by
  obtain ⟨b0, b1, b2, b3, b4, b5, e1, e2⟩ := cl_off A 6 (by decide)
  simp at e1 e2
  obtain ⟨r0, r1⟩ := case6 b0 b1 b2 b4 b5 false
  rw [← e1] at r0
  rw [← e2] at r1
  clear e1 e2
  have hP : A &&& 4294967231 < 4294967296 := Nat.lt_of_le_of_lt Nat.and_le_left (by omega)
  have hQ : A &&& 4294967231 ||| 64 < 4294967296 := Nat.or_lt_two_pow (n := 32) hP (by decide)
  have N1 : bits .andNot .u32 (A : Int) 64 = ((A &&& 4294967231 : Nat) : Int) := u32_andNot_nat A 64 (by omega) (by decide)
  have N2 : bits .or .u32 ((A &&& 4294967231 : Nat) : Int) 64 = ((A &&& 4294967231 ||| 64 : Nat) : Int) := u32_or_nat (A &&& 4294967231) 64 hP (by decide)
  have K1 : Hid (∀ w, Calls Tryd.prog 10 #[.string ⟨#[71, 69, 84, 32, 47, 97]⟩, .int .u32 ((A &&& 4294967231 : Nat) : Int), ub false] w fun e w' => e = .returned (.tuple #[.string ⟨#[]⟩, .string ⟨#[]⟩, .int .i64 0, .int .i64 400]) ∧ Below w.heap.size w w') :=
    Lib.hid fun w => parse_known ⟨#[71, 69, 84, 32, 47, 97]⟩ (A &&& 4294967231) hP 1024 32 8192 65536 32 8 4 20 true false w (by decide) _ r0
  have K2 : Hid (∀ w, Calls Tryd.prog 10 #[.string ⟨#[71, 69, 84, 32, 47, 97]⟩, .int .u32 ((A &&& 4294967231 ||| 64 : Nat) : Int), ub false] w fun e w' => e = .returned (.tuple #[.string ⟨#[]⟩, .string ⟨#[]⟩, .int .i64 0, .int .i64 505]) ∧ Below w.heap.size w w') :=
    Lib.hid fun w => parse_known ⟨#[71, 69, 84, 32, 47, 97]⟩ (A &&& 4294967231 ||| 64) hQ 1024 32 8192 65536 32 8 4 20 true false w (by decide) _ r1
  clear r0 r1 hP hQ
  generalize A &&& 4294967231 ||| 64 = Q at *
  generalize A &&& 4294967231 = P at *
  have HU := Lib.hid (fun w => Bnd.rusual_any w)
  go_enter Tryd.func4, Tryd.ntmps4
  go_wp2_with (first
    | (go_at_call 6; with_reducible refine (known_any _).mono ?_; rintro e w1 ⟨rfl, hb⟩; have hc := hb; clear hb)
    | (go_at_call 12; with_reducible refine (HU.out _).mono ?_; rintro e w2 ⟨rfl, hb⟩; replace hc := Base.below_step hc hb; clear hb)
    | (go_at_call 10; with_reducible refine (K1.out _).mono ?_; rintro e w3 ⟨rfl, hb⟩
       have hq : Below (w2.alloc (.cells (ubCells false) 26)).heap.size (w2.alloc (.cells (ubCells false) 26)) w3 := Base.below_step (((Below.refl _ _).alloc (Nat.le_refl _) _).alloc (by simp) _) hb
       have AT := Lib.hid ((Bnd.At.new w2 26 1024 32 8192 65536 32 8 4 20 true false).below (by simp) hq)
       have S3 := Lib.hid (Nat.lt_of_lt_of_le (show w2.heap.size < (w2.alloc (.cells (ubCells false) 26)).heap.size by simp) hq.size)
       have HB := Lib.hid (Base.below_step (hc.alloc hc.size (.cells (ubCells false) 26)) hq)
       clear hb hq hc))
  refine Sched.region [(0, false), (1, false), (2, false), (3, false), (4, false), (5, false), (6, true), (7, false), (8, false), (9, false), (10, false), (11, false), (12, false), (13, false), (14, false), (15, false)] (fun w' => Bnd.At w' w2.heap.size 1024 32 8192 65536 32 8 4 20 true false) (by kernel_rfl) (by kernel_rfl) (fun _ _ d _ _ h => by cases d <;> exact h) (AT.out.below S3.out (Base.below_drewN (Below.refl _ _) 1)) ?_
  replace AT := Lib.hid (AT.out.below S3.out (Base.below_drewN (Below.refl _ _) 1))
  replace HB := Lib.hid (Base.below_drewN HB.out 1)
  have S4 : Hid (w2.heap.size < (World.drewN w3 1).heap.size) := S3
  clear S3
  generalize World.drewN w3 1 = W6 at *
  simp only [Sched.picked, List.filterMap_cons, List.filterMap_nil, List.getElem?_cons_zero, List.getElem?_cons_succ, Option.map_some]
  iterate 6
    refine Sched.quiet (by rfl) ?_ ?_ ?_
    rotate_left 1
    · intro w' hS
      obtain ⟨q0, q1, q2, q3, q4, q5, q6, q7, q8, q9⟩ := hS
      go_simp
      with_reducible rfl
    simp only [Act.put, List.setIfInBounds_toArray, List.set_cons_zero, List.set_cons_succ]

  refine Sched.change (by rfl) (fun K hK => ?_)
  go_simp
  rw [show IntKind.u32.wrap 64 = 64 from by decide, N2]
  with_reducible refine (K2.out _).mono ?_
  rintro e w7 ⟨rfl, hb⟩
  dsimp only
  replace AT := Lib.hid (AT.out.below S4.out hb)
  replace HB := Lib.hid (Base.below_step HB.out hb)
  clear hb
  refine hK _ _ AT.out ?_
  clear hK K
  iterate 9
    refine Sched.quiet (by rfl) ?_ ?_ ?_
    rotate_left 1
    · intro w' hS
      clear hS
      go_simp
      with_reducible rfl
    simp only [Act.put, List.setIfInBounds_toArray, List.set_cons_zero, List.set_cons_succ]

  refine Sched.done ?_
  clear AT S4 K1 K2 HU
  go_wp2_with fail
  go_ret
  exact ⟨rfl, by first | exact HB.out | exact HB.out.alloc HB.out.size _⟩
set_option maxRecDepth 10000 in
theorem clauses3true (c : Int) (A a : Nat) (w : World) (hcm : c.tmod 6 = 3) (hm : bits .and .u32 (a : Int) 1073741823 = (A : Int)) (hA : A < 1073741824) :
    Calls Tryd.prog 4 #[.int .u8 c, .int .u32 a, .bool true] w fun e w' => e = .returned (.bool true) ∧ Below w.heap.size w w' := by
  obtain ⟨b0, b1, b2, b3, b4, b5, e1, e2⟩ := cl_off A 6 (by decide)
  simp at e1 e2
  obtain ⟨r0, r1⟩ := case6 b0 b1 b2 b4 b5 true
  rw [← e1] at r0
  rw [← e2] at r1
  clear e1 e2
  have hP : A &&& 4294967231 < 4294967296 := Nat.lt_of_le_of_lt Nat.and_le_left (by omega)
  have hQ : A &&& 4294967231 ||| 64 < 4294967296 := Nat.or_lt_two_pow (n := 32) hP (by decide)
  have N1 : bits .andNot .u32 (A : Int) 64 = ((A &&& 4294967231 : Nat) : Int) := u32_andNot_nat A 64 (by omega) (by decide)
  have N2 : bits .or .u32 ((A &&& 4294967231 : Nat) : Int) 64 = ((A &&& 4294967231 ||| 64 : Nat) : Int) := u32_or_nat (A &&& 4294967231) 64 hP (by decide)
  have K1 : Hid (∀ w, Calls Tryd.prog 10 #[.string ⟨#[71, 69, 84, 32, 47, 97]⟩, .int .u32 ((A &&& 4294967231 : Nat) : Int), ub true] w fun e w' => e = .returned (.tuple #[.string ⟨#[]⟩, .string ⟨#[]⟩, .int .i64 0, .int .i64 400]) ∧ Below w.heap.size w w') :=
    Lib.hid fun w => parse_known ⟨#[71, 69, 84, 32, 47, 97]⟩ (A &&& 4294967231) hP 1024 32 8192 65536 32 8 4 20 true true w (by decide) _ r0
  have K2 : Hid (∀ w, Calls Tryd.prog 10 #[.string ⟨#[71, 69, 84, 32, 47, 97]⟩, .int .u32 ((A &&& 4294967231 ||| 64 : Nat) : Int), ub true] w fun e w' => e = .returned (.tuple #[.string ⟨#[71, 69, 84]⟩, .string ⟨#[47, 97]⟩, .int .i64 0, .int .i64 0]) ∧ Below w.heap.size w w') :=
    Lib.hid fun w => parse_known ⟨#[71, 69, 84, 32, 47, 97]⟩ (A &&& 4294967231 ||| 64) hQ 1024 32 8192 65536 32 8 4 20 true true w (by decide) _ r1
  clear r0 r1 hP hQ
  generalize A &&& 4294967231 ||| 64 = Q at *
  generalize A &&& 4294967231 = P at *
  have HU := Lib.hid (fun w => Bnd.rusual_any w)
  go_enter Tryd.func4, Tryd.ntmps4
  go_wp2_with (first
    | (go_at_call 6; with_reducible refine (known_any _).mono ?_; rintro e w1 ⟨rfl, hb⟩; have hc := hb; clear hb)
    | (go_at_call 12; with_reducible refine (HU.out _).mono ?_; rintro e w2 ⟨rfl, hb⟩; replace hc := Base.below_step hc hb; clear hb)
    | (go_at_call 10; with_reducible refine (K1.out _).mono ?_; rintro e w3 ⟨rfl, hb⟩
       have hq : Below (w2.alloc (.cells (ubCells true) 26)).heap.size (w2.alloc (.cells (ubCells true) 26)) w3 := Base.below_step (((Below.refl _ _).alloc (Nat.le_refl _) _).alloc (by simp) _) hb
       have AT := Lib.hid ((Bnd.At.new w2 26 1024 32 8192 65536 32 8 4 20 true true).below (by simp) hq)
       have S3 := Lib.hid (Nat.lt_of_lt_of_le (show w2.heap.size < (w2.alloc (.cells (ubCells true) 26)).heap.size by simp) hq.size)
       have HB := Lib.hid (Base.below_step (hc.alloc hc.size (.cells (ubCells true) 26)) hq)
       clear hb hq hc))
  refine Sched.region [(0, false), (1, false), (2, false), (3, false), (4, false), (5, false), (6, true), (7, false), (8, false), (9, false), (10, false), (11, false), (12, false), (13, false), (14, false), (15, false)] (fun w' => Bnd.At w' w2.heap.size 1024 32 8192 65536 32 8 4 20 true true) (by kernel_rfl) (by kernel_rfl) (fun _ _ d _ _ h => by cases d <;> exact h) (AT.out.below S3.out (Base.below_drewN (Below.refl _ _) 1)) ?_
  replace AT := Lib.hid (AT.out.below S3.out (Base.below_drewN (Below.refl _ _) 1))
  replace HB := Lib.hid (Base.below_drewN HB.out 1)
  have S4 : Hid (w2.heap.size < (World.drewN w3 1).heap.size) := S3
  clear S3
  generalize World.drewN w3 1 = W6 at *
  simp only [Sched.picked, List.filterMap_cons, List.filterMap_nil, List.getElem?_cons_zero, List.getElem?_cons_succ, Option.map_some]
  iterate 6
    refine Sched.quiet (by rfl) ?_ ?_ ?_
    rotate_left 1
    · intro w' hS
      obtain ⟨q0, q1, q2, q3, q4, q5, q6, q7, q8, q9⟩ := hS
      go_simp
      with_reducible rfl
    simp only [Act.put, List.setIfInBounds_toArray, List.set_cons_zero, List.set_cons_succ]

  refine Sched.change (by rfl) (fun K hK => ?_)
  go_simp
  rw [show IntKind.u32.wrap 64 = 64 from by decide, N2]
  with_reducible refine (K2.out _).mono ?_
  rintro e w7 ⟨rfl, hb⟩
  dsimp only
  replace AT := Lib.hid (AT.out.below S4.out hb)
  replace HB := Lib.hid (Base.below_step HB.out hb)
  clear hb
  refine hK _ _ AT.out ?_
  clear hK K
  iterate 9
    refine Sched.quiet (by rfl) ?_ ?_ ?_
    rotate_left 1
    · intro w' hS
      clear hS
      go_simp
      with_reducible rfl
    simp only [Act.put, List.setIfInBounds_toArray, List.set_cons_zero, List.set_cons_succ]

  refine Sched.done ?_
  clear AT S4 K1 K2 HU
  go_wp2_with fail
  go_ret
  exact ⟨rfl, by first | exact HB.out | exact HB.out.alloc HB.out.size _⟩
set_option maxRecDepth 10000 in
theorem clauses4 (c : Int) (A a : Nat) (old : Bool) (w : World) (hcm : c.tmod 6 = 4) (hm : bits .and .u32 (a : Int) 1073741823 = (A : Int)) (hA : A < 1073741824) :
    Calls Tryd.prog 4 #[.int .u8 c, .int .u32 a, .bool old] w fun e w' => e = .returned (.bool true) ∧ Below w.heap.size w w' := by
  obtain ⟨b0, b1, b2, b3, b4, b5, e1, e2⟩ := cl_off A 7 (by decide)
  simp at e1 e2
  obtain ⟨r0, r1⟩ := case7 b0 b1 b2 b3 b5 old
  rw [← e1] at r0
  rw [← e2] at r1
  clear e1 e2
  have hP : A &&& 4294967167 < 4294967296 := Nat.lt_of_le_of_lt Nat.and_le_left (by omega)
  have hQ : A &&& 4294967167 ||| 128 < 4294967296 := Nat.or_lt_two_pow (n := 32) hP (by decide)
  have N1 : bits .andNot .u32 (A : Int) 128 = ((A &&& 4294967167 : Nat) : Int) := u32_andNot_nat A 128 (by omega) (by decide)
  have N2 : bits .or .u32 ((A &&& 4294967167 : Nat) : Int) 128 = ((A &&& 4294967167 ||| 128 : Nat) : Int) := u32_or_nat (A &&& 4294967167) 128 hP (by decide)
  have K1 : Hid (∀ w, Calls Tryd.prog 10 #[.string ⟨#[71, 69, 84, 32, 47, 97, 32, 98, 32, 72, 84, 84, 80, 47, 49, 46, 49]⟩, .int .u32 ((A &&& 4294967167 : Nat) : Int), ub old] w fun e w' => e = .returned (.tuple #[.string ⟨#[]⟩, .string ⟨#[]⟩, .int .i64 0, .int .i64 400]) ∧ Below w.heap.size w w') :=
    Lib.hid fun w => parse_known ⟨#[71, 69, 84, 32, 47, 97, 32, 98, 32, 72, 84, 84, 80, 47, 49, 46, 49]⟩ (A &&& 4294967167) hP 1024 32 8192 65536 32 8 4 20 true old w (by decide) _ r0
  have K2 : Hid (∀ w, Calls Tryd.prog 10 #[.string ⟨#[71, 69, 84, 32, 47, 97, 32, 98, 32, 72, 84, 84, 80, 47, 49, 46, 49]⟩, .int .u32 ((A &&& 4294967167 ||| 128 : Nat) : Int), ub old] w fun e w' => e = .returned (.tuple #[.string ⟨#[71, 69, 84]⟩, .string ⟨#[47, 97, 32, 98]⟩, .int .i64 1, .int .i64 0]) ∧ Below w.heap.size w w') :=
    Lib.hid fun w => parse_known ⟨#[71, 69, 84, 32, 47, 97, 32, 98, 32, 72, 84, 84, 80, 47, 49, 46, 49]⟩ (A &&& 4294967167 ||| 128) hQ 1024 32 8192 65536 32 8 4 20 true old w (by decide) _ r1
  clear r0 r1 hP hQ
  generalize A &&& 4294967167 ||| 128 = Q at *
  generalize A &&& 4294967167 = P at *
  have HU := Lib.hid (fun w => Bnd.rusual_any w)
  go_enter Tryd.func4, Tryd.ntmps4
  go_wp2_with (first
    | (go_at_call 6; with_reducible refine (known_any _).mono ?_; rintro e w1 ⟨rfl, hb⟩; have hc := hb; clear hb)
    | (go_at_call 12; with_reducible refine (HU.out _).mono ?_; rintro e w2 ⟨rfl, hb⟩; replace hc := Base.below_step hc hb; clear hb)
    | (go_at_call 10; with_reducible refine (K1.out _).mono ?_; rintro e w3 ⟨rfl, hb⟩
       have hq : Below (w2.alloc (.cells (ubCells old) 26)).heap.size (w2.alloc (.cells (ubCells old) 26)) w3 := Base.below_step (((Below.refl _ _).alloc (Nat.le_refl _) _).alloc (by simp) _) hb
       have AT := Lib.hid ((Bnd.At.new w2 26 1024 32 8192 65536 32 8 4 20 true old).below (by simp) hq)
       have S3 := Lib.hid (Nat.lt_of_lt_of_le (show w2.heap.size < (w2.alloc (.cells (ubCells old) 26)).heap.size by simp) hq.size)
       have HB := Lib.hid (Base.below_step (hc.alloc hc.size (.cells (ubCells old) 26)) hq)
       clear hb hq hc))
  refine Sched.region [(0, false), (1, false), (2, false), (3, false), (4, false), (5, false), (6, true), (7, false), (8, false), (9, false), (10, false), (11, false), (12, false), (13, false), (14, false), (15, false)] (fun w' => Bnd.At w' w2.heap.size 1024 32 8192 65536 32 8 4 20 true old) (by kernel_rfl) (by kernel_rfl) (fun _ _ d _ _ h => by cases d <;> exact h) (AT.out.below S3.out (Base.below_drewN (Below.refl _ _) 1)) ?_
  replace AT := Lib.hid (AT.out.below S3.out (Base.below_drewN (Below.refl _ _) 1))
  replace HB := Lib.hid (Base.below_drewN HB.out 1)
  have S4 : Hid (w2.heap.size < (World.drewN w3 1).heap.size) := S3
  clear S3
  generalize World.drewN w3 1 = W6 at *
  simp only [Sched.picked, List.filterMap_cons, List.filterMap_nil, List.getElem?_cons_zero, List.getElem?_cons_succ, Option.map_some]
  iterate 6
    refine Sched.quiet (by rfl) ?_ ?_ ?_
    rotate_left 1
    · intro w' hS
      obtain ⟨q0, q1, q2, q3, q4, q5, q6, q7, q8, q9⟩ := hS
      go_simp
      with_reducible rfl
    simp only [Act.put, List.setIfInBounds_toArray, List.set_cons_zero, List.set_cons_succ]

  refine Sched.change (by rfl) (fun K hK => ?_)
  go_simp
  rw [show IntKind.u32.wrap 128 = 128 from by decide, N2]
  with_reducible refine (K2.out _).mono ?_
  rintro e w7 ⟨rfl, hb⟩
  dsimp only
  replace AT := Lib.hid (AT.out.below S4.out hb)
  replace HB := Lib.hid (Base.below_step HB.out hb)
  clear hb
  refine hK _ _ AT.out ?_
  clear hK K
  iterate 9
    refine Sched.quiet (by rfl) ?_ ?_ ?_
    rotate_left 1
    · intro w' hS
      clear hS
      go_simp
      with_reducible rfl
    simp only [Act.put, List.setIfInBounds_toArray, List.set_cons_zero, List.set_cons_succ]

  refine Sched.done ?_
  clear AT S4 K1 K2 HU
  go_wp2_with fail
  go_ret
  exact ⟨rfl, by first | exact HB.out | exact HB.out.alloc HB.out.size _⟩
set_option maxRecDepth 10000 in
theorem clauses5 (c : Int) (A a : Nat) (old : Bool) (w : World) (hcm : c.tmod 6 = 5) (hm : bits .and .u32 (a : Int) 1073741823 = (A : Int)) (hA : A < 1073741824) :
    Calls Tryd.prog 4 #[.int .u8 c, .int .u32 a, .bool old] w fun e w' => e = .returned (.bool true) ∧ Below w.heap.size w w' := by
  obtain ⟨b0, b1, b2, b3, b4, b5, e1, e2⟩ := cl_off A 8 (by decide)
  simp at e1 e2
  obtain ⟨r0, r1⟩ := case8 b0 b1 b2 b3 b4 old
  rw [← e1] at r0
  rw [← e2] at r1
  clear e1 e2
  have hP : A &&& 4294967039 < 4294967296 := Nat.lt_of_le_of_lt Nat.and_le_left (by omega)
  have hQ : A &&& 4294967039 ||| 256 < 4294967296 := Nat.or_lt_two_pow (n := 32) hP (by decide)
  have N1 : bits .andNot .u32 (A : Int) 256 = ((A &&& 4294967039 : Nat) : Int) := u32_andNot_nat A 256 (by omega) (by decide)
  have N2 : bits .or .u32 ((A &&& 4294967039 : Nat) : Int) 256 = ((A &&& 4294967039 ||| 256 : Nat) : Int) := u32_or_nat (A &&& 4294967039) 256 hP (by decide)
  have K1 : Hid (∀ w, Calls Tryd.prog 10 #[.string ⟨#[71, 69, 84, 32, 47, 97, 1, 32, 72, 84, 84, 80, 47, 49, 46, 49]⟩, .int .u32 ((A &&& 4294967039 : Nat) : Int), ub old] w fun e w' => e = .returned (.tuple #[.string ⟨#[]⟩, .string ⟨#[]⟩, .int .i64 0, .int .i64 400]) ∧ Below w.heap.size w w') :=
    Lib.hid fun w => parse_known ⟨#[71, 69, 84, 32, 47, 97, 1, 32, 72, 84, 84, 80, 47, 49, 46, 49]⟩ (A &&& 4294967039) hP 1024 32 8192 65536 32 8 4 20 true old w (by decide) _ r0
  have K2 : Hid (∀ w, Calls Tryd.prog 10 #[.string ⟨#[71, 69, 84, 32, 47, 97, 1, 32, 72, 84, 84, 80, 47, 49, 46, 49]⟩, .int .u32 ((A &&& 4294967039 ||| 256 : Nat) : Int), ub old] w fun e w' => e = .returned (.tuple #[.string ⟨#[71, 69, 84]⟩, .string ⟨#[47, 97, 1]⟩, .int .i64 1, .int .i64 0]) ∧ Below w.heap.size w w') :=
    Lib.hid fun w => parse_known ⟨#[71, 69, 84, 32, 47, 97, 1, 32, 72, 84, 84, 80, 47, 49, 46, 49]⟩ (A &&& 4294967039 ||| 256) hQ 1024 32 8192 65536 32 8 4 20 true old w (by decide) _ r1
  clear r0 r1 hP hQ
  generalize A &&& 4294967039 ||| 256 = Q at *
  generalize A &&& 4294967039 = P at *
  have HU := Lib.hid (fun w => Bnd.rusual_any w)
  go_enter Tryd.func4, Tryd.ntmps4
  go_wp2_with (first
    | (go_at_call 6; with_reducible refine (known_any _).mono ?_; rintro e w1 ⟨rfl, hb⟩; have hc := hb; clear hb)
    | (go_at_call 12; with_reducible refine (HU.out _).mono ?_; rintro e w2 ⟨rfl, hb⟩; replace hc := Base.below_step hc hb; clear hb)
    | (go_at_call 10; with_reducible refine (K1.out _).mono ?_; rintro e w3 ⟨rfl, hb⟩
       have hq : Below (w2.alloc (.cells (ubCells old) 26)).heap.size (w2.alloc (.cells (ubCells old) 26)) w3 := Base.below_step (((Below.refl _ _).alloc (Nat.le_refl _) _).alloc (by simp) _) hb
       have AT := Lib.hid ((Bnd.At.new w2 26 1024 32 8192 65536 32 8 4 20 true old).below (by simp) hq)
       have S3 := Lib.hid (Nat.lt_of_lt_of_le (show w2.heap.size < (w2.alloc (.cells (ubCells old) 26)).heap.size by simp) hq.size)
       have HB := Lib.hid (Base.below_step (hc.alloc hc.size (.cells (ubCells old) 26)) hq)
       clear hb hq hc))
  refine Sched.region [(0, false), (1, false), (2, false), (3, false), (4, false), (5, false), (6, true), (7, false), (8, false), (9, false), (10, false), (11, false), (12, false), (13, false), (14, false), (15, false)] (fun w' => Bnd.At w' w2.heap.size 1024 32 8192 65536 32 8 4 20 true old) (by kernel_rfl) (by kernel_rfl) (fun _ _ d _ _ h => by cases d <;> exact h) (AT.out.below S3.out (Base.below_drewN (Below.refl _ _) 1)) ?_
  replace AT := Lib.hid (AT.out.below S3.out (Base.below_drewN (Below.refl _ _) 1))
  replace HB := Lib.hid (Base.below_drewN HB.out 1)
  have S4 : Hid (w2.heap.size < (World.drewN w3 1).heap.size) := S3
  clear S3
  generalize World.drewN w3 1 = W6 at *
  simp only [Sched.picked, List.filterMap_cons, List.filterMap_nil, List.getElem?_cons_zero, List.getElem?_cons_succ, Option.map_some]
  iterate 6
    refine Sched.quiet (by rfl) ?_ ?_ ?_
    rotate_left 1
    · intro w' hS
      obtain ⟨q0, q1, q2, q3, q4, q5, q6, q7, q8, q9⟩ := hS
      go_simp
      with_reducible rfl
    simp only [Act.put, List.setIfInBounds_toArray, List.set_cons_zero, List.set_cons_succ]

  refine Sched.change (by rfl) (fun K hK => ?_)
  go_simp
  rw [show IntKind.u32.wrap 256 = 256 from by decide, N2]
  with_reducible refine (K2.out _).mono ?_
  rintro e w7 ⟨rfl, hb⟩
  dsimp only
  replace AT := Lib.hid (AT.out.below S4.out hb)
  replace HB := Lib.hid (Base.below_step HB.out hb)
  clear hb
  refine hK _ _ AT.out ?_
  clear hK K
  iterate 9
    refine Sched.quiet (by rfl) ?_ ?_ ?_
    rotate_left 1
    · intro w' hS
      clear hS
      go_simp
      with_reducible rfl
    simp only [Act.put, List.setIfInBounds_toArray, List.set_cons_zero, List.set_cons_succ]

  refine Sched.done ?_
  clear AT S4 K1 K2 HU
  go_wp2_with fail
  go_ret
  exact ⟨rfl, by first | exact HB.out | exact HB.out.alloc HB.out.size _⟩

theorem requestClauses_any (c : Int) (a : Nat) (old : Bool) (w : World) (hc : 0 ≤ c) (ha : a < 4294967296) :
    Calls Tryd.prog 4 #[.int .u8 c, .int .u32 a, .bool old] w fun e w' => e = .returned (.bool true) ∧ Below w.heap.size w w' := by
  have hm := Seat.mask30 a ha
  have hA : a % 1073741824 < 1073741824 := Nat.mod_lt _ (by decide)
  obtain ⟨r, hr, hcm⟩ := rem_of c 6 (by decide) hc
  rcases (by omega : r = 0 ∨ r = 1 ∨ r = 2 ∨ r = 3 ∨ r = 4 ∨ r = 5) with rfl | rfl | rfl | rfl | rfl | rfl
  · exact clauses0 c _ a old w hcm hm hA
  · exact clauses1 c _ a old w hcm hm hA
  · exact clauses2 c _ a old w hcm hm hA
  · cases old with
    | false => exact clauses3false c _ a w hcm hm hA
    | true => exact clauses3true c _ a w hcm hm hA
  · exact clauses4 c _ a old w hcm hm hA
  · exact clauses5 c _ a old w hcm hm hA
end code
end Go.Proofs.YtlignmlkoahbmaaDoor.Rq
