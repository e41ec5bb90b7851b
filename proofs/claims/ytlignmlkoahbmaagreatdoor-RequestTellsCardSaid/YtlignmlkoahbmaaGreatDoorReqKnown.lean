/-
  Layer 8 (request): what the laws' 'known' answers: true.
-/
import Derived.Test.YtlignmlkoahbmaaGreatDoorReqParse
import Derived.Test.YtlignmlkoahbmaaGreatDoorBounds
namespace Go.Proofs.YtlignmlkoahbmaaGreatDoor.Rq
open Go.RowKit Base Txt

/-- What is read of a line that is known. -/
theorem parse_known (s : ByteArray) (p : Nat) (hp : p < 4294967296) (x0 x1 x2 x3 x4 x5 x6 x7 : Int) (ch old : Bool) (w : World) (hs : s.size ≤ 900000000) (R : List UInt8 × List UInt8 × Nat × Nat) (h : request (clOf p) old s.data.toList = R) :
    Calls Tryz.prog 10 #[.string s, .int .u32 (p : Nat), Bnd.bnd x0 x1 x2 x3 x4 x5 x6 x7 ch old] w fun e w' => e = .returned (rv R) ∧ Below w.heap.size w w' := by
  have := parse_any s p hp x0 x1 x2 x3 x4 x5 x6 x7 ch old w hs
  rwa [h] at this
abbrev ub (old : Bool) : Value := Bnd.bnd 1024 32 8192 65536 32 8 4 20 true old
abbrev ubCells (old : Bool) : Array Value := #[.int .i64 1024, .int .i64 32, .int .i64 8192, .int .i64 65536, .int .i64 32, .int .i64 8, .int .i64 4, .int .i64 20, .bool true, .bool old]
theorem known_lines : request (clOf 0) true [71, 69, 84, 32, 47, 32, 72, 84, 84, 80, 47, 49, 46, 49] = ([71, 69, 84], [47], 1, 0) ∧ request (clOf 0) true [71, 69, 84, 32, 32, 47, 32, 72, 84, 84, 80, 47, 49, 46, 49] = badR ∧ request (clOf 0) true [71, 69, 84, 32, 47, 32, 72, 84, 84, 80, 47, 49, 46, 50] = verR := by decide +kernel

section code
set_option maxHeartbeats 1000000
attribute [local go_sem] Base.some_undef
set_option maxRecDepth 10000 in
theorem known_any (w : World) : Calls Tryz.prog 4 #[] w fun e w' => e = .returned (.bool true) ∧ Below w.heap.size w w' := by
  have K1 : Hid (∀ w, Calls Tryz.prog 10 #[.string ⟨#[71, 69, 84, 32, 47, 32, 72, 84, 84, 80, 47, 49, 46, 49]⟩, .int .u32 0, ub true] w fun e w' => e = .returned (.tuple #[.string ⟨#[71, 69, 84]⟩, .string ⟨#[47]⟩, .int .i64 1, .int .i64 0]) ∧ Below w.heap.size w w') :=
    Lib.hid fun w => parse_known ⟨#[71, 69, 84, 32, 47, 32, 72, 84, 84, 80, 47, 49, 46, 49]⟩ 0 (by decide) _ _ _ _ _ _ _ _ _ _ w (by decide) _ known_lines.1
  have K2 : Hid (∀ w, Calls Tryz.prog 10 #[.string ⟨#[71, 69, 84, 32, 32, 47, 32, 72, 84, 84, 80, 47, 49, 46, 49]⟩, .int .u32 0, ub true] w fun e w' => e = .returned (.tuple #[.string ⟨#[]⟩, .string ⟨#[]⟩, .int .i64 0, .int .i64 400]) ∧ Below w.heap.size w w') :=
    Lib.hid fun w => parse_known ⟨#[71, 69, 84, 32, 32, 47, 32, 72, 84, 84, 80, 47, 49, 46, 49]⟩ 0 (by decide) _ _ _ _ _ _ _ _ _ _ w (by decide) _ known_lines.2.1
  have K3 : Hid (∀ w, Calls Tryz.prog 10 #[.string ⟨#[71, 69, 84, 32, 47, 32, 72, 84, 84, 80, 47, 49, 46, 50]⟩, .int .u32 0, ub true] w fun e w' => e = .returned (.tuple #[.string ⟨#[]⟩, .string ⟨#[]⟩, .int .i64 0, .int .i64 505]) ∧ Below w.heap.size w w') :=
    Lib.hid fun w => parse_known ⟨#[71, 69, 84, 32, 47, 32, 72, 84, 84, 80, 47, 49, 46, 50]⟩ 0 (by decide) _ _ _ _ _ _ _ _ _ _ w (by decide) _ known_lines.2.2
  have U : Hid (∀ w, Calls Tryz.prog 12 #[.string ⟨#[71, 69, 84]⟩, .string ⟨#[47]⟩] w fun e w' => e = .returned (.string ⟨#[71, 69, 84, 32, 47, 32, 72, 84, 84, 80, 47, 49, 46, 49]⟩) ∧ w' = w) :=
    Lib.hid fun w => by
      have h := put_any ⟨#[71, 69, 84]⟩ ⟨#[47]⟩ w (by decide) (by decide)
      have e : lineOf ⟨#[71, 69, 84]⟩ ⟨#[47]⟩ = ⟨#[71, 69, 84, 32, 47, 32, 72, 84, 84, 80, 47, 49, 46, 49]⟩ := by decide +kernel
      rwa [e] at h
  have HU := Lib.hid (fun w => Bnd.rusual_any w)
  go_enter Tryz.func4, Tryz.ntmps4
  go_wp2_with (first
    | (go_at_call 14; with_reducible refine (HU.out _).mono ?_; rintro e w1 ⟨rfl, hb⟩
       have A := Lib.hid (Bnd.At.new w1 28 1024 32 8192 65536 32 8 4 20 true true)
       have S := Lib.hid (show w1.heap.size < (w1.alloc (.cells (ubCells true) 28)).heap.size by simp)
       have HB := Lib.hid (hb.alloc hb.size (.cells (ubCells true) 28))
       clear hb)
    | (go_at_call 10; with_reducible refine (K1.out _).mono ?_; rintro e w2 ⟨rfl, hb⟩
       obtain ⟨q0, q1, q2, q3, q4, q5, q6, q7, q8, q9⟩ := A.out.below S.out hb
       replace A := Lib.hid (A.out.below S.out hb)
       replace S := Lib.hid (Nat.lt_of_lt_of_le S.out hb.size)
       replace HB := Lib.hid (Base.below_step HB.out hb)
       clear hb)
    | (go_at_call 10; with_reducible refine (K2.out _).mono ?_; rintro e w3 ⟨rfl, hb⟩
       clear q0 q1 q2 q3 q4 q5 q6 q7 q8 q9
       obtain ⟨q0, q1, q2, q3, q4, q5, q6, q7, q8, q9⟩ := A.out.below S.out hb
       replace HB := Lib.hid (Base.below_step HB.out hb)
       clear hb)
    | (go_at_call 10; with_reducible refine (K3.out _).mono ?_; rintro e w4 ⟨rfl, hb⟩
       replace HB := Lib.hid (Base.below_step HB.out hb)
       clear hb)
    | (go_at_call 12; with_reducible refine (U.out _).mono ?_; rintro e w5 ⟨rfl, hw⟩; rw [hw]; clear hw))
  go_ret
  exact ⟨rfl, HB.out⟩
end code
end Go.Proofs.YtlignmlkoahbmaaGreatDoor.Rq
