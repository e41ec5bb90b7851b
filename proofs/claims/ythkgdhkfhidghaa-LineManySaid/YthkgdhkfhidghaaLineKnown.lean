/-
  Layer 6 (line): the walk of the laws' first test (three ends that are known).
-/
import Derived.Test.YthkgdhkfhidghaaLineTwo
namespace Go.Proofs.Ythkgdhkfhidghaa.Ln
open Go.RowKit Base

abbrev k0 : M := ⟨false, false, 5, [], 0, false⟩
abbrev k6 : M := ⟨true, true, 5, [], 0, false⟩
theorem of0 : M.of 0 5 = k0 := by
  show M.new (Qk.has 0 1) (Qk.has 0 2) (mid 5) = _
  rw [show Qk.has 0 1 = false by decide, show Qk.has 0 2 = false by decide, show mid 5 = 5 by decide]; rfl
theorem of6 : M.of 6 5 = k6 := by
  show M.new (Qk.has 6 1) (Qk.has 6 2) (mid 5) = _
  rw [show Qk.has 6 1 = true by decide, show Qk.has 6 2 = true by decide, show mid 5 = 5 by decide]; rfl
theorem k0_ok : k0.Ok := ⟨.inl rfl, by decide, by decide, by decide⟩
theorem k6_ok : k6.Ok := ⟨.inl rfl, by decide, by decide, by decide⟩

/-- New, in a world that holds nothing else of interest; beside a reader. -/
theorem new_one (p : Nat) (hp : p < 4294967296) (most : Int) (w : World) : Calls Try.prog 8 #[.int .u32 p, .int .i64 most] w fun e w' => e = .returned (ptr w.heap.size) ∧ One w' w.heap.size w.heap.size (M.of p most) ∧ Below w.heap.size w w' := by
  refine (new_any p hp most w).mono ?_
  rintro e w' ⟨rfl, rfl⟩
  exact ⟨rfl, One.new w _ rfl, (Below.refl _ _).alloc (Nat.le_refl _) _⟩
theorem new_two (p : Nat) (hp : p < 4294967296) (most : Int) {w : World} {B g : Nat} {m : M} (h : One w B g m) : Calls Try.prog 8 #[.int .u32 p, .int .i64 most] w fun e w' => e = .returned (ptr w.heap.size) ∧ Two w' B g m w.heap.size (M.of p most) ∧ Below w.heap.size w w' := by
  refine (new_any p hp most w).mono ?_
  rintro e w' ⟨rfl, rfl⟩
  exact ⟨rfl, Two.new h _ rfl, (Below.refl _ _).alloc (Nat.le_refl _) _⟩
theorem new_both (p : Nat) (most : Int) {w : World} {B g : Nat} {m : M} (h : One w B g m) : Calls Try.prog 9 #[.int .u32 p, .int .i64 most] w
    fun e w' => e = .returned (ptr w.heap.size) ∧ Both w' B g m w.heap.size p (R.new (Qk.has p 1) (Qk.has p 2) (mid most)) ∧ Below w.heap.size w w' := by
  refine (rnew_any p most w).mono ?_
  rintro e w' ⟨rfl, rfl⟩
  exact ⟨rfl, Both.new h p _ rfl, (Below.refl _ _).alloc (Nat.le_refl _) _⟩

section code
set_option maxHeartbeats 4000000
attribute [local go_sem] Base.some_undef
theorem known_any (w : World) : Calls Try.prog 6 #[] w fun e w' => e = .returned (.bool true) ∧ Below w.heap.size w w' := by
  have N1 : Hid (∀ w, Calls Try.prog 8 #[.int .u32 0, .int .i64 5] w fun e w' => e = .returned (ptr w.heap.size) ∧ One w' w.heap.size w.heap.size k0 ∧ Below w.heap.size w w') := Lib.hid (fun w => by rw [← of0]; exact new_one 0 (by decide) 5 w)
  have N2 : Hid (∀ (w : World) (B g : Nat) (m : M), One w B g m → Calls Try.prog 8 #[.int .u32 6, .int .i64 5] w fun e w' => e = .returned (ptr w.heap.size) ∧ Two w' B g m w.heap.size k6 ∧ Below w.heap.size w w') := Lib.hid (fun w B g m h => by rw [← of6]; exact new_two 6 (by decide) 5 h)
  have o1 := k0_ok.byte 120
  have o2 := o1.byte 13
  have o3 := o2.byte 10
  have r1 := k6_ok.byte 10
  have r2 := r1.byte 13
  have B1 : Hid (∀ (w : World) (B g : Nat), One w B g k0 → Calls Try.prog 10 #[ptr g, .int .u8 120] w fun e w' => e = .returned (.int .i64 0) ∧ One w' B g (k0.byte 120) ∧ Below B w w') := Lib.hid (fun w B g h => one_byte 120 k0_ok h)
  have B2 : Hid (∀ (w : World) (B g : Nat), One w B g (k0.byte 120) → Calls Try.prog 10 #[ptr g, .int .u8 13] w fun e w' => e = .returned (.int .i64 0) ∧ One w' B g ((k0.byte 120).byte 13) ∧ Below B w w') := Lib.hid (fun w B g h => one_byte 13 o1 h)
  have B3 : Hid (∀ (w : World) (B g : Nat), One w B g ((k0.byte 120).byte 13) → Calls Try.prog 10 #[ptr g, .int .u8 10] w fun e w' => e = .returned (.int .i64 1) ∧ One w' B g (((k0.byte 120).byte 13).byte 10) ∧ Below B w w') := Lib.hid (fun w B g h => one_byte 10 o2 h)
  have L2 : Hid (∀ (w : World) (B g : Nat), One w B g ((k0.byte 120).byte 13) → Calls Try.prog 13 #[ptr g] w fun e w' => e = .returned (.int .i64 1) ∧ w' = w) := Lib.hid (fun w B g h => one_len h)
  have P2 : Hid (∀ (w : World) (B g : Nat), One w B g ((k0.byte 120).byte 13) → Calls Try.prog 14 #[ptr g] w fun e w' => e = .returned (.bool true) ∧ w' = w) := Lib.hid (fun w B g h => one_pending h)
  have S3 : Hid (∀ (w : World) (B g : Nat), One w B g (((k0.byte 120).byte 13).byte 10) → Calls Try.prog 12 #[ptr g] w fun e w' => e = .returned (.string ⟨#[120]⟩) ∧ w' = w) := Lib.hid (fun w B g h => one_line h)
  have C1 : Hid (∀ (w : World) (B g : Nat) (m : M) (g' : Nat), Two w B g m g' k6 → Calls Try.prog 10 #[ptr g', .int .u8 10] w fun e w' => e = .returned (.int .i64 1) ∧ Two w' B g m g' (k6.byte 10) ∧ Below B w w') := Lib.hid (fun w B g m g' h => two_byte' 10 k6_ok h)
  have C2 : Hid (∀ (w : World) (B g : Nat) (m : M) (g' : Nat), Two w B g m g' (k6.byte 10) → Calls Try.prog 10 #[ptr g', .int .u8 13] w fun e w' => e = .returned (.int .i64 0) ∧ Two w' B g m g' ((k6.byte 10).byte 13) ∧ Below B w w') := Lib.hid (fun w B g m g' h => two_byte' 13 r1 h)
  have C3 : Hid (∀ (w : World) (B g : Nat) (m : M) (g' : Nat), Two w B g m g' ((k6.byte 10).byte 13) → Calls Try.prog 10 #[ptr g', .int .u8 121] w fun e w' => e = .returned (.int .i64 2) ∧ Two w' B g m g' (((k6.byte 10).byte 13).byte 121) ∧ Below B w w') := Lib.hid (fun w B g m g' h => two_byte' 121 r2 h)
  have C4 : Hid (∀ (w : World) (B g : Nat) (g' : Nat) (m' : M), Two w B g (((k0.byte 120).byte 13).byte 10) g' m' → Calls Try.prog 10 #[ptr g, .int .u8 10] w fun e w' => e = .returned (.int .i64 3) ∧ Below B w w') := Lib.hid (fun w B g g' m' h => (two_byte 10 o3 h).mono (by
    rintro e w' ⟨rfl, _, hb⟩; exact ⟨rfl, hb⟩))
  clear o1 o2 o3 r1 r2
  generalize ((k0.byte 120).byte 13).byte 10 = s3 at *
  generalize (k0.byte 120).byte 13 = s2 at *
  generalize k0.byte 120 = s1 at *
  generalize k0 = s0 at *
  generalize ((k6.byte 10).byte 13).byte 121 = t3 at *
  generalize (k6.byte 10).byte 13 = t2 at *
  generalize k6.byte 10 = t1 at *
  generalize k6 = t0 at *
  generalize hB : w.heap.size = B
  have N1' := N1.out w
  rw [hB] at N1'
  have HN1 := Lib.hid N1'
  clear N1' N1
  go_enter Try.func6, Try.ntmps6
  go_wp2_with (first
    | (go_at_call 8; first
      | (with_reducible refine (HN1.out).mono ?_; rintro e w1 ⟨rfl, h0, hb⟩)
      | (with_reducible refine (N2.out _ _ _ _ h3).mono ?_; rintro e w5 ⟨rfl, u0, hb5⟩; replace hb := hb.trans (hb5.mono hbs)))
    | (go_at_call 10; first
      | (with_reducible refine (B1.out _ _ _ h0).mono ?_; rintro e w2 ⟨rfl, h1, hk⟩; replace hb := hb.trans hk; clear hk h0)
      | (with_reducible refine (B2.out _ _ _ h1).mono ?_; rintro e w3 ⟨rfl, h2, hk⟩; replace hb := hb.trans hk; clear hk h1)
      | (with_reducible refine (B3.out _ _ _ h2).mono ?_; rintro e w4 ⟨rfl, h3, hk⟩; replace hb := hb.trans hk; clear hk h2; have hbs := Nat.le_trans (Nat.le_of_eq hB.symm) hb.size)
      | (with_reducible refine (C1.out _ _ _ _ _ u0).mono ?_; rintro e w6 ⟨rfl, u1, hk⟩; replace hb := hb.trans hk; clear hk u0)
      | (with_reducible refine (C2.out _ _ _ _ _ u1).mono ?_; rintro e w7 ⟨rfl, u2, hk⟩; replace hb := hb.trans hk; clear hk u1)
      | (with_reducible refine (C3.out _ _ _ _ _ u2).mono ?_; rintro e w8 ⟨rfl, u3, hk⟩; replace hb := hb.trans hk; clear hk u2)
      | (with_reducible refine (C4.out _ _ _ _ _ u3).mono ?_; rintro e w9 ⟨rfl, hk⟩; replace hb := hb.trans hk; clear hk u3))
    | (go_at_call 13; with_reducible refine (L2.out _ _ _ h2).mono ?_; rintro e w10 ⟨rfl, hw⟩; rw [hw]; clear hw)
    | (go_at_call 14; with_reducible refine (P2.out _ _ _ h2).mono ?_; rintro e w10 ⟨rfl, hw⟩; rw [hw]; clear hw)
    | (go_at_call 12; with_reducible refine (S3.out _ _ _ h3).mono ?_; rintro e w10 ⟨rfl, hw⟩; rw [hw]; clear hw))
  go_ret
  exact ⟨rfl, hb⟩
end code
end Go.Proofs.Ythkgdhkfhidghaa.Ln
