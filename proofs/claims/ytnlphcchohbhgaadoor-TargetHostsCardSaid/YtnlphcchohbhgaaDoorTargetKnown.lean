/-
  Layer 7 (target): what the laws' 'known' answers: true.
-/
import Derived.Test.YtnlphcchohbhgaaDoorTargetAbs
import Derived.Test.YtnlphcchohbhgaaDoorTargetPut
namespace Go.Proofs.YtnlphcchohbhgaaDoor.Tgt
open Go.RowKit Base Oct Num Txt

/-- What is read by a text that is known. -/
theorem parse_known (m s : ByteArray) (w : World) (hs : s.size ≤ 900000000) (R : Option Tg) (h : parse m.data.toList s.data.toList = R) : Calls Tryd.prog 9 #[.string m, .string s] w fun e w' => e = .returned (ans R) ∧ Below w.heap.size w w' := by
  have := parse_any m s w hs
  rwa [h] at this
theorem host_known (s : ByteArray) (w : World) (hs : s.size ≤ 1000000000) (b : Bool) (h : hostB s.data.toList = b) : Calls Tryd.prog 13 #[.string s] w fun e w' => e = .returned (.bool b) ∧ Below w.heap.size w w' := by
  have := host_any s w hs
  rwa [h] at this
theorem path_known (s : ByteArray) (w : World) (b : Bool) (h : pathB s.data.toList = b) : Calls Tryd.prog 15 #[.string s] w fun e w' => e = .returned (.bool b) ∧ Below w.heap.size w w' := by
  have := path_any s w
  rwa [h] at this
theorem query_known (s : ByteArray) (w : World) (b : Bool) (h : queryB s.data.toList = b) : Calls Tryd.prog 17 #[.string s] w fun e w' => e = .returned (.bool b) ∧ Below w.heap.size w w' := by
  have := query_any s w
  rwa [h] at this
theorem old_cell {w : World} {g : Nat} (h : g < w.heap.size) : ∀ (o : Obj) (k : Nat), (w.alloc o).cell? ⟨g, k, none⟩ = w.cell? ⟨g, k, none⟩ := fun o k => World.cell?_alloc_lt w o ⟨g, k, none⟩ h

section code
set_option maxHeartbeats 1000000
attribute [local go_sem] Base.some_undef
set_option maxRecDepth 10000 in
theorem known_any (w : World) : Calls Tryd.prog 7 #[] w fun e w' => e = .returned (.bool true) ∧ Below w.heap.size w w' := by
  have K1 : Hid (∀ w, Calls Tryd.prog 9 #[.string ⟨#[71, 69, 84]⟩, .string ⟨#[47, 97, 63, 98]⟩] w fun e w' => e = .returned (.tuple #[tv 1 E0 ⟨#[47, 97]⟩ ⟨#[98]⟩ true, .int .i64 0]) ∧ Below w.heap.size w w') := Lib.hid fun w => parse_known ⟨#[71, 69, 84]⟩ ⟨#[47, 97, 63, 98]⟩ w (by decide) (some ⟨1, [], [47, 97], [98], true⟩) (by decide +kernel)
  have K2 : Hid (∀ w, Calls Tryd.prog 9 #[.string ⟨#[71, 69, 84]⟩, .string ⟨#[104, 116, 116, 112, 58, 47, 47, 104, 63, 113]⟩] w fun e w' => e = .returned (.tuple #[tv 2 ⟨#[104]⟩ ⟨#[47]⟩ ⟨#[113]⟩ true, .int .i64 0]) ∧ Below w.heap.size w w') := Lib.hid fun w => parse_known ⟨#[71, 69, 84]⟩ ⟨#[104, 116, 116, 112, 58, 47, 47, 104, 63, 113]⟩ w (by decide) (some ⟨2, [104], [47], [113], true⟩) (by decide +kernel)
  have K3 : Hid (∀ w, Calls Tryd.prog 9 #[.string ⟨#[71, 69, 84]⟩, .string ⟨#[97]⟩] w fun e w' => e = .returned (.tuple #[tv 0 E0 E0 E0 false, .int .i64 400]) ∧ Below w.heap.size w w') := Lib.hid fun w => parse_known ⟨#[71, 69, 84]⟩ ⟨#[97]⟩ w (by decide) none (by decide +kernel)
  have K4 : Hid (∀ w, Calls Tryd.prog 9 #[.string ⟨#[79, 80, 84, 73, 79, 78, 83]⟩, .string ⟨#[42]⟩] w fun e w' => e = .returned (.tuple #[tv 4 E0 E0 E0 false, .int .i64 0]) ∧ Below w.heap.size w w') := Lib.hid fun w => parse_known ⟨#[79, 80, 84, 73, 79, 78, 83]⟩ ⟨#[42]⟩ w (by decide) (some ⟨4, [], [], [], false⟩) (by decide +kernel)
  have H1 := Lib.hid (fun w => host_known ⟨#[97, 46, 98, 58, 56, 48]⟩ w (by decide) true (by decide +kernel))
  have H2 := Lib.hid (fun w => host_known ⟨#[97, 58]⟩ w (by decide) false (by decide +kernel))
  have P1 := Lib.hid (fun w => path_known ⟨#[47, 37, 52, 49]⟩ w true (by decide +kernel))
  have P2 := Lib.hid (fun w => path_known ⟨#[47, 37, 52]⟩ w false (by decide +kernel))
  have Q1 := Lib.hid (fun w => query_known ⟨#[97, 63, 98]⟩ w true (by decide +kernel))
  have U1 := Lib.hid (fun w => put_any 1 E0 ⟨#[47, 97]⟩ ⟨#[98]⟩ true w (by decide) (by decide) (by decide))
  have hu : putV 1 E0 ⟨#[47, 97]⟩ ⟨#[98]⟩ true = ⟨#[47, 97, 63, 98]⟩ := by decide +kernel
  rw [hu] at U1
  clear hu
  go_enter Tryd.func7, Tryd.ntmps7
  go_wp2_with (first
    | (go_at_call 9; with_reducible refine (K1.out _).mono ?_; rintro e w1 ⟨rfl, hb⟩
       have T1 := Lib.hid (Tgb.new w1 27 1 E0 ⟨#[47, 97]⟩ ⟨#[98]⟩ true)
       have S1 := Lib.hid (show w1.heap.size < (w1.alloc (.cells #[.int .i64 1, .string E0, .string ⟨#[47, 97]⟩, .string ⟨#[98]⟩, .bool true] 27)).heap.size by simp)
       have HB := Lib.hid (hb.alloc hb.size (.cells #[.int .i64 1, .string E0, .string ⟨#[47, 97]⟩, .string ⟨#[98]⟩, .bool true] 27))
       clear hb)
    | (go_at_call 9; with_reducible refine (K2.out _).mono ?_; rintro e w2 ⟨rfl, hb⟩
       have hb' := hb.alloc hb.size (.cells #[.int .i64 2, .string ⟨#[104]⟩, .string ⟨#[47]⟩, .string ⟨#[113]⟩, .bool true] 27)
       have T3 := Lib.hid (Tgb.new w2 27 2 ⟨#[104]⟩ ⟨#[47]⟩ ⟨#[113]⟩ true)
       have S3 := Lib.hid (show w2.heap.size < (w2.alloc (.cells #[.int .i64 2, .string ⟨#[104]⟩, .string ⟨#[47]⟩, .string ⟨#[113]⟩, .bool true] 27)).heap.size by simp)
       replace T1 := Lib.hid (T1.out.below S1.out hb')
       replace S1 := Lib.hid (Nat.lt_of_lt_of_le S1.out hb'.size)
       replace HB := Lib.hid (Base.below_step HB.out hb')
       clear hb hb')
    | (go_at_call 9; with_reducible refine (K3.out _).mono ?_; rintro e w3 ⟨rfl, hb⟩
       have hb' := hb.alloc hb.size (.cells #[.int .i64 0, .string E0, .string E0, .string E0, .bool false] 27)
       replace T1 := Lib.hid (T1.out.below S1.out hb')
       replace S1 := Lib.hid (Nat.lt_of_lt_of_le S1.out hb'.size)
       replace T3 := Lib.hid (T3.out.below S3.out hb')
       replace S3 := Lib.hid (Nat.lt_of_lt_of_le S3.out hb'.size)
       replace HB := Lib.hid (Base.below_step HB.out hb')
       clear hb hb')
    | (go_at_call 9; with_reducible refine (K4.out _).mono ?_; rintro e w4 ⟨rfl, hb⟩
       have hb' := hb.alloc hb.size (.cells #[.int .i64 4, .string E0, .string E0, .string E0, .bool false] 27)
       obtain ⟨c0, c1, c2, c3, c4, _, _, _, _, _⟩ := T1.out.below S1.out hb
       obtain ⟨e0, e1, e2, e3, e4, _, _, _, _, _⟩ := T3.out.below S3.out hb
       have A1 := old_cell (Nat.lt_of_lt_of_le S1.out hb.size)
       have A3 := old_cell (Nat.lt_of_lt_of_le S3.out hb.size)
       replace T1 := Lib.hid (T1.out.below S1.out hb')
       replace S1 := Lib.hid (Nat.lt_of_lt_of_le S1.out hb'.size)
       replace HB := Lib.hid (Base.below_step HB.out hb')
       clear hb hb' T3 S3)
    | (go_at_call 13; with_reducible refine (H1.out _).mono ?_; rintro e w5 ⟨rfl, hb⟩
       replace T1 := Lib.hid (T1.out.below S1.out hb)
       replace S1 := Lib.hid (Nat.lt_of_lt_of_le S1.out hb.size)
       replace HB := Lib.hid (Base.below_step HB.out hb)
       clear hb)
    | (go_at_call 13; with_reducible refine (H2.out _).mono ?_; rintro e w6 ⟨rfl, hb⟩
       replace T1 := Lib.hid (T1.out.below S1.out hb)
       replace S1 := Lib.hid (Nat.lt_of_lt_of_le S1.out hb.size)
       replace HB := Lib.hid (Base.below_step HB.out hb)
       clear hb)
    | (go_at_call 15; with_reducible refine (P1.out _).mono ?_; rintro e w7 ⟨rfl, hb⟩
       replace T1 := Lib.hid (T1.out.below S1.out hb)
       replace S1 := Lib.hid (Nat.lt_of_lt_of_le S1.out hb.size)
       replace HB := Lib.hid (Base.below_step HB.out hb)
       clear hb)
    | (go_at_call 15; with_reducible refine (P2.out _).mono ?_; rintro e w8 ⟨rfl, hb⟩
       replace T1 := Lib.hid (T1.out.below S1.out hb)
       replace S1 := Lib.hid (Nat.lt_of_lt_of_le S1.out hb.size)
       replace HB := Lib.hid (Base.below_step HB.out hb)
       clear hb)
    | (go_at_call 17; with_reducible refine (Q1.out _).mono ?_; rintro e w9 ⟨rfl, hb⟩
       replace T1 := Lib.hid (T1.out.below S1.out hb)
       replace S1 := Lib.hid (Nat.lt_of_lt_of_le S1.out hb.size)
       replace HB := Lib.hid (Base.below_step HB.out hb)
       clear hb
       obtain ⟨f0, f1, f2, f3, f4, _, _, _, _, _⟩ := T1.out)
    | (go_at_call 11; with_reducible refine (U1.out _).mono ?_; rintro e w10 ⟨rfl, hb⟩
       replace HB := Lib.hid (Base.below_step HB.out hb)
       clear hb))
  go_ret
  exact ⟨rfl, HB.out⟩
end code
end Go.Proofs.YtnlphcchohbhgaaDoor.Tgt
