/-
  Layer 13 (parser): the law that a first line that is too long is refused for that. (Printed by tools/gen_pgtargets.py.)
-/
import Derived.Test.YtibnobdbmojjhaaGreatDoorPgKnown
import Derived.Test.YtibnobdbmojjhaaGreatDoorPgTgtW
namespace Go.Proofs.YtibnobdbmojjhaaGreatDoor.Pg
open Go.RowKit Base Txt Mem Par

section code
set_option maxHeartbeats 8000000
set_option maxRecDepth 100000
attribute [local go_sem] Base.some_undef
theorem parserTargets_law (n k : Int) (w : World) (hn : 0 ≤ n) (hk : 0 ≤ k) : Calls Tryz.prog 8 #[.int .u8 n, .int .u8 k] w fun e w' => e = .returned (.bool true) ∧ Below w.heap.size w w' := by
  obtain ⟨m, hm, hnm⟩ := rem_of n 100 (by decide) hn
  obtain ⟨j, hj, hkj⟩ := rem_of k 20 (by decide) hk
  have hm9 : m < 100 := by omega
  have hj9 : j < 20 := by omega
  obtain ⟨X0, hX0⟩ : ∃ X0 : Int, 64 + (j : Int) = X0 := ⟨_, rfl⟩
  obtain ⟨H, hH⟩ : ∃ H : Int, 4 + (m : Int) = H := ⟨_, rfl⟩
  have hX1 : 64 ≤ X0 ∧ X0 < 84 := by omega
  have hH1 : 4 ≤ H ∧ H < 104 := by omega
  have hH4 : ((4 + m : Nat) : Int) = H := by omega
  have w1 : (-9223372036854775808 : Int) ≤ X0 ∧ X0 ≤ 9223372036854775807 := ⟨by omega, by omega⟩
  have w2 : (-9223372036854775808 : Int) ≤ (m : Int) ∧ (m : Int) ≤ 9223372036854775807 := ⟨by omega, by omega⟩
  have w3 : (-9223372036854775808 : Int) ≤ (j : Int) ∧ (j : Int) ≤ 9223372036854775807 := ⟨by omega, by omega⟩
  have w4 : (-9223372036854775808 : Int) ≤ H ∧ H ≤ 9223372036854775807 := ⟨by omega, by omega⟩
  have HX1 := Lib.hid hX1; have HH4 := Lib.hid hH4
  have HJ := Lib.hid (And.intro hkj (And.intro (Rec.wraps (j : Int) w3) (And.intro (Rec.wraps X0 w1) hX0)))
  have HM := Lib.hid (And.intro hnm (Rec.wraps (m : Int) w2))
  have HH := Lib.hid (And.intro hH (Rec.wraps H w4))
  clear hn hk hm hj hX1 hH1 hH4 w1 w2 w3 w4 hkj hnm hX0 hH
  go_enter Tryz.func8, Tryz.ntmps8
  go_upto_region 4 with (first
    | (go_at_call 34; with_reducible refine (Bnd.rusual_any _).mono ?_; rintro r w2 ⟨rfl, hb⟩
       have HB2 := Lib.hid (Base.below_step HB1.out hb)
       clear hb)
    | (go_at_call 15; with_reducible refine (known_any _).mono ?_; rintro r w1 ⟨rfl, hb⟩
       have HB1 := Lib.hid hb
       clear hb))
  have HZ2 := Lib.hid (Rec.Bk.new w2 w2.heap.size rfl 29 [.int .i64 1024, .int .i64 32, .int .i64 8192, .int .i64 65536, .int .i64 32, .int .i64 8, .int .i64 4, .int .i64 20, .bool true, .bool true])
  have HBW := Lib.hid (HB2.out.alloc HB2.out.size (.cells #[.int .i64 1024, .int .i64 32, .int .i64 8192, .int .i64 65536, .int .i64 32, .int .i64 8, .int .i64 4, .int .i64 20, .bool true, .bool true] 29))
  have HGB := Lib.hid HB2.out.size
  generalize w2.alloc (.cells #[.int .i64 1024, .int .i64 32, .int .i64 8192, .int .i64 65536, .int .i64 32, .int .i64 8, .int .i64 4, .int .i64 20, .bool true, .bool true] 29) = W2 at *
  generalize w2.heap.size = gB at *
  have y0 := HZ2.out.c 0 _ rfl; have z0 := HZ2.out.z 0 (by simp)
  obtain ⟨f1, ⟨f2, f3⟩, ⟨f4, f5⟩, f6⟩ := HJ.out
  go_upto_region 7 with fail
  clear f1 f2 f3 f4 f5 f6
  have HZ3 := Lib.hid (HZ2.out.set 0 (.int .i64 X0) (by simp))
  have HB3 := Lib.hid (show Below w.heap.size w (W2.setCell ⟨gB, 0, none⟩ (.int .i64 X0)) from HBW.out.setCell HGB.out _)
  clear y0 z0
  generalize W2.setCell ⟨gB, 0, none⟩ (.int .i64 X0) = W3 at *
  go_loopw [6, 7] (fun s i wr => ∃ (q : Nat) (S : ByteArray), q ≤ m ∧ i = .int .i64 q ∧ s = .string S ∧ S.size = 5 + q ∧ wr = W3 ∧ Hid (S.data.toList = [71, 69, 84, 32, 47] ++ List.replicate q 97)) (fun _ i _ => m - (intOf i).toNat)
  case atStart => exact ⟨0, ⟨#[71, 69, 84, 32, 47]⟩, Nat.zero_le _, rfl, rfl, rfl, rfl, Lib.hid rfl⟩
  case round =>
    obtain ⟨q, S, hq, rfl, rfl, hS, rfl, hL⟩ := hrel
    rcases Nat.lt_or_ge q m with hlt | hge
    · have t1 : (q : Int) < (m : Int) := by omega
      have v1 : ¬ 9223372036854775807 < S.size + 1 := by omega
      have HL2 : Hid ((S ++ (⟨#[97]⟩ : ByteArray)).data.toList = [71, 69, 84, 32, 47] ++ List.replicate (q + 1) 97) := Lib.hid (by
        rw [ByteArray.data_append, Array.toList_append, hL.out, List.replicate_succ', List.append_assoc])
      obtain ⟨g1, g2, g3⟩ := HM.out
      go_wp2_with fail
      clear g1 g2 g3
      go_roundw
      case rel => exact ⟨q + 1, _, by omega, by go_num, (by first | rfl | trivial), (by rw [ByteArray.size_append, hS]; rfl), (by first | rfl | trivial), HL2⟩
      case measure => simp [intOf]; omega
    · obtain rfl : q = m := by omega
      have t1 : ¬ (q : Int) < (q : Int) := by omega
      have v1 : ¬ 9223372036854775807 < S.size + 9 := by omega
      have HL2 := Lib.hid (show (S ++ (⟨#[32, 72, 84, 84, 80, 47, 49, 46, 49]⟩ : ByteArray)).data.toList = tgtL q by rw [ByteArray.data_append, Array.toList_append, hL.out]; rfl)
      obtain ⟨N, hN⟩ : ∃ N, (S ++ (⟨#[32, 72, 84, 84, 80, 47, 49, 46, 49]⟩ : ByteArray)).size = N := ⟨_, rfl⟩
      have HN14 := Lib.hid (show N = 14 + q by rw [← hN, ByteArray.size_append, hS]; show 5 + q + 9 = 14 + q; omega)
      obtain ⟨g1, g2, g3⟩ := HM.out
      go_upto_region 11 with fail
      clear g1 g2 g3
      generalize S ++ (⟨#[32, 72, 84, 84, 80, 47, 49, 46, 49]⟩ : ByteArray) = S2 at *
      clear v1 hS hL
      have y0 := HZ3.out.c 0 _ rfl; have y1 := HZ3.out.c 1 _ rfl; have y2 := HZ3.out.c 2 _ rfl; have y3 := HZ3.out.c 3 _ rfl; have y4 := HZ3.out.c 4 _ rfl; have y5 := HZ3.out.c 5 _ rfl; have y6 := HZ3.out.c 6 _ rfl; have y7 := HZ3.out.c 7 _ rfl; have y8 := HZ3.out.c 8 _ rfl; have y9 := HZ3.out.c 9 _ rfl
      have HNW := Lib.hid (show Calls Tryz.prog 20 #[.int .u32 0, .agg #[.int .i64 X0, .int .i64 32, .int .i64 8192, .int .i64 65536, .int .i64 32, .int .i64 8, .int .i64 4, .int .i64 20, .bool true, .bool true]] wr fun r w' => ∃ g L', r = .returned (ptr g) ∧ wr.heap.size ≤ g ∧ At w' wr.heap.size g 0 (lineB X0) L' (Q.new 0 (lineB X0)) ∧ Below wr.heap.size wr w' from new_any (p := 0) (b := lineB X0) (by decide) wr)
      go_upto_region 12 with
        (go_at_call 20; with_reducible refine HNW.out.mono ?_; rintro r w4 ⟨g, L4, rfl, -, hA, hb⟩
         have HA4 := Lib.hid hA; have HB4 := Lib.hid hb
         clear hA hb y0 y1 y2 y3 y4 y5 y6 y7 y8 y9)
      clear HNW
      obtain ⟨W5, cap, hcv, hby, hlt5, hb5⟩ := By.conv_bytes (S2 ++ (⟨#[13, 10]⟩ : ByteArray)) w4
      have hsz3 : (S2 ++ (⟨#[13, 10]⟩ : ByteArray)).size = N + 2 := by rw [ByteArray.size_append, hN]; rfl
      have hl3 : (S2 ++ (⟨#[13, 10]⟩ : ByteArray)).data.toList = tgtL q ++ [13, 10] := by rw [ByteArray.data_append, Array.toList_append, HL2.out]
      have hbt := Bts.conv (L := L4) HA4.out.in _ hby hlt5
      rw [hl3] at hbt
      rw [hsz3] at hcv
      have hin5 : In W5 L4 := HA4.out.in.mono (Nat.le_of_lt hlt5)
      have hP := Parts.one (c := cap) hbt hin5 22
      have hlen : (tgtL q ++ [13, 10]).length = N + 2 := by rw [List.length_append, tgtL_length, HN14.out]; rfl
      rw [hlen] at hP
      have hb6 : Below w4.heap.size w4 (W5.alloc (.cells #[.slice (some ⟨w4.heap.size, 0, none⟩) (N + 2) cap] 22)) := hb5.alloc (Nat.le_of_lt hlt5) _
      have hf := feed_said (by decide) (HA4.out.below hb6) (Q.new_ok 0 (lineB X0)) (by unfold Q.new; split <;> rfl) (some ⟨W5.heap.size, 0, none⟩) 1 [tgtL q ++ [13, 10]] hP (by show 1 ≤ 1000000; decide) (by
        show ([tgtL q ++ [13, 10]] : List (List UInt8)).flatten.length ≤ 400000000
        rw [show ([tgtL q ++ [13, 10]] : List (List UInt8)).flatten = tgtL q ++ [13, 10] by simp, hlen]
        have := HN14.out; omega)
      rw [show ([tgtL q ++ [13, 10]] : List (List UInt8)).flatten = tgtL q ++ [13, 10] by simp, show Q.feed 0 (lineB X0) (Q.new 0 (lineB X0)) (tgtL q ++ [13, 10]) = Q.read 0 (lineB X0) (tgtL q ++ [13, 10]) from rfl] at hf
      obtain ⟨X, hX⟩ : ∃ X, Q.read 0 (lineB X0) (tgtL q ++ [13, 10]) = X := ⟨_, rfl⟩
      rw [hX] at hf
      have HF := Lib.hid (show Calls Tryz.prog 22 #[ptr g, .slice (some ⟨W5.heap.size, 0, none⟩) 1 1] (W5.alloc (.cells #[.slice (some ⟨w4.heap.size, 0, none⟩) (N + 2) cap] 22)) fun r w' => ∃ o L', r = .returned o ∧ At w' wr.heap.size g 0 (lineB X0) L' X.told ∧ X.told.Ok (lineB X0) ∧ X.told.out = [] ∧ Said w' o X.out ∧ Step L4 L' (W5.alloc (.cells #[.slice (some ⟨w4.heap.size, 0, none⟩) (N + 2) cap] 22)) w' from hf)
      have HBA := Lib.hid (HB4.out.trans (hb6.mono HB4.out.size))
      have HLOW := Lib.hid HA4.out.low
      have v3 : ¬ 9223372036854775807 < N + 2 := by have := HN14.out; omega
      clear hby hlt5 hb5 hsz3 hl3 hbt hin5 hP hlen hb6 hf HA4 HB4 HL2
      by_cases hlong : 64 + j < 14 + q
      · have k3 := targets_long q j hj9 hlong
        have t9 : X0 < (N : Int) := by have := HN14.out; have := HJ.out.2.2.2; omega
        rw [HJ.out.2.2.2, hX] at k3
        clear hlong
        obtain ⟨g1, g2, g3⟩ := HM.out
        obtain ⟨g4, g5, g6⟩ := HH.out
        go_wp2_with (first
          | (go_at_call 30; with_reducible refine (HCL.out _ HB7.out).mono ?_; rintro r w8 ⟨rfl, hw⟩; rw [hw]; clear hw)
          | (go_at_call 28; with_reducible refine HHE.out.mono ?_; rintro r w7 ⟨rfl, hb⟩; have HB7 := Lib.hid hb; clear hb)
          | (go_at_call 25; with_reducible refine HER.out.mono ?_; rintro r w7 ⟨rfl, hw⟩; rw [hw]; clear hw)
          | (go_at_call 22; with_reducible refine HF.out.mono ?_; rintro r w6 ⟨o6, L6, rfl, hA6, hok6, -, -, hS6⟩
             have her := errq_any hA6; have hhe := held_any hA6 hok6; have hcl := fun (w' : World) (hb : Below w6.heap.size w6 w') => cleanq_any (hA6.below hb)
             rw [told_err, k3.1] at her
             rw [told_held, k3.2.1] at hhe
             rw [told_clean, k3.2.2] at hcl
             have HER := Lib.hid (show Calls Tryz.prog 25 #[ptr g] w6 fun r w' => r = .returned (.int .i64 414) ∧ w' = w6 from her)
             have HHE := Lib.hid (show Calls Tryz.prog 28 #[ptr g] w6 fun r w' => r = .returned (.int .i64 0) ∧ Below w6.heap.size w6 w' from hhe)
             have HCL := Lib.hid hcl
             have HBX := Lib.hid (HBA.out.trans (hS6.keeps.below HBA.out.size HLOW.out))
             have d0 := (HZ3.out.below HBX.out).c 0 _ rfl
             clear her hhe hcl hA6 hok6 hS6))
        go_ret
        exact ⟨rfl, Base.below_step (Base.below_step HB3.out HBX.out) HB7.out⟩
      · have k3 := targets_ok q j hm9 hj9 (by omega)
        have t9 : ¬ X0 < (N : Int) := by have := HN14.out; have := HJ.out.2.2.2; omega
        rw [HJ.out.2.2.2, hX] at k3
        clear hlong
        obtain ⟨g1, g2, g3⟩ := HM.out
        obtain ⟨g4, g5, g6⟩ := HH.out
        go_wp2_with (first
          | (go_at_call 30; with_reducible refine (HCL.out _ HB7.out).mono ?_; rintro r w8 ⟨rfl, hw⟩; rw [hw]; clear hw)
          | (go_at_call 28; with_reducible refine HHE.out.mono ?_; rintro r w7 ⟨rfl, hb⟩; have HB7 := Lib.hid hb; clear hb)
          | (go_at_call 25; with_reducible refine HER.out.mono ?_; rintro r w7 ⟨rfl, hw⟩; rw [hw]; clear hw)
          | (go_at_call 22; with_reducible refine HF.out.mono ?_; rintro r w6 ⟨o6, L6, rfl, hA6, hok6, -, -, hS6⟩
             have her := errq_any hA6; have hhe := held_any hA6 hok6; have hcl := fun (w' : World) (hb : Below w6.heap.size w6 w') => cleanq_any (hA6.below hb)
             rw [told_err, k3.1] at her
             rw [told_held, k3.2.1] at hhe
             rw [told_clean, k3.2.2] at hcl
             have HER := Lib.hid (show Calls Tryz.prog 25 #[ptr g] w6 fun r w' => r = .returned (.int .i64 0) ∧ w' = w6 from her)
             have HHE := Lib.hid (show Calls Tryz.prog 28 #[ptr g] w6 fun r w' => r = .returned (.int .i64 H) ∧ Below w6.heap.size w6 w' from (by rw [← HH4.out]; exact hhe))
             have HCL := Lib.hid hcl
             have HBX := Lib.hid (HBA.out.trans (hS6.keeps.below HBA.out.size HLOW.out))
             have d0 := (HZ3.out.below HBX.out).c 0 _ rfl
             clear her hhe hcl hA6 hok6 hS6))
        go_ret
        exact ⟨rfl, Base.below_step (Base.below_step HB3.out HBX.out) HB7.out⟩
end code
end Go.Proofs.YtibnobdbmojjhaaGreatDoor.Pg
