/-
  Layer 13 (parser): the law that a head is refused where its lines of fields, a line of it or its bytes are too many. (Printed by tools/gen_pgheads.py.)
-/
import Derived.Test.YtibnobdbmojjhaaGreatDoorPgKnown
import Derived.Test.YtibnobdbmojjhaaGreatDoorPgTgtW
import Derived.Test.YtibnobdbmojjhaaGreatDoorPgHdW
namespace Go.Proofs.YtibnobdbmojjhaaGreatDoor.Pg
open Go.RowKit Base Txt Mem Par

def strSize : Value → Nat
  | .string s => s.size
  | _ => 0
section code
set_option maxHeartbeats 8000000
set_option maxRecDepth 100000
attribute [local go_sem] Base.some_undef
theorem parserHeads_law (n k what : Int) (w : World) (hn : 0 ≤ n) (hn2 : n ≤ 255) (hk : 0 ≤ k) (hk2 : k ≤ 255) (hw : 0 ≤ what) : Calls Tryz.prog 7 #[.int .u8 n, .int .u8 k, .int .u8 what] w fun e w' => e = .returned (.bool true) ∧ Below w.heap.size w w' := by
  obtain ⟨r, hr, hrw⟩ := rem_of what 3 (by decide) hw
  obtain ⟨K, hK⟩ : ∃ K : Nat, k = (K : Int) := ⟨k.toNat, by omega⟩
  have hK2 : K < 256 := by omega
  have hk4 : k.tmod 4 = ((K % 4 : Nat) : Int) := by rw [Int.tmod_eq_emod_of_nonneg hk]; omega
  obtain ⟨j, hj⟩ : ∃ j : Nat, K % 4 = j := ⟨_, rfl⟩
  have hj4 : j < 4 := by omega
  have hRR := headB_right ⟨K, hK2⟩
  simp only at hRR
  rw [hj] at hk4 hRR
  obtain ⟨X1, hX1⟩ : ∃ X1 : Int, 4 + (j : Int) = X1 := ⟨_, rfl⟩
  obtain ⟨X2, hX2⟩ : ∃ X2 : Int, 256 + (K : Int) = X2 := ⟨_, rfl⟩
  rw [hX1, hX2] at hRR
  have b1 : 4 ≤ X1 ∧ X1 ≤ 7 := by omega
  have b2 : 256 ≤ X2 ∧ X2 ≤ 511 := by omega
  have w1 : (-9223372036854775808 : Int) ≤ (j : Int) ∧ (j : Int) ≤ 9223372036854775807 := ⟨by omega, by omega⟩
  have w2 : (-9223372036854775808 : Int) ≤ X1 ∧ X1 ≤ 9223372036854775807 := ⟨by omega, by omega⟩
  have w3 : (-9223372036854775808 : Int) ≤ X2 ∧ X2 ≤ 9223372036854775807 := ⟨by omega, by omega⟩
  have w4 : (-9223372036854775808 : Int) ≤ k ∧ k ≤ 9223372036854775807 := ⟨by omega, by omega⟩
  have w5 : (-9223372036854775808 : Int) ≤ n ∧ n ≤ 9223372036854775807 := ⟨by omega, by omega⟩
  have HX := Lib.hid (And.intro hk4 (And.intro (Rec.wraps (j : Int) w1) (And.intro (Rec.wraps X1 w2) (And.intro hX1 (And.intro (Rec.wraps k w4) (And.intro (Rec.wraps X2 w3) (show 256 + k = X2 by rw [hK]; exact hX2)))))))
  have HRR := Lib.hid hRR; have HB1X := Lib.hid b1; have HB2X := Lib.hid b2; have HN0 := Lib.hid (And.intro hn hn2); have HNW := Lib.hid (Rec.wraps n w5)
  clear hRR b1 b2 w1 w2 w3 w4 w5 hk4 hX1 hX2 hK hj hj4 hK2 hk hk2
  have hr3 : r = 0 ∨ r = 1 ∨ r = 2 := by omega
  clear hr hw
  rcases hr3 with rfl | rfl | rfl
  · have HW := Lib.hid hrw
    clear hrw
    obtain ⟨c, hc, hnc⟩ := rem_of n 10 (by decide) hn
    have HC := Lib.hid (And.intro hnc (Rec.wraps (c : Int) ⟨by omega, by omega⟩))
    have hc9 : c < 10 := by omega
    have f9 := HC.out.1; have f10 := HC.out.2
    clear hnc hc hn hn2
    go_enter Tryz.func7, Tryz.ntmps7
    go_upto_region 4 with (first
      | (go_at_call 34; with_reducible refine (Bnd.rusual_any _).mono ?_; rintro r w2 ⟨rfl, hb⟩
         have HB2 := Lib.hid (Base.below_step HB1.out hb)
         clear hb)
      | (go_at_call 15; with_reducible refine (known_any _).mono ?_; rintro r w1 ⟨rfl, hb⟩
         have HB1 := Lib.hid hb
         clear hb))
    have HZ2 := Lib.hid (Rec.Bk.new w2 w2.heap.size rfl 29 [.int .i64 1024, .int .i64 32, .int .i64 8192, .int .i64 65536, .int .i64 32, .int .i64 8, .int .i64 4, .int .i64 20, .bool true, .bool true])
    have HBW := Lib.hid (HB2.out.alloc HB2.out.size (.cells #[.int .i64 1024, .int .i64 32, .int .i64 8192, .int .i64 65536, .int .i64 32, .int .i64 8, .int .i64 4, .int .i64 20, .bool true, .bool true] 29))
    have HGB := Lib.hid HB2.out.size
    generalize w2.alloc (.cells #[.int .i64 1024, .int .i64 32, .int .i64 8192, .int .i64 65536, .int .i64 32, .int .i64 8, .int .i64 4, .int .i64 20, .bool true, .bool true] 29) = W2 at *
    generalize w2.heap.size = gB at *
    have y0 := HZ2.out.c 0 _ rfl; have z0 := HZ2.out.z 0 (by simp)
    have y1 := HZ2.out.c 1 _ rfl; have z1 := HZ2.out.z 1 (by simp)
    have y2 := HZ2.out.c 2 _ rfl; have z2 := HZ2.out.z 2 (by simp)
    obtain ⟨f1, f2, f3, f4, f5, f6, f7⟩ := HX.out
    have f8 := HW.out
    go_upto_region 10 with fail
    clear f1 f2 f3 f4 f5 f6 f7 f8 y0 y1 y2 z0 z1 z2
    have HZ3 := Lib.hid (((HZ2.out.set 0 (.int .i64 64) (by simp)).set 1 (.int .i64 X1) (by simp)).set 2 (.int .i64 X2) (by simp))
    have HB3 := Lib.hid (show Below w.heap.size w (((W2.setCell ⟨gB, 0, none⟩ (.int .i64 64)).setCell ⟨gB, 1, none⟩ (.int .i64 X1)).setCell ⟨gB, 2, none⟩ (.int .i64 X2)) from ((HBW.out.setCell HGB.out _).setCell HGB.out _).setCell HGB.out _)
    generalize ((W2.setCell ⟨gB, 0, none⟩ (.int .i64 64)).setCell ⟨gB, 1, none⟩ (.int .i64 X1)).setCell ⟨gB, 2, none⟩ (.int .i64 X2) = W3 at *
    clear f9 f10
    go_loopw [8, 10] (fun s i wr => ∃ (q : Nat) (S : ByteArray), q ≤ c ∧ i = .int .i64 q ∧ s = .string S ∧ S.size = 25 + 6 * q ∧ wr = W3 ∧ Hid (S.data.toList = hostL ++ abL q)) (fun _ i _ => c - (intOf i).toNat)
    case atStart => exact ⟨0, _, Nat.zero_le _, rfl, rfl, rfl, rfl, Lib.hid rfl⟩
    case round =>
      obtain ⟨q, S, hq, rfl, rfl, hS, rfl, hL⟩ := hrel
      rcases Nat.lt_or_ge q c with hlt | hge
      · have t1 : (q : Int) < (c : Int) := by omega
        have v1 : ¬ 9223372036854775807 < S.size + 6 := by omega
        have HL2 : Hid ((S ++ (⟨#[65, 58, 32, 98, 13, 10]⟩ : ByteArray)).data.toList = hostL ++ abL (q + 1)) := Lib.hid (by
          rw [ByteArray.data_append, Array.toList_append, hL.out]
          show (hostL ++ abL q) ++ [65, 58, 32, 98, 13, 10] = hostL ++ (abL q ++ [65, 58, 32, 98, 13, 10])
          rw [List.append_assoc])
        go_wp2_with fail
        go_roundw
        case rel => exact ⟨q + 1, _, by omega, by go_num, (by first | rfl | trivial), (by rw [ByteArray.size_append, hS]; show 25 + 6 * q + 6 = _; omega), (by first | rfl | trivial), HL2⟩
        case measure => simp [intOf]; omega
      · obtain rfl : q = c := by omega
        have t1 : ¬ (q : Int) < (q : Int) := by omega
        have v1 : ¬ 9223372036854775807 < S.size + 2 := by omega
        have HZR := HZ3; have HBR := HB3
        obtain ⟨N, hN⟩ : ∃ N, S.size = N := ⟨_, rfl⟩
        obtain ⟨C1, hC1⟩ : ∃ C1 : Int, (q : Int) + 1 = C1 := ⟨_, rfl⟩
        have HC1 := Lib.hid (And.intro hC1 (Rec.wraps C1 ⟨by omega, by omega⟩))
        obtain ⟨W5, cap, hcv, hby, hlt5, hb5⟩ := By.conv_bytes (S ++ (⟨#[13, 10]⟩ : ByteArray)) wr
        have hsz3 : (S ++ (⟨#[13, 10]⟩ : ByteArray)).size = N + 2 := by rw [ByteArray.size_append, hN]; rfl
        have hl3 : (S ++ (⟨#[13, 10]⟩ : ByteArray)).data.toList = hostL ++ abL q ++ [13, 10] := by rw [ByteArray.data_append, Array.toList_append, hL.out]
        have hbt := Bts.conv (L := []) (in_nil wr) _ hby hlt5
        have hlen : (hostL ++ abL q ++ [13, 10]).length = N + 2 := by rw [← hl3, len]; exact hsz3
        rw [hl3] at hbt
        rw [hsz3] at hcv
        have k3 := heads_fields HRR.out.1 HB1X.out.1 HB2X.out.1 q hc9
        rw [show ((q + 1 : Nat) : Int) = C1 by rw [← hC1]; omega] at k3
        have y0 := HZR.out.c 0 _ rfl; have y1 := HZR.out.c 1 _ rfl; have y2 := HZR.out.c 2 _ rfl; have y3 := HZR.out.c 3 _ rfl; have y4 := HZR.out.c 4 _ rfl; have y5 := HZR.out.c 5 _ rfl; have y6 := HZR.out.c 6 _ rfl; have y7 := HZR.out.c 7 _ rfl; have y8 := HZR.out.c 8 _ rfl; have y9 := HZR.out.c 9 _ rfl
        by_cases hov : X1 < C1
        · rw [if_pos hov] at k3
          clear hC1
          obtain ⟨cl, hcl⟩ : ∃ cl, (Q.read 0 (headB 64 X1 X2) (hostL ++ abL q ++ [13, 10])).clean = cl := ⟨_, rfl⟩
          obtain ⟨O, hO⟩ : ∃ O, (Q.read 0 (headB 64 X1 X2) (hostL ++ abL q ++ [13, 10])).out = O := ⟨_, rfl⟩
          have hol : O.length = 0 := by rw [← hO]; exact k3.2
          have hrd := read_said (p := 0) (by decide) (headB 64 X1 X2) W5 _ cap _ hbt (by rw [hlen]; omega) 431 cl O k3.1 hcl hO
          rw [hlen] at hrd
          have HRD := Lib.hid (show Calls Tryz.prog 32 #[.int .u32 0, .agg #[.int .i64 64, .int .i64 X1, .int .i64 X2, .int .i64 65536, .int .i64 32, .int .i64 8, .int .i64 4, .int .i64 20, .bool true, .bool true], .slice (some ⟨wr.heap.size, 0, none⟩) (N + 2) cap] W5 fun r w' => ∃ o, r = .returned (.tuple #[o, .int .i64 431, .bool cl]) ∧ Said w' o O ∧ Below W5.heap.size W5 w' from hrd)
          have HB5 := Lib.hid hb5
          have HOL := Lib.hid hol
          clear hby hlt5 hb5 hsz3 hl3 hbt hlen hrd hcl hO hol k3 hS hL
          obtain ⟨g1, g2⟩ := HC1.out
          go_wp2_with
            (go_at_call 32; with_reducible refine HRD.out.mono ?_; rintro r w6 ⟨o, rfl, hT, hb⟩
             have hb6 := HB5.out.trans (hb.mono HB5.out.size)
             have x5 := (HZR.out.below hb6).c 1 _ rfl
             obtain ⟨a8, c8, e8, -⟩ := hT
             rw [HOL.out] at e8
             subst e8
             have HB6 := Lib.hid hb6
             clear hb hb6 y0 y1 y2 y3 y4 y5 y6 y7 y8 y9)
          go_ret
          exact ⟨rfl, Base.below_step HBR.out HB6.out⟩
        · rw [if_neg hov] at k3
          clear hC1
          obtain ⟨cl, hcl⟩ : ∃ cl, (Q.read 0 (headB 64 X1 X2) (hostL ++ abL q ++ [13, 10])).clean = cl := ⟨_, rfl⟩
          obtain ⟨O, hO⟩ : ∃ O, (Q.read 0 (headB 64 X1 X2) (hostL ++ abL q ++ [13, 10])).out = O := ⟨_, rfl⟩
          have hol : O.length = 1 := by rw [← hO]; exact k3.2
          have hrd := read_said (p := 0) (by decide) (headB 64 X1 X2) W5 _ cap _ hbt (by rw [hlen]; omega) 0 cl O k3.1 hcl hO
          rw [hlen] at hrd
          have HRD := Lib.hid (show Calls Tryz.prog 32 #[.int .u32 0, .agg #[.int .i64 64, .int .i64 X1, .int .i64 X2, .int .i64 65536, .int .i64 32, .int .i64 8, .int .i64 4, .int .i64 20, .bool true, .bool true], .slice (some ⟨wr.heap.size, 0, none⟩) (N + 2) cap] W5 fun r w' => ∃ o, r = .returned (.tuple #[o, .int .i64 0, .bool cl]) ∧ Said w' o O ∧ Below W5.heap.size W5 w' from hrd)
          have HB5 := Lib.hid hb5
          have HOL := Lib.hid hol
          clear hby hlt5 hb5 hsz3 hl3 hbt hlen hrd hcl hO hol k3 hS hL
          obtain ⟨g1, g2⟩ := HC1.out
          go_wp2_with
            (go_at_call 32; with_reducible refine HRD.out.mono ?_; rintro r w6 ⟨o, rfl, hT, hb⟩
             have hb6 := HB5.out.trans (hb.mono HB5.out.size)
             have x5 := (HZR.out.below hb6).c 1 _ rfl
             obtain ⟨a8, c8, e8, -⟩ := hT
             rw [HOL.out] at e8
             subst e8
             have HB6 := Lib.hid hb6
             clear hb hb6 y0 y1 y2 y3 y4 y5 y6 y7 y8 y9)
          go_ret
          exact ⟨rfl, Base.below_step HBR.out HB6.out⟩
  · have HW := Lib.hid hrw
    clear hrw
    obtain ⟨m, hm, hnm⟩ := rem_of n 70 (by decide) hn
    have HM := Lib.hid (And.intro hnm (Rec.wraps (m : Int) ⟨by omega, by omega⟩))
    have hm9 : m < 70 := by omega
    clear hnm hm hn hn2
    go_enter Tryz.func7, Tryz.ntmps7
    go_upto_region 4 with (first
      | (go_at_call 34; with_reducible refine (Bnd.rusual_any _).mono ?_; rintro r w2 ⟨rfl, hb⟩
         have HB2 := Lib.hid (Base.below_step HB1.out hb)
         clear hb)
      | (go_at_call 15; with_reducible refine (known_any _).mono ?_; rintro r w1 ⟨rfl, hb⟩
         have HB1 := Lib.hid hb
         clear hb))
    have HZ2 := Lib.hid (Rec.Bk.new w2 w2.heap.size rfl 29 [.int .i64 1024, .int .i64 32, .int .i64 8192, .int .i64 65536, .int .i64 32, .int .i64 8, .int .i64 4, .int .i64 20, .bool true, .bool true])
    have HBW := Lib.hid (HB2.out.alloc HB2.out.size (.cells #[.int .i64 1024, .int .i64 32, .int .i64 8192, .int .i64 65536, .int .i64 32, .int .i64 8, .int .i64 4, .int .i64 20, .bool true, .bool true] 29))
    have HGB := Lib.hid HB2.out.size
    generalize w2.alloc (.cells #[.int .i64 1024, .int .i64 32, .int .i64 8192, .int .i64 65536, .int .i64 32, .int .i64 8, .int .i64 4, .int .i64 20, .bool true, .bool true] 29) = W2 at *
    generalize w2.heap.size = gB at *
    have y0 := HZ2.out.c 0 _ rfl; have z0 := HZ2.out.z 0 (by simp)
    have y1 := HZ2.out.c 1 _ rfl; have z1 := HZ2.out.z 1 (by simp)
    have y2 := HZ2.out.c 2 _ rfl; have z2 := HZ2.out.z 2 (by simp)
    obtain ⟨f1, f2, f3, f4, f5, f6, f7⟩ := HX.out
    have f8 := HW.out
    go_upto_region 20 with fail
    clear f1 f2 f3 f4 f5 f6 f7 f8 y0 y1 y2 z0 z1 z2
    have HZ3 := Lib.hid (((HZ2.out.set 0 (.int .i64 64) (by simp)).set 1 (.int .i64 X1) (by simp)).set 2 (.int .i64 X2) (by simp))
    have HB3 := Lib.hid (show Below w.heap.size w (((W2.setCell ⟨gB, 0, none⟩ (.int .i64 64)).setCell ⟨gB, 1, none⟩ (.int .i64 X1)).setCell ⟨gB, 2, none⟩ (.int .i64 X2)) from ((HBW.out.setCell HGB.out _).setCell HGB.out _).setCell HGB.out _)
    generalize ((W2.setCell ⟨gB, 0, none⟩ (.int .i64 64)).setCell ⟨gB, 1, none⟩ (.int .i64 X1)).setCell ⟨gB, 2, none⟩ (.int .i64 X2) = W3 at *
    go_loopw [14, 15] (fun s i wr => ∃ (q : Nat) (S : ByteArray), q ≤ m ∧ i = .int .i64 q ∧ s = .string S ∧ S.size = 2 + q ∧ wr = W3 ∧ Hid (S.data.toList = axL q)) (fun _ i _ => m - (intOf i).toNat)
    case atStart => exact ⟨0, _, Nat.zero_le _, rfl, rfl, rfl, rfl, Lib.hid rfl⟩
    case round =>
      obtain ⟨q, S, hq, rfl, rfl, hS, rfl, hL⟩ := hrel
      rcases Nat.lt_or_ge q m with hlt | hge
      · have t1 : (q : Int) < (m : Int) := by omega
        have v1 : ¬ 9223372036854775807 < S.size + 1 := by omega
        have HL2 : Hid ((S ++ (⟨#[120]⟩ : ByteArray)).data.toList = axL (q + 1)) := Lib.hid (by
          rw [ByteArray.data_append, Array.toList_append, hL.out]
          unfold axL
          rw [List.replicate_succ', List.append_assoc])
        obtain ⟨g1, g2⟩ := HM.out
        go_wp2_with fail
        clear g1 g2
        go_roundw
        case rel => exact ⟨q + 1, _, by omega, by go_num, (by first | rfl | trivial), (by rw [ByteArray.size_append, hS]; rfl), (by first | rfl | trivial), HL2⟩
        case measure => simp [intOf]; omega
      · obtain rfl : q = m := by omega
        have t1 : ¬ (q : Int) < (q : Int) := by omega
        have HZR := HZ3; have HBR := HB3
        obtain ⟨N, hN⟩ : ∃ N, S.size = N := ⟨_, rfl⟩
        have v1 : ¬ 9223372036854775807 < 25 + N := by omega
        have v2 : ¬ 9223372036854775807 < 25 + N + 4 := by omega
        have hNq : N = 2 + q := by omega
        obtain ⟨W5, cap, hcv, hby, hlt5, hb5⟩ := By.conv_bytes (((⟨#[71, 69, 84, 32, 47, 32, 72, 84, 84, 80, 47, 49, 46, 49, 13, 10, 72, 111, 115, 116, 58, 32, 97, 13, 10]⟩ : ByteArray) ++ S) ++ (⟨#[13, 10, 13, 10]⟩ : ByteArray)) wr
        have hsz3 : (((⟨#[71, 69, 84, 32, 47, 32, 72, 84, 84, 80, 47, 49, 46, 49, 13, 10, 72, 111, 115, 116, 58, 32, 97, 13, 10]⟩ : ByteArray) ++ S) ++ (⟨#[13, 10, 13, 10]⟩ : ByteArray)).size = N + 29 := by rw [ByteArray.size_append, ByteArray.size_append, hN]; show 25 + N + 4 = _; omega
        have hl3 : (((⟨#[71, 69, 84, 32, 47, 32, 72, 84, 84, 80, 47, 49, 46, 49, 13, 10, 72, 111, 115, 116, 58, 32, 97, 13, 10]⟩ : ByteArray) ++ S) ++ (⟨#[13, 10, 13, 10]⟩ : ByteArray)).data.toList = hostL ++ axL q ++ [13, 10, 13, 10] := by rw [ByteArray.data_append, Array.toList_append, ByteArray.data_append, Array.toList_append, hL.out]; rfl
        have hbt := Bts.conv (L := []) (in_nil wr) _ hby hlt5
        have hlen : (hostL ++ axL q ++ [13, 10, 13, 10]).length = N + 29 := by rw [← hl3, len]; exact hsz3
        rw [hl3] at hbt
        rw [hsz3] at hcv
        have y0 := HZR.out.c 0 _ rfl; have y1 := HZR.out.c 1 _ rfl; have y2 := HZR.out.c 2 _ rfl; have y3 := HZR.out.c 3 _ rfl; have y4 := HZR.out.c 4 _ rfl; have y5 := HZR.out.c 5 _ rfl; have y6 := HZR.out.c 6 _ rfl; have y7 := HZR.out.c 7 _ rfl; have y8 := HZR.out.c 8 _ rfl; have y9 := HZR.out.c 9 _ rfl
        by_cases hov : 64 < N
        · have k3 := heads_long HRR.out.1 (by decide) HB1X.out.1 HB2X.out.1 q (by show 64 < 2 + q; omega) (by show ((26 + 64 : Nat) : Int) ≤ X2; have := HB2X.out; omega)
          obtain ⟨cl, hcl⟩ : ∃ cl, (Q.read 0 (headB 64 X1 X2) (hostL ++ axL q ++ [13, 10, 13, 10])).clean = cl := ⟨_, rfl⟩
          obtain ⟨O, hO⟩ : ∃ O, (Q.read 0 (headB 64 X1 X2) (hostL ++ axL q ++ [13, 10, 13, 10])).out = O := ⟨_, rfl⟩
          have hrd := read_said (p := 0) (by decide) (headB 64 X1 X2) W5 _ cap _ hbt (by rw [hlen]; omega) 431 cl O k3 hcl hO
          rw [hlen] at hrd
          have HRD := Lib.hid (show Calls Tryz.prog 32 #[.int .u32 0, .agg #[.int .i64 64, .int .i64 X1, .int .i64 X2, .int .i64 65536, .int .i64 32, .int .i64 8, .int .i64 4, .int .i64 20, .bool true, .bool true], .slice (some ⟨wr.heap.size, 0, none⟩) (N + 29) cap] W5 fun r w' => ∃ o, r = .returned (.tuple #[o, .int .i64 431, .bool cl]) ∧ Said w' o O ∧ Below W5.heap.size W5 w' from hrd)
          have HB5 := Lib.hid hb5
          have t9 : (64 : Int) < (N : Int) := by omega
          clear hby hlt5 hb5 hsz3 hl3 hbt hlen hrd hcl hO k3 hS hL hNq hov
          obtain ⟨g1, g2⟩ := HM.out
          go_wp2_with
            (go_at_call 32; with_reducible refine HRD.out.mono ?_; rintro r w6 ⟨o, rfl, hT, hb⟩
             have hb6 := HB5.out.trans (hb.mono HB5.out.size)
             clear hT
             have HB6 := Lib.hid hb6
             clear hb hb6 y0 y1 y2 y3 y4 y5 y6 y7 y8 y9)
          go_ret
          exact ⟨rfl, Base.below_step HBR.out HB6.out⟩
        · have k3 := heads_ok HRR.out.1 (by decide) HB1X.out.1 HB2X.out.1 q (by omega) (by show 2 + q ≤ 64; omega) (by have := HB2X.out; omega)
          obtain ⟨cl, hcl⟩ : ∃ cl, (Q.read 0 (headB 64 X1 X2) (hostL ++ axL q ++ [13, 10, 13, 10])).clean = cl := ⟨_, rfl⟩
          obtain ⟨O, hO⟩ : ∃ O, (Q.read 0 (headB 64 X1 X2) (hostL ++ axL q ++ [13, 10, 13, 10])).out = O := ⟨_, rfl⟩
          have hrd := read_said (p := 0) (by decide) (headB 64 X1 X2) W5 _ cap _ hbt (by rw [hlen]; omega) 0 cl O k3 hcl hO
          rw [hlen] at hrd
          have HRD := Lib.hid (show Calls Tryz.prog 32 #[.int .u32 0, .agg #[.int .i64 64, .int .i64 X1, .int .i64 X2, .int .i64 65536, .int .i64 32, .int .i64 8, .int .i64 4, .int .i64 20, .bool true, .bool true], .slice (some ⟨wr.heap.size, 0, none⟩) (N + 29) cap] W5 fun r w' => ∃ o, r = .returned (.tuple #[o, .int .i64 0, .bool cl]) ∧ Said w' o O ∧ Below W5.heap.size W5 w' from hrd)
          have HB5 := Lib.hid hb5
          have t9 : ¬ (64 : Int) < (N : Int) := by omega
          clear hby hlt5 hb5 hsz3 hl3 hbt hlen hrd hcl hO k3 hS hL hNq hov
          obtain ⟨g1, g2⟩ := HM.out
          go_wp2_with
            (go_at_call 32; with_reducible refine HRD.out.mono ?_; rintro r w6 ⟨o, rfl, hT, hb⟩
             have hb6 := HB5.out.trans (hb.mono HB5.out.size)
             clear hT
             have HB6 := Lib.hid hb6
             clear hb hb6 y0 y1 y2 y3 y4 y5 y6 y7 y8 y9)
          go_ret
          exact ⟨rfl, Base.below_step HBR.out HB6.out⟩
  · have HW := Lib.hid hrw
    clear hrw
    obtain ⟨M, hM⟩ : ∃ M : Nat, 200 + n = (M : Int) := ⟨(200 + n).toNat, by omega⟩
    have hM9 : 200 ≤ M ∧ M < 456 := by omega
    have HM := Lib.hid (And.intro hM (Rec.wraps (M : Int) ⟨by omega, by omega⟩))
    clear hM hn hn2
    go_enter Tryz.func7, Tryz.ntmps7
    go_upto_region 4 with (first
      | (go_at_call 34; with_reducible refine (Bnd.rusual_any _).mono ?_; rintro r w2 ⟨rfl, hb⟩
         have HB2 := Lib.hid (Base.below_step HB1.out hb)
         clear hb)
      | (go_at_call 15; with_reducible refine (known_any _).mono ?_; rintro r w1 ⟨rfl, hb⟩
         have HB1 := Lib.hid hb
         clear hb))
    have HZ2 := Lib.hid (Rec.Bk.new w2 w2.heap.size rfl 29 [.int .i64 1024, .int .i64 32, .int .i64 8192, .int .i64 65536, .int .i64 32, .int .i64 8, .int .i64 4, .int .i64 20, .bool true, .bool true])
    have HBW := Lib.hid (HB2.out.alloc HB2.out.size (.cells #[.int .i64 1024, .int .i64 32, .int .i64 8192, .int .i64 65536, .int .i64 32, .int .i64 8, .int .i64 4, .int .i64 20, .bool true, .bool true] 29))
    have HGB := Lib.hid HB2.out.size
    generalize w2.alloc (.cells #[.int .i64 1024, .int .i64 32, .int .i64 8192, .int .i64 65536, .int .i64 32, .int .i64 8, .int .i64 4, .int .i64 20, .bool true, .bool true] 29) = W2 at *
    generalize w2.heap.size = gB at *
    have y0 := HZ2.out.c 0 _ rfl; have z0 := HZ2.out.z 0 (by simp)
    have y1 := HZ2.out.c 1 _ rfl; have z1 := HZ2.out.z 1 (by simp)
    have y2 := HZ2.out.c 2 _ rfl; have z2 := HZ2.out.z 2 (by simp)
    obtain ⟨f1, f2, f3, f4, f5, f6, f7⟩ := HX.out
    have f8 := HW.out
    go_upto_region 27 with fail
    clear f1 f2 f3 f4 f5 f6 f7 f8 y0 y1 y2 z0 z1 z2
    have HZ3 := Lib.hid (((HZ2.out.set 0 (.int .i64 64) (by simp)).set 1 (.int .i64 X1) (by simp)).set 2 (.int .i64 X2) (by simp))
    have HB3 := Lib.hid (show Below w.heap.size w (((W2.setCell ⟨gB, 0, none⟩ (.int .i64 64)).setCell ⟨gB, 1, none⟩ (.int .i64 X1)).setCell ⟨gB, 2, none⟩ (.int .i64 X2)) from ((HBW.out.setCell HGB.out _).setCell HGB.out _).setCell HGB.out _)
    generalize ((W2.setCell ⟨gB, 0, none⟩ (.int .i64 64)).setCell ⟨gB, 1, none⟩ (.int .i64 X1)).setCell ⟨gB, 2, none⟩ (.int .i64 X2) = W3 at *
    have y0 := HZ3.out.c 0 _ rfl; have z0 := HZ3.out.z 0 (by simp)
    go_upto_region 29 with fail
    clear y0 z0
    have HZ4 := Lib.hid (HZ3.out.set 0 (.int .i64 4096) (by simp))
    have HB4 := Lib.hid (show Below w.heap.size w (W3.setCell ⟨gB, 0, none⟩ (.int .i64 4096)) from HB3.out.setCell HGB.out _)
    generalize W3.setCell ⟨gB, 0, none⟩ (.int .i64 4096) = W4 at *
    go_loopw [19] (fun s wr => ∃ (q Z : Nat) (S : ByteArray), Hid (Z = 27 + q) ∧ Z ≤ M ∧ s = .string S ∧ S.size = Z ∧ wr = W4 ∧ Hid (S.data.toList = hostL ++ axL q)) (fun s _ => M - strSize s)
    case atStart => exact ⟨0, 27, _, Lib.hid rfl, by omega, rfl, rfl, rfl, Lib.hid rfl⟩
    case round =>
      obtain ⟨q, Z, S, HZq, hq, rfl, hS, rfl, hL⟩ := hrel
      rcases Nat.lt_or_ge Z M with hlt | hge
      · have t1 : (Z : Int) < (M : Int) := by omega
        have v1 : ¬ 9223372036854775807 < S.size + 1 := by omega
        have HL2 : Hid ((S ++ (⟨#[120]⟩ : ByteArray)).data.toList = hostL ++ axL (q + 1)) := Lib.hid (by
          rw [ByteArray.data_append, Array.toList_append, hL.out]
          unfold axL
          rw [List.replicate_succ', List.append_assoc, List.append_assoc])
        have g0 := HNW.out
        obtain ⟨g1, g2⟩ := HM.out
        go_wp2_with fail
        clear g0 g1 g2
        go_roundw
        case rel => exact ⟨q + 1, Z + 1, _, Lib.hid (by rw [HZq.out]; omega), by omega, (by first | rfl | trivial), (by rw [ByteArray.size_append, hS]; rfl), (by first | rfl | trivial), HL2⟩
        case measure =>
          show M - (S ++ (⟨#[120]⟩ : ByteArray)).size < M - S.size
          rw [ByteArray.size_append, hS]
          show M - (Z + 1) < M - Z
          omega
      · obtain rfl : Z = M := by omega
        have t1 : ¬ (Z : Int) < (Z : Int) := by omega
        have v1 : ¬ 9223372036854775807 < S.size + 4 := by omega
        have HZR := HZ4; have HBR := HB4
        have HL2 := Lib.hid (show (S ++ (⟨#[13, 10, 13, 10]⟩ : ByteArray)).data.toList = hostL ++ axL q ++ [13, 10, 13, 10] by rw [ByteArray.data_append, Array.toList_append, hL.out])
        obtain ⟨N, hN⟩ : ∃ N, (S ++ (⟨#[13, 10, 13, 10]⟩ : ByteArray)).size = N := ⟨_, rfl⟩
        have HNN := Lib.hid (show N = 31 + q ∧ q < 430 by
          have hz := HZq.out
          have : N = Z + 4 := by rw [← hN, ByteArray.size_append, hS]; rfl
          omega)
        have g0 := HNW.out
        obtain ⟨g1, g2⟩ := HM.out
        go_upto_region 32 with fail
        clear g0 g1 g2
        generalize S ++ (⟨#[13, 10, 13, 10]⟩ : ByteArray) = S2 at *
        clear v1 hS hL
        obtain ⟨W5, cap, hcv, hby, hlt5, hb5⟩ := By.conv_bytes (S2) wr
        have hsz3 : (S2).size = N := by exact hN
        have hl3 : (S2).data.toList = hostL ++ axL q ++ [13, 10, 13, 10] := by exact HL2.out
        have hbt := Bts.conv (L := []) (in_nil wr) _ hby hlt5
        have hlen : (hostL ++ axL q ++ [13, 10, 13, 10]).length = N := by rw [← hl3, len]; exact hsz3
        rw [hl3] at hbt
        rw [hsz3] at hcv
        have y0 := HZR.out.c 0 _ rfl; have y1 := HZR.out.c 1 _ rfl; have y2 := HZR.out.c 2 _ rfl; have y3 := HZR.out.c 3 _ rfl; have y4 := HZR.out.c 4 _ rfl; have y5 := HZR.out.c 5 _ rfl; have y6 := HZR.out.c 6 _ rfl; have y7 := HZR.out.c 7 _ rfl; have y8 := HZR.out.c 8 _ rfl; have y9 := HZR.out.c 9 _ rfl
        have hmid : 2 + q ≤ Ln.mid 4096 := by show 2 + q ≤ 4096; have := HNN.out; omega
        by_cases hov : X2 < (N : Int)
        · have k3 := heads_over HRR.out.2 (by decide) HB1X.out.1 HB2X.out.1 q HNN.out.2 hmid (by have := HNN.out.1; omega)
          have hN9 : N ≤ 1000 := by have := HNN.out; omega
          obtain ⟨cl, hcl⟩ : ∃ cl, (Q.read 0 (headB 4096 X1 X2) (hostL ++ axL q ++ [13, 10, 13, 10])).clean = cl := ⟨_, rfl⟩
          obtain ⟨O, hO⟩ : ∃ O, (Q.read 0 (headB 4096 X1 X2) (hostL ++ axL q ++ [13, 10, 13, 10])).out = O := ⟨_, rfl⟩
          have hrd := read_said (p := 0) (by decide) (headB 4096 X1 X2) W5 _ cap _ hbt (by rw [hlen]; omega) 431 cl O k3 hcl hO
          rw [hlen] at hrd
          have HRD := Lib.hid (show Calls Tryz.prog 32 #[.int .u32 0, .agg #[.int .i64 4096, .int .i64 X1, .int .i64 X2, .int .i64 65536, .int .i64 32, .int .i64 8, .int .i64 4, .int .i64 20, .bool true, .bool true], .slice (some ⟨wr.heap.size, 0, none⟩) (N) cap] W5 fun r w' => ∃ o, r = .returned (.tuple #[o, .int .i64 431, .bool cl]) ∧ Said w' o O ∧ Below W5.heap.size W5 w' from hrd)
          have HB5 := Lib.hid hb5
          clear hby hlt5 hb5 hsz3 hl3 hbt hlen hrd hcl hO k3 hmid hN9 hM9
          go_wp2_with
            (go_at_call 32; with_reducible refine HRD.out.mono ?_; rintro r w6 ⟨o, rfl, hT, hb⟩
             have hb6 := HB5.out.trans (hb.mono HB5.out.size)
             have x5 := (HZR.out.below hb6).c 2 _ rfl
             clear hT
             have HB6 := Lib.hid hb6
             clear hb hb6 y0 y1 y2 y3 y4 y5 y6 y7 y8 y9)
          go_ret
          exact ⟨rfl, Base.below_step HBR.out HB6.out⟩
        · have k3 := heads_ok HRR.out.2 (by decide) HB1X.out.1 HB2X.out.1 q HNN.out.2 hmid (by have := HNN.out.1; omega)
          have hN9 : N ≤ 1000 := by have := HNN.out; omega
          obtain ⟨cl, hcl⟩ : ∃ cl, (Q.read 0 (headB 4096 X1 X2) (hostL ++ axL q ++ [13, 10, 13, 10])).clean = cl := ⟨_, rfl⟩
          obtain ⟨O, hO⟩ : ∃ O, (Q.read 0 (headB 4096 X1 X2) (hostL ++ axL q ++ [13, 10, 13, 10])).out = O := ⟨_, rfl⟩
          have hrd := read_said (p := 0) (by decide) (headB 4096 X1 X2) W5 _ cap _ hbt (by rw [hlen]; omega) 0 cl O k3 hcl hO
          rw [hlen] at hrd
          have HRD := Lib.hid (show Calls Tryz.prog 32 #[.int .u32 0, .agg #[.int .i64 4096, .int .i64 X1, .int .i64 X2, .int .i64 65536, .int .i64 32, .int .i64 8, .int .i64 4, .int .i64 20, .bool true, .bool true], .slice (some ⟨wr.heap.size, 0, none⟩) (N) cap] W5 fun r w' => ∃ o, r = .returned (.tuple #[o, .int .i64 0, .bool cl]) ∧ Said w' o O ∧ Below W5.heap.size W5 w' from hrd)
          have HB5 := Lib.hid hb5
          clear hby hlt5 hb5 hsz3 hl3 hbt hlen hrd hcl hO k3 hmid hN9 hM9
          go_wp2_with
            (go_at_call 32; with_reducible refine HRD.out.mono ?_; rintro r w6 ⟨o, rfl, hT, hb⟩
             have hb6 := HB5.out.trans (hb.mono HB5.out.size)
             have x5 := (HZR.out.below hb6).c 2 _ rfl
             clear hT
             have HB6 := Lib.hid hb6
             clear hb hb6 y0 y1 y2 y3 y4 y5 y6 y7 y8 y9)
          go_ret
          exact ⟨rfl, Base.below_step HBR.out HB6.out⟩
end code
end Go.Proofs.YtibnobdbmojjhaaGreatDoor.Pg
