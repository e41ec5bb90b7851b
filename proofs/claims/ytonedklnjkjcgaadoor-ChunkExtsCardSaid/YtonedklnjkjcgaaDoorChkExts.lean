/-
  Layer 11 (chunk): the walk of ChunkExts: it returns true, and writes nothing that was there.
-/
import Derived.Test.YtonedklnjkjcgaaDoorChkKnown
import Derived.Test.YtonedklnjkjcgaaDoorChkVals
namespace Go.Proofs.YtonedklnjkjcgaaDoor.Chk
open Go.RowKit Base Txt

theorem char_at (r : Nat) (hr : r < 8) : ∃ y : UInt8, Oct.allOf [6] [y] = true ∧ ∀ h, (ByteArray.mk #[97, 98, 61, 59, 44, 32, 9, 128])[r]'h = y := by
  rcases (by omega : r = 0 ∨ r = 1 ∨ r = 2 ∨ r = 3 ∨ r = 4 ∨ r = 5 ∨ r = 6 ∨ r = 7) with rfl | rfl | rfl | rfl | rfl | rfl | rfl | rfl
  · exact ⟨97, by decide +kernel, fun _ => rfl⟩
  · exact ⟨98, by decide +kernel, fun _ => rfl⟩
  · exact ⟨61, by decide +kernel, fun _ => rfl⟩
  · exact ⟨59, by decide +kernel, fun _ => rfl⟩
  · exact ⟨44, by decide +kernel, fun _ => rfl⟩
  · exact ⟨32, by decide +kernel, fun _ => rfl⟩
  · exact ⟨9, by decide +kernel, fun _ => rfl⟩
  · exact ⟨128, by decide +kernel, fun _ => rfl⟩
theorem ext_val (n : Nat) (hn : n ≤ 65536) (r : Int) (S : List UInt8) (hS : Oct.allOf [6] S = true) :
    sizeV (Qk.has 0 27) (Qk.has 0 28) r 65536 (Num.spell 16 n ++ 59 :: S) = if ((S.length + 1 : Nat) : Int) ≤ r then ((n : Int), 0) else (0, 400) := by
  have hp := hexes n
  rw [show Qk.has 0 27 = false by decide +kernel, show Qk.has 0 28 = false by decide +kernel,
    size_at_ext false false r 65536 _ (59 :: S) (fun h => (hex_props 59 (hp 59 h)).1 rfl) (.inr ⟨S, rfl⟩)]
  have e : pieceL false false (Num.spell 16 n) = Num.spell 16 n := rfl
  rw [e, read_hex n hn]
  have hx : isx r (59 :: S) = decide (((S.length + 1 : Nat) : Int) ≤ r) := by
    unfold isx
    have h6 : Oct.allOf [6] (59 :: S) = true := by
      unfold Oct.allOf at hS ⊢
      rw [List.all_cons, hS]
      decide +kernel
    rw [h6, List.isEmpty_cons, Bool.false_or, Bool.and_true, List.length_cons]
  rw [hx]
  by_cases h : ((S.length + 1 : Nat) : Int) ≤ r
  · rw [decide_eq_true h, if_pos rfl, if_pos h]; rfl
  · rw [decide_eq_false h, if_neg (by decide), if_neg h]
theorem bad_val (n : Nat) : sizeV (Qk.has 0 27) (Qk.has 0 28) 32 65536 (Num.spell 16 n ++ [59, 1]) = (0, 400) := by
  have hp := hexes n
  rw [size_at_ext _ _ 32 65536 _ [59, 1] (fun h => (hex_props 59 (hp 59 h)).1 rfl) (.inr ⟨[1], rfl⟩), if_neg]
  decide +kernel
theorem exts_conv (w : World) (x : UInt8) : (convert 22 9 (.slice (some ⟨w.heap.size, 0, none⟩) 1 1)).run Tryd.prog (w.alloc (.cells #[.int .u8 x.toNat] 5)) = .ok (.string ⟨#[x]⟩) (w.alloc (.cells #[.int .u8 x.toNat] 5)) := by
  refine conv_str (w.alloc _) (some ⟨w.heap.size, 0, none⟩) 1 1 [x] ⟨rfl, fun _ => ⟨w.heap.size, 0, rfl, by simp, fun k hk => ?_⟩⟩
  obtain rfl : k = 0 := by omega
  exact cell_of_row (w.alloc (.cells #[.int .u8 x.toNat] 5)) w.heap.size 0 #[.int .u8 x.toNat] 5 (0, 0) (heap_alloc_new w _)
theorem ext_wrap (x : Int) (h0 : 0 ≤ x) (h1 : x ≤ 1000000) : wrap64 x = x := by unfold wrap64; omega
theorem extWrap (N : Nat) (h : N < 65536) : wrap64 (N : Int) = (N : Int) := by unfold wrap64; omega
theorem rem60 (m : Nat) : ∃ r : Nat, r < 60 ∧ Int.tmod (m : Int) 60 = (r : Int) ∧ wrap64 (r : Int) = (r : Int) ∧ IntKind.i64.wrap (r : Int) = (r : Int) :=
  ⟨m % 60, Nat.mod_lt _ (by decide), by rw [Int.tmod_eq_emod_of_nonneg (by omega)]; omega, extWrap _ (by omega), wrap_in _ (by omega) (by omega)⟩
theorem hexIs2_any (N : Nat) (hN : N < 65536) (w : World) : Calls Tryd.prog 11 #[.int .i64 (IntKind.i64.wrap (N : Int))] w fun e w' => e = .returned (.string (Num.str (Num.spell 16 N))) ∧ ∃ m, w' = w.drewN m := by
  rw [wrap_in _ (by omega) (by omega)]
  have := Num.rputHex_any (N : Int) w (by omega) (by omega)
  rwa [Int.toNat_natCast] at this

section code
set_option maxHeartbeats 8000000
set_option maxRecDepth 100000
attribute [local go_sem] Base.some_undef
theorem chunkExts_any (N : Nat) (a : Option Addr) (n cap : Nat) (bs : List UInt8) (most : Nat) (w : World) (hN : N < 65536) (hv : Nums .u8 w a n (nums bs)) (hn : n ≤ maxLen) :
    Calls Tryd.prog 6 #[.int .u16 (N : Int), .slice a n cap, .int .u8 (most : Int)] w fun e w' => e = .returned (.bool true) ∧ Below w.heap.size w w' := by
  unfold maxLen at hn
  have HV := Lib.hid hv
  have hl : bs.length = n := by have := hv.1; rwa [nums, List.length_map] at this
  have HL := Lib.hid hl
  clear hv hl
  rcases Nat.lt_or_ge 60 n with c1 | c1
  · have d1 : (60 : Int) < (n : Int) := by omega
    go_enter Tryd.func6, Tryd.ntmps6
    go_wp2_with (go_at_call 7; with_reducible refine (known_any _).mono ?_; rintro e w1 ⟨rfl, hb⟩)
    go_ret
    exact ⟨rfl, hb⟩
  have d1 : ¬ (60 : Int) < (n : Int) := by omega
  obtain ⟨r, hr, him, hwr, hwi⟩ := rem60 most
  obtain ⟨D, hD⟩ : ∃ D, Num.str (Num.spell 16 N) = D := ⟨_, rfl⟩
  have hDl : D.data.toList = Num.spell 16 N := by rw [← hD]; rfl
  have hDs : D.size ≤ 64 := by
    rw [← len, hDl]
    exact Num.spell_len (by decide) 64 N (by omega) (by decide)
  have HP := Lib.hid (fun w => hexIs2_any N hN w)
  have HPN : Hid (∀ w, Calls Tryd.prog 11 #[.int .i64 (N : Int)] w fun e w' => e = .returned (.string (Num.str (Num.spell 16 N))) ∧ ∃ m, w' = w.drewN m) := Lib.hid fun w => by
    have := Num.rputHex_any (N : Int) w (by omega) (by omega)
    rwa [Int.toNat_natCast] at this
  rw [hD] at HP HPN
  have HD := Lib.hid (And.intro hDl hDs)
  have HN := Lib.hid hN
  clear hD hDl hDs hN
  go_enter Tryd.func6, Tryd.ntmps6
  go_upto_region 9 with (first
    | (go_at_call 17; (with_reducible refine (Bnd.rusual_any _).mono ?_); rintro e w2 ⟨rfl, hb⟩
       have HBB := Lib.hid (BB.new (Base.below_step HB1.out hb) 29 1024 32 8192 65536 (r : Int) 8 4 20 true true)
       clear hb)
    | (go_at_call 7; (with_reducible refine (known_any _).mono ?_); rintro e w1 ⟨rfl, hb⟩
       have HB1 := Lib.hid hb
       clear hb))
  clear HB1 him hwr hwi
  generalize w2.alloc (.cells #[.int .i64 1024, .int .i64 32, .int .i64 8192, .int .i64 65536, .int .i64 (r : Int), .int .i64 8, .int .i64 4, .int .i64 20, .bool true, .bool true] 29) = W0 at *
  generalize w2.heap.size = g at *
  go_loopw [8, 9] (fun s i wr => ∃ (k : Nat) (S : ByteArray), k ≤ n ∧ i = .int .i64 k ∧ s = .string S ∧ S.size = k ∧ Hid (Oct.allOf [6] S.data.toList = true) ∧ Hid (BB 1024 32 8192 65536 (r : Int) 8 4 20 true true w g wr)) (fun _ i _ => n - (intOf i).toNat)
  case atStart => exact ⟨0, ⟨#[]⟩, Nat.zero_le _, rfl, rfl, rfl, Lib.hid rfl, HBB⟩
  case round =>
    obtain ⟨k, S, hk, rfl, rfl, hS, hA, HBr⟩ := hrel
    rcases Nat.lt_or_ge k n with hlt | hge
    · have hkl : k < bs.length := by rw [HL.out]; exact hlt
      obtain ⟨bl, off, rfl, _, hc⟩ := (HV.out.below HBr.out.b).2 (by omega)
      have hck := hc k hlt
      rw [nums_at bs k hkl] at hck
      generalize bs[k] = x at *
      have t1 : (k : Int) < (n : Int) := by omega
      obtain ⟨q, hq⟩ : ∃ q, x.toNat % 8 = q := ⟨_, rfl⟩
      have hq8 : q < 8 := by omega
      have him8 : Int.tmod ((x.toNat : Nat) : Int) 8 = (q : Int) := by rw [Int.tmod_eq_emod_of_nonneg (by omega)]; omega
      obtain ⟨y, hy6, hgy⟩ := char_at q hq8
      have hq8' : (q : Int) < 8 := by omega
      have hcv := exts_conv wr y
      have v1 : ¬ 9223372036854775807 < S.size + 1 := by omega
      have HA2 : Hid (Oct.allOf [6] (S ++ (⟨#[y]⟩ : ByteArray)).data.toList = true) := Lib.hid (by
        have h := hA.out
        unfold Oct.allOf at h hy6 ⊢
        simp only [ByteArray.data_append, Array.toList_append, List.all_append, h, Bool.true_and]
        exact hy6)
      clear hc hkl hq hy6
      go_wp2_with fail
      go_roundw
      case rel => exact ⟨k + 1, _, by omega, by go_num, rfl, by rw [ByteArray.size_append]; show S.size + 1 = _; omega, HA2, HBr.out.alloc _⟩
      case measure => simp [intOf]; omega
    · obtain rfl : k = n := by omega
      have hT1 : ((D ++ (⟨#[59]⟩ : ByteArray)) ++ S).data.toList = Num.spell 16 N ++ 59 :: S.data.toList := by
        simp [ByteArray.data_append, HD.out.1]
      have hT2 : (D ++ (⟨#[59, 1]⟩ : ByteArray)).data.toList = Num.spell 16 N ++ [59, 1] := by
        simp [ByteArray.data_append, HD.out.1]
      have hDs := HD.out.2
      have hN := HN.out
      have hz1 : ((D ++ (⟨#[59]⟩ : ByteArray)) ++ S).size ≤ 1000000000 := by
        rw [ByteArray.size_append, ByteArray.size_append]; show D.size + 1 + S.size ≤ _; omega
      have hz2 : (D ++ (⟨#[59, 1]⟩ : ByteArray)).size ≤ 1000000000 := by
        rw [ByteArray.size_append]; show D.size + 2 ≤ _; omega
      obtain ⟨e1, e2, hE⟩ : ∃ e1 e2, (if ((S.data.toList.length + 1 : Nat) : Int) ≤ (r : Int) then ((N : Int), (0 : Int)) else (0, 400)) = (e1, e2) := ⟨_, _, rfl⟩
      have C1 : Hid (∀ w, Calls Tryd.prog 13 #[.string ((D ++ ⟨#[59]⟩) ++ S), .int .u32 0, Bnd.bnd 1024 32 8192 65536 (r : Int) 8 4 20 true true] w fun e w' => e = .returned (.tuple #[.int .i64 e1, .int .i64 e2]) ∧ Below w.heap.size w w') := Lib.hid fun w => by
        have := size_any ((D ++ ⟨#[59]⟩) ++ S) 0 (by decide) 1024 32 8192 65536 (r : Int) 8 4 20 true true (by decide) w hz1
        rw [hT1, ext_val N (by omega) (r : Int) S.data.toList hA.out, hE] at this
        exact this
      have C2 : Hid (∀ w, Calls Tryd.prog 13 #[.string (D ++ ⟨#[59, 1]⟩), .int .u32 0, Bnd.bnd 1024 32 8192 65536 32 8 4 20 true true] w fun e w' => e = .returned (.tuple #[.int .i64 0, .int .i64 400]) ∧ Below w.heap.size w w') := Lib.hid fun w => by
        have := size_any (D ++ ⟨#[59, 1]⟩) 0 (by decide) 1024 32 8192 65536 32 8 4 20 true true (by decide) w hz2
        rw [hT2, bad_val N] at this
        exact this
      have HE : Hid (((r : Int) < (S.size : Int) + 1 ∧ e1 = 0 ∧ e2 = 400) ∨ (¬ (r : Int) < (S.size : Int) + 1 ∧ e1 = (N : Int) ∧ e2 = 0)) := Lib.hid (by
        rw [len] at hE
        by_cases h : ((S.size + 1 : Nat) : Int) ≤ (r : Int)
        · rw [if_pos h] at hE
          injection hE with h1 h2
          exact .inr ⟨by omega, h1.symm, h2.symm⟩
        · rw [if_neg h] at hE
          injection hE with h1 h2
          exact .inl ⟨by omega, h1.symm, h2.symm⟩)
      have v1 : ¬ 9223372036854775807 < D.size + 1 := by omega
      have v2 : ¬ 9223372036854775807 < D.size + 1 + S.size := by omega
      have v3 : ¬ 9223372036854775807 < D.size + 2 := by omega
      have HW1 := Lib.hid (show wrap64 ((S.size : Int) + 1) = (S.size : Int) + 1 from ext_wrap _ (by omega) (by omega))
      have HW2 := Lib.hid (extWrap N hN)
      have t1 : ¬ (k : Int) < (k : Int) := by omega
      clear hT1 hT2 hDs hN hz1 hz2 hE hA HD HN HV HL hge hk hr c1 hn hS
      go_upto_region 12 with fail
      obtain ⟨⟨q0, q1, q2, q3, q4, q5, q6, q7, q8, q9⟩, hlt, hbk⟩ := HBr.out
      clear hlt hbk HBB
      go_cut [10, 11] from 40 to 50 (fun u v wx => u = .int .i64 e1 ∧ v = .int .i64 e2 ∧ Hid (BB 1024 32 8192 65536 (r : Int) 8 4 20 true true w g wx))
      case first =>
        clear C2
        go_region_with (first
          | (go_at_call 13; (with_reducible refine (C1.out _).mono ?_); rintro e w6 ⟨rfl, hb⟩
             have HB6 := Lib.hid ((HBr.out.drew (1 + m5)).step hb)
             clear hb)
          | (go_at_call 11; (with_reducible refine (HP.out _).mono ?_); rintro e w5 ⟨rfl, m5, hw⟩; rw [hw]; clear hw))
        all_goals
          go_wp2_with fail
          go_meet
          case rel => exact ⟨rfl, rfl, HB6⟩
      case rest =>
        obtain ⟨rfl, rfl, HBc⟩ := hcut
        clear C1 HBr q0 q1 q2 q3 q4 q5 q6 q7 q8 q9 v1 v2
        have hw1 := HW1.out
        have hw2 := HW2.out
        rcases HE.out with ⟨c, rfl, rfl⟩ | ⟨c, rfl, rfl⟩
        all_goals
          go_wp2_with (first
            | (go_at_call 13; (with_reducible refine (C2.out _).mono ?_); rintro e w9 ⟨rfl, hb⟩
               have HB9 := Lib.hid (HB8.out.step hb)
               obtain ⟨⟨q0, q1, q2, q3, q4, q5, q6, q7, q8, q9⟩, hlt, hbk⟩ := HB9.out
               clear q0 q1 q2 q3 q5 q6 q7 q8 q9 hlt hbk hb)
            | (go_at_call 17; (with_reducible refine (Bnd.rusual_any _).mono ?_); rintro e w8 ⟨rfl, hb⟩
               have HB8 := Lib.hid ((HBc.out.drew m7).step hb)
               clear hb)
            | (go_at_call 11; (first | (with_reducible refine (HPN.out _).mono ?_) | (with_reducible refine (HP.out _).mono ?_)); rintro e w7 ⟨rfl, m7, hw⟩; rw [hw]; clear hw))
          go_ret
          exact ⟨rfl, HB9.out.b⟩
end code
end Go.Proofs.YtonedklnjkjcgaaDoor.Chk
