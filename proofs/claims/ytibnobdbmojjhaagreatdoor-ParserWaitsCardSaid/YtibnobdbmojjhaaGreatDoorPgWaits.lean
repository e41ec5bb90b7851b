/-
  Layer 13 (parser): the law that says when a request waits. (Printed by tools/gen_pgwaits.py.)
-/
import Derived.Test.YtibnobdbmojjhaaGreatDoorPgKnown
import Derived.Test.YtibnobdbmojjhaaGreatDoorPgTgtW
import Derived.Test.YtibnobdbmojjhaaGreatDoorPgFinW
namespace Go.Proofs.YtibnobdbmojjhaaGreatDoor.Pg
open Go.RowKit Base Txt Mem Par

theorem vals_at (ss : List ByteArray) (k : Nat) (hk : k < ss.length) : (ss.map Value.string)[k]'(by rw [List.length_map]; exact hk) = .string (ss[k]?.getD ByteArray.empty) := by
  simp [List.getElem?_eq_getElem hk]
theorem wait_at (v : Nat) (hv : v < 6) : ∃ V : ByteArray, V.size ≤ 15 ∧ V.data.toList = waitVals[v]?.getD [] ∧ (∀ w : World, (w.alloc (.cells #[.string ⟨#[49, 48, 48, 45, 99, 111, 110, 116, 105, 110, 117, 101]⟩, .string ⟨#[49, 48, 48, 45, 67, 111, 110, 116, 105, 110, 117, 101]⟩, .string ⟨#[120, 44, 32, 49, 48, 48, 45, 99, 111, 110, 116, 105, 110, 117, 101]⟩, .string ⟨#[49, 48, 48]⟩, .string ⟨#[]⟩, .string ⟨#[50, 48, 48, 45, 111, 107]⟩] 9)).cell? ⟨w.heap.size, v, none⟩ = some (.string V)) ∧ ∀ hh, ([.string ⟨#[49, 48, 48, 45, 99, 111, 110, 116, 105, 110, 117, 101]⟩, .string ⟨#[49, 48, 48, 45, 67, 111, 110, 116, 105, 110, 117, 101]⟩, .string ⟨#[120, 44, 32, 49, 48, 48, 45, 99, 111, 110, 116, 105, 110, 117, 101]⟩, .string ⟨#[49, 48, 48]⟩, .string ⟨#[]⟩, .string ⟨#[50, 48, 48, 45, 111, 107]⟩] : List Value)[v]'hh = .string V := by
  have key : ∀ V : ByteArray, ([⟨#[49, 48, 48, 45, 99, 111, 110, 116, 105, 110, 117, 101]⟩, ⟨#[49, 48, 48, 45, 67, 111, 110, 116, 105, 110, 117, 101]⟩, ⟨#[120, 44, 32, 49, 48, 48, 45, 99, 111, 110, 116, 105, 110, 117, 101]⟩, ⟨#[49, 48, 48]⟩, ⟨#[]⟩, ⟨#[50, 48, 48, 45, 111, 107]⟩] : List ByteArray)[v]? = some V → V.size ≤ 15 ∧ V.data.toList = waitVals[v]?.getD [] := by
    rcases (by omega : v = 0 ∨ v = 1 ∨ v = 2 ∨ v = 3 ∨ v = 4 ∨ v = 5) with rfl | rfl | rfl | rfl | rfl | rfl <;> (intro V h; cases h; exact ⟨by decide, rfl⟩)
  have hl : v < ([⟨#[49, 48, 48, 45, 99, 111, 110, 116, 105, 110, 117, 101]⟩, ⟨#[49, 48, 48, 45, 67, 111, 110, 116, 105, 110, 117, 101]⟩, ⟨#[120, 44, 32, 49, 48, 48, 45, 99, 111, 110, 116, 105, 110, 117, 101]⟩, ⟨#[49, 48, 48]⟩, ⟨#[]⟩, ⟨#[50, 48, 48, 45, 111, 107]⟩] : List ByteArray).length := hv
  obtain ⟨h1, h2⟩ := key _ (List.getElem?_eq_getElem hl)
  refine ⟨_, h1, h2, fun w => ?_, fun hh => ?_⟩
  · rw [cell_of_row _ _ v _ _ (0, 0) (heap_alloc_new w _)]
    show (([⟨#[49, 48, 48, 45, 99, 111, 110, 116, 105, 110, 117, 101]⟩, ⟨#[49, 48, 48, 45, 67, 111, 110, 116, 105, 110, 117, 101]⟩, ⟨#[120, 44, 32, 49, 48, 48, 45, 99, 111, 110, 116, 105, 110, 117, 101]⟩, ⟨#[49, 48, 48]⟩, ⟨#[]⟩, ⟨#[50, 48, 48, 45, 111, 107]⟩] : List ByteArray).map Value.string).toArray[v]? = _
    rw [List.getElem?_toArray, List.getElem?_map, List.getElem?_eq_getElem hl]; rfl
  · show (([⟨#[49, 48, 48, 45, 99, 111, 110, 116, 105, 110, 117, 101]⟩, ⟨#[49, 48, 48, 45, 67, 111, 110, 116, 105, 110, 117, 101]⟩, ⟨#[120, 44, 32, 49, 48, 48, 45, 99, 111, 110, 116, 105, 110, 117, 101]⟩, ⟨#[49, 48, 48]⟩, ⟨#[]⟩, ⟨#[50, 48, 48, 45, 111, 107]⟩] : List ByteArray).map Value.string)[v]'_ = _
    rw [List.getElem_map]
section code
set_option maxHeartbeats 8000000
set_option maxRecDepth 100000
attribute [local go_sem] Base.some_undef
theorem parserWaits_law (a : Int) (old : Bool) (n : Int) (ch : Bool) (w : World) (ha : 0 ≤ a) (hn : 0 ≤ n) : Calls Tryz.prog 11 #[.int .u8 a, .bool old, .int .u8 n, .bool ch] w fun e w' => e = .returned (.bool true) ∧ Below w.heap.size w w' := by
  obtain ⟨v, hv, hav⟩ := rem_of a 6 (by decide) ha
  obtain ⟨r, hr, hnr⟩ := rem_of n 4 (by decide) hn
  have hv6 : v < 6 := by omega
  have hr4 : r < 4 := by omega
  obtain ⟨V, hVs, hVl, hVc⟩ := wait_at v hv6
  have HVS := Lib.hid hVs; have HVL := Lib.hid hVl; have HV := Lib.hid hVc
  have w2 : (-9223372036854775808 : Int) ≤ (r : Int) ∧ (r : Int) ≤ 9223372036854775807 := ⟨by omega, by omega⟩
  have HR := Lib.hid (And.intro hnr (Rec.wraps (r : Int) w2)); have HVM := Lib.hid hav
  have hpu := fun w => Num.rput_any (r : Int) w (by omega) (by omega)
  obtain ⟨P, hPx⟩ : ∃ P, Num.str (Num.spell 10 (r : Int).toNat) = P := ⟨_, rfl⟩
  have hPl : P.data.toList = Num.spell 10 r := by rw [← hPx, Int.toNat_natCast]; rfl
  have hPs : P.size = 1 := by
    rw [← len, hPl]
    rcases (by omega : r = 0 ∨ r = 1 ∨ r = 2 ∨ r = 3) with rfl | rfl | rfl | rfl <;> decide +kernel
  rw [hPx] at hpu
  have HPU := Lib.hid hpu; have HPL := Lib.hid hPl; have HPS := Lib.hid hPs
  clear ha hn hv hr hVl hVc hpu hPx hPl hnr hav w2
  cases old <;> cases ch
  · go_enter Tryz.func11, Tryz.ntmps11
    go_upto_region 4 with (first
      | (go_at_call 34; with_reducible refine (Bnd.rusual_any _).mono ?_; rintro r w2 ⟨rfl, hb⟩
         have HB2 := Lib.hid (Base.below_step HB1.out hb)
         clear hb)
      | (go_at_call 15; with_reducible refine (known_any _).mono ?_; rintro r w1 ⟨rfl, hb⟩
         have HB1 := Lib.hid hb
         clear hb))
    have HZ2 := Lib.hid (Rec.Bk.new w2 w2.heap.size rfl 29 [.int .i64 1024, .int .i64 32, .int .i64 8192, .int .i64 65536, .int .i64 32, .int .i64 8, .int .i64 4, .int .i64 20, .bool true, .bool true])
    have HBW := Lib.hid (HB2.out.alloc HB2.out.size (.cells #[.int .i64 1024, .int .i64 32, .int .i64 8192, .int .i64 65536, .int .i64 32, .int .i64 8, .int .i64 4, .int .i64 20, .bool true, .bool true] 29))
    generalize w2.alloc (.cells #[.int .i64 1024, .int .i64 32, .int .i64 8192, .int .i64 65536, .int .i64 32, .int .i64 8, .int .i64 4, .int .i64 20, .bool true, .bool true] 29) = W2 at *
    generalize w2.heap.size = gB at *
    have hcell := HV.out.1 W2; have hval := HV.out.2; have g0 := HVM.out
    go_upto_region 5 with fail
    clear g0
    have HZ3 := Lib.hid (HZ2.out.alloc (.cells #[.string ⟨#[49, 48, 48, 45, 99, 111, 110, 116, 105, 110, 117, 101]⟩, .string ⟨#[49, 48, 48, 45, 67, 111, 110, 116, 105, 110, 117, 101]⟩, .string ⟨#[120, 44, 32, 49, 48, 48, 45, 99, 111, 110, 116, 105, 110, 117, 101]⟩, .string ⟨#[49, 48, 48]⟩, .string ⟨#[]⟩, .string ⟨#[50, 48, 48, 45, 111, 107]⟩] 9))
    have HB3 := Lib.hid (HBW.out.alloc HBW.out.size (.cells #[.string ⟨#[49, 48, 48, 45, 99, 111, 110, 116, 105, 110, 117, 101]⟩, .string ⟨#[49, 48, 48, 45, 67, 111, 110, 116, 105, 110, 117, 101]⟩, .string ⟨#[120, 44, 32, 49, 48, 48, 45, 99, 111, 110, 116, 105, 110, 117, 101]⟩, .string ⟨#[49, 48, 48]⟩, .string ⟨#[]⟩, .string ⟨#[50, 48, 48, 45, 111, 107]⟩] 9))
    clear hcell hval HV
    generalize W2.alloc (.cells #[.string ⟨#[49, 48, 48, 45, 99, 111, 110, 116, 105, 110, 117, 101]⟩, .string ⟨#[49, 48, 48, 45, 67, 111, 110, 116, 105, 110, 117, 101]⟩, .string ⟨#[120, 44, 32, 49, 48, 48, 45, 99, 111, 110, 116, 105, 110, 117, 101]⟩, .string ⟨#[49, 48, 48]⟩, .string ⟨#[]⟩, .string ⟨#[50, 48, 48, 45, 111, 107]⟩] 9) = W3 at *
    obtain ⟨g1, g2, g3⟩ := HR.out
    go_upto_region 11 with (go_at_call 37; with_reducible refine (HPU.out _).mono ?_; rintro r w3 ⟨rfl, mk, hw⟩; rw [hw]; clear hw)
    clear g1 g2 g3
    have HZ4 := Lib.hid (HZ3.out.drew mk)
    have HB4 := Lib.hid (Base.below_drewN HB3.out mk)
    generalize W3.drewN mk = W4 at *
    have y0 := HZ4.out.c 0 _ rfl; have y1 := HZ4.out.c 1 _ rfl; have y2 := HZ4.out.c 2 _ rfl; have y3 := HZ4.out.c 3 _ rfl; have y4 := HZ4.out.c 4 _ rfl; have y5 := HZ4.out.c 5 _ rfl; have y6 := HZ4.out.c 6 _ rfl; have y7 := HZ4.out.c 7 _ rfl; have y8 := HZ4.out.c 8 _ rfl; have y9 := HZ4.out.c 9 _ rfl
    have HNW := Lib.hid (show Calls Tryz.prog 20 #[.int .u32 0, .agg #[.int .i64 1024, .int .i64 32, .int .i64 8192, .int .i64 65536, .int .i64 32, .int .i64 8, .int .i64 4, .int .i64 20, .bool true, .bool true]] W4 fun r w' => ∃ g L', r = .returned (ptr g) ∧ W4.heap.size ≤ g ∧ At w' W4.heap.size g 0 usual L' (Q.new 0 usual) ∧ Below W4.heap.size W4 w' from new_any (p := 0) (b := usual) (by decide) W4)
    go_upto_region 12 with
      (go_at_call 20; with_reducible refine HNW.out.mono ?_; rintro r w5 ⟨g, L5, rfl, -, hA, hb⟩
       have HA5 := Lib.hid hA; have HB5 := Lib.hid hb
       clear hA hb y0 y1 y2 y3 y4 y5 y6 y7 y8 y9)
    clear HNW
    go_upto_region 13 with fail
    have hS : (((((((⟨#[80, 79, 83, 84, 32, 47, 32]⟩ : ByteArray) ++ (⟨#[72, 84, 84, 80, 47, 49, 46, 49]⟩ : ByteArray)) ++ (⟨#[13, 10, 72, 111, 115, 116, 58, 32, 104, 13, 10, 69, 120, 112, 101, 99, 116, 58, 32]⟩ : ByteArray)) ++ V) ++ (⟨#[13, 10]⟩ : ByteArray)) ++ ((⟨#[67, 111, 110, 116, 101, 110, 116, 45, 76, 101, 110, 103, 116, 104, 58, 32]⟩ : ByteArray) ++ P)) ++ (⟨#[13, 10, 13]⟩ : ByteArray)).data.toList = waitL (waitVals[v]?.getD []) false (frameL r (false && !false)) := by
      simp only [ByteArray.data_append, Array.toList_append, HVL.out, HPL.out]
      rfl
    have hSz : (((((((⟨#[80, 79, 83, 84, 32, 47, 32]⟩ : ByteArray) ++ (⟨#[72, 84, 84, 80, 47, 49, 46, 49]⟩ : ByteArray)) ++ (⟨#[13, 10, 72, 111, 115, 116, 58, 32, 104, 13, 10, 69, 120, 112, 101, 99, 116, 58, 32]⟩ : ByteArray)) ++ V) ++ (⟨#[13, 10]⟩ : ByteArray)) ++ ((⟨#[67, 111, 110, 116, 101, 110, 116, 45, 76, 101, 110, 103, 116, 104, 58, 32]⟩ : ByteArray) ++ P)) ++ (⟨#[13, 10, 13]⟩ : ByteArray)).size ≤ 200 := by
      simp only [ByteArray.size_append, HPS.out, len_mk, List.length_cons, List.length_nil]
      have := HVS.out; omega
    have HS := Lib.hid hS
    generalize (((((((⟨#[80, 79, 83, 84, 32, 47, 32]⟩ : ByteArray) ++ (⟨#[72, 84, 84, 80, 47, 49, 46, 49]⟩ : ByteArray)) ++ (⟨#[13, 10, 72, 111, 115, 116, 58, 32, 104, 13, 10, 69, 120, 112, 101, 99, 116, 58, 32]⟩ : ByteArray)) ++ V) ++ (⟨#[13, 10]⟩ : ByteArray)) ++ ((⟨#[67, 111, 110, 116, 101, 110, 116, 45, 76, 101, 110, 103, 116, 104, 58, 32]⟩ : ByteArray) ++ P)) ++ (⟨#[13, 10, 13]⟩ : ByteArray)) = S at *
    clear hS
    obtain ⟨N, hN⟩ : ∃ N, S.size = N := ⟨_, rfl⟩
    rw [hN] at hSz
    obtain ⟨W6, cap, hcv, hby, hlt6, hb6⟩ := By.conv_bytes S w5
    have hbt := Bts.conv (L := L5) HA5.out.in S hby hlt6
    have hlen : S.data.toList.length = N := by rw [← hN]; exact len S
    rw [hN] at hcv
    have hin6 : In W6 L5 := HA5.out.in.mono (Nat.le_of_lt hlt6)
    have hP := Parts.one (c := cap) hbt hin6 22
    rw [hlen] at hP
    have hb7 : Below w5.heap.size w5 (W6.alloc (.cells #[.slice (some ⟨w5.heap.size, 0, none⟩) N cap] 22)) := hb6.alloc (Nat.le_of_lt hlt6) _
    have hf := feed_said (by decide) (HA5.out.below hb7) (Q.new_ok 0 usual) (by unfold Q.new; split <;> rfl) (some ⟨W6.heap.size, 0, none⟩) 1 [S.data.toList] hP (by show 1 ≤ 1000000; decide) (by
      rw [show ([S.data.toList] : List (List UInt8)).flatten = S.data.toList by simp, hlen]; omega)
    rw [show ([S.data.toList] : List (List UInt8)).flatten = S.data.toList by simp, show Q.feed 0 usual (Q.new 0 usual) S.data.toList = Q.read 0 usual S.data.toList from rfl, HS.out] at hf
    have k3 := waits_all ⟨v, hv6⟩ false ⟨r, hr4⟩ false
    obtain ⟨X, hX⟩ : ∃ X, Q.read 0 usual (waitL (waitVals[v]?.getD []) false (frameL r (false && !false))) = X := ⟨_, rfl⟩
    rw [show (Q.read 0 usualB (waitL (waitVals[((⟨v, hv6⟩ : Fin 6) : Nat)]?.getD []) false (frameL ((⟨r, hr4⟩ : Fin 4) : Nat) (false && !false)))) = X from hX] at k3
    rw [hX] at hf
    obtain ⟨Y, hY⟩ : ∃ Y, X.told.feed 0 usual [10] = Y := ⟨_, rfl⟩
    rw [show X.told.feed 0 usualB [10] = Y from hY] at k3
    obtain ⟨Z, hZ⟩ : ∃ Z, Y.told.feed 0 usual [49] = Z := ⟨_, rfl⟩
    rw [show Y.told.feed 0 usualB [49] = Z from hZ] at k3
    have HK := Lib.hid k3
    have HF := Lib.hid (show Calls Tryz.prog 22 #[ptr g, .slice (some ⟨W6.heap.size, 0, none⟩) 1 1] (W6.alloc (.cells #[.slice (some ⟨w5.heap.size, 0, none⟩) N cap] 22)) fun r w' => ∃ o L', r = .returned o ∧ At w' W4.heap.size g 0 usual L' X.told ∧ X.told.Ok usual ∧ X.told.out = [] ∧ Said w' o X.out ∧ Step L5 L' (W6.alloc (.cells #[.slice (some ⟨w5.heap.size, 0, none⟩) N cap] 22)) w' from hf)
    have HBA := Lib.hid (HB5.out.trans (hb7.mono HB5.out.size))
    have HLOW := Lib.hid HA5.out.low
    clear hby hlt6 hb6 hbt hin6 hP hlen hb7 hf HA5 HB5 HS hX k3
    go_upto_region 15 with (first
      | (go_at_call 26; with_reducible refine HW7.out.mono ?_; rintro r w8 ⟨rfl, hb⟩
         have HA8 := Lib.hid (HA7.out.below hb); have HB8 := Lib.hid (HB7.out.trans (hb.mono HB7.out.size))
         clear hb)
      | (go_at_call 22; with_reducible refine HF.out.mono ?_; rintro r w7 ⟨o7, L7, rfl, hA7, hok7, ho7, -, hS7⟩
         have hw := waits_any hA7 hok7
         rw [told_waits, HK.out.1] at hw
         have HW7 := Lib.hid hw
         have HA7 := Lib.hid hA7; have HO7 := Lib.hid hok7; have HE7 := Lib.hid ho7
         have HB7 := Lib.hid (HBA.out.trans (hS7.keeps.below HBA.out.size HLOW.out))
         clear hA7 hok7 ho7 hS7 hw))
    clear HF HBA HLOW HA7 HB7 HW7 hcv
    have hcv8 : (convert 22 22 (.slice (some ⟨w8.heap.size, 0, none⟩) 1 1)).run Tryz.prog (w8.alloc (.cells #[.int .u8 10] 5)) = .ok (.slice (some ⟨w8.heap.size, 0, none⟩) 1 1) (w8.alloc (.cells #[.int .u8 10] 5 (1, 2))) := Lib.run_convert_bytes_const w8 22 5 #[.int .u8 10] 1 1 Tryz.underlying22 Tryz.underlying5
    have hb8 : Below w8.heap.size w8 ((w8.alloc (.cells #[.int .u8 10] 5 (1, 2))).alloc (.cells #[.slice (some ⟨w8.heap.size, 0, none⟩) 1 1] 22)) := ((Below.refl _ _).alloc (Nat.le_refl _) _).alloc (by simp) _
    have hP8 := Parts.one (c := 1) (Bts.lit HA8.out.in [10] #[.int .u8 10] (by kernel_rfl) 5 (1, 2)) (in_alloc HA8.out.in _) 22
    rw [show (w8.alloc (.cells #[.int .u8 10] 5 (1, 2))).heap.size = w8.heap.size + 1 by simp] at hP8
    have hf8 := feed_said (by decide) (HA8.out.below hb8) HO7.out HE7.out (some ⟨w8.heap.size + 1, 0, none⟩) 1 [[10]] hP8 (by decide) (by decide)
    rw [show ([[10]] : List (List UInt8)).flatten = [10] from rfl, hY] at hf8
    have HF8 := Lib.hid (show Calls Tryz.prog 22 #[ptr g, .slice (some ⟨w8.heap.size + 1, 0, none⟩) 1 1] ((w8.alloc (.cells #[.int .u8 10] 5 (1, 2))).alloc (.cells #[.slice (some ⟨w8.heap.size, 0, none⟩) 1 1] 22)) fun r w' => ∃ o L', r = .returned o ∧ At w' W4.heap.size g 0 usual L' Y.told ∧ Y.told.Ok usual ∧ Y.told.out = [] ∧ Said w' o Y.out ∧ Step L7 L' ((w8.alloc (.cells #[.int .u8 10] 5 (1, 2))).alloc (.cells #[.slice (some ⟨w8.heap.size, 0, none⟩) 1 1] 22)) w' from hf8)
    have HBA8 := Lib.hid (HB8.out.trans (hb8.mono HB8.out.size)); have HLOW8 := Lib.hid HA8.out.low
    clear hb8 hP8 hf8 hY HA8 HB8 HO7 HE7
    go_upto_region 17 with (first
      | (go_at_call 26; with_reducible refine HW9.out.mono ?_; rintro r w10 ⟨rfl, hb⟩
         have HA10 := Lib.hid (HA9.out.below hb); have HB10 := Lib.hid (HB9.out.trans (hb.mono HB9.out.size))
         clear hb)
      | (go_at_call 22; with_reducible refine HF8.out.mono ?_; rintro r w9 ⟨o9, L9, rfl, hA9, hok9, ho9, -, hS9⟩
         have hw := waits_any hA9 hok9
         rw [told_waits, HK.out.2.1] at hw
         have HW9 := Lib.hid hw
         have HA9 := Lib.hid hA9; have HO9 := Lib.hid hok9; have HE9 := Lib.hid ho9
         have HB9 := Lib.hid (HBA8.out.trans (hS9.keeps.below HBA8.out.size HLOW8.out))
         clear hA9 hok9 ho9 hS9 hw))
    clear HF8 HBA8 HLOW8 HA9 HB9 HW9 hcv8
    have hcv10 : (convert 22 22 (.slice (some ⟨w10.heap.size, 0, none⟩) 1 1)).run Tryz.prog (w10.alloc (.cells #[.int .u8 49] 5)) = .ok (.slice (some ⟨w10.heap.size, 0, none⟩) 1 1) (w10.alloc (.cells #[.int .u8 49] 5 (1, 2))) := Lib.run_convert_bytes_const w10 22 5 #[.int .u8 49] 1 1 Tryz.underlying22 Tryz.underlying5
    have hb10 : Below w10.heap.size w10 ((w10.alloc (.cells #[.int .u8 49] 5 (1, 2))).alloc (.cells #[.slice (some ⟨w10.heap.size, 0, none⟩) 1 1] 22)) := ((Below.refl _ _).alloc (Nat.le_refl _) _).alloc (by simp) _
    have hP10 := Parts.one (c := 1) (Bts.lit HA10.out.in [49] #[.int .u8 49] (by kernel_rfl) 5 (1, 2)) (in_alloc HA10.out.in _) 22
    rw [show (w10.alloc (.cells #[.int .u8 49] 5 (1, 2))).heap.size = w10.heap.size + 1 by simp] at hP10
    have hf10 := feed_said (by decide) (HA10.out.below hb10) HO9.out HE9.out (some ⟨w10.heap.size + 1, 0, none⟩) 1 [[49]] hP10 (by decide) (by decide)
    rw [show ([[49]] : List (List UInt8)).flatten = [49] from rfl, hZ] at hf10
    have HF10 := Lib.hid (show Calls Tryz.prog 22 #[ptr g, .slice (some ⟨w10.heap.size + 1, 0, none⟩) 1 1] ((w10.alloc (.cells #[.int .u8 49] 5 (1, 2))).alloc (.cells #[.slice (some ⟨w10.heap.size, 0, none⟩) 1 1] 22)) fun r w' => ∃ o L', r = .returned o ∧ At w' W4.heap.size g 0 usual L' Z.told ∧ Z.told.Ok usual ∧ Z.told.out = [] ∧ Said w' o Z.out ∧ Step L9 L' ((w10.alloc (.cells #[.int .u8 49] 5 (1, 2))).alloc (.cells #[.slice (some ⟨w10.heap.size, 0, none⟩) 1 1] 22)) w' from hf10)
    have HBA10 := Lib.hid (HB10.out.trans (hb10.mono HB10.out.size)); have HLOW10 := Lib.hid HA10.out.low
    clear hb10 hP10 hf10 hZ HA10 HB10 HO9 HE9
    go_upto_region 18 with
      (go_at_call 22; with_reducible refine HF10.out.mono ?_; rintro r w11 ⟨o11, L11, rfl, hA11, hok11, ho11, -, hS11⟩
       have hw := waits_any hA11 hok11
       rw [told_waits, HK.out.2.2.1] at hw
       have her := fun (w' : World) (hb : Below w11.heap.size w11 w') => errq_any (hA11.below hb)
       rw [told_err, HK.out.2.2.2] at her
       have HW11 := Lib.hid hw
       have HER := Lib.hid (show ∀ (w' : World), Below w11.heap.size w11 w' → Calls Tryz.prog 25 #[ptr g] w' fun r w2 => r = .returned (.int .i64 0) ∧ w2 = w' from her)
       have HB11 := Lib.hid (HBA10.out.trans (hS11.keeps.below HBA10.out.size HLOW10.out))
       clear hA11 hok11 ho11 hS11 hw her)
    clear HF10 HBA10 HLOW10 hcv10
    rcases Nat.lt_or_ge v 3 with hv3 | hv3 <;> rcases Nat.eq_zero_or_pos r with hr0 | hr0
    all_goals
      try have t1 : (v : Int) < 3 := by omega
      try have t1 : ¬ (v : Int) < 3 := by omega
      try have t2 : ¬ (0 : Int) < (r : Int) := by omega
      try have t2 : (0 : Int) < (r : Int) := by omega
      try have t3 : decide (v < 3) = true := decide_eq_true (by omega)
      try have t3 : decide (v < 3) = false := decide_eq_false (by omega)
      try have t4 : decide (0 < r) = true := decide_eq_true (by omega)
      try have t4 : decide (0 < r) = false := decide_eq_false (by omega)
      clear hv3 hr0
      obtain ⟨g1, g2, g3⟩ := HR.out
      have g0 := HVM.out
      go_wp2_with (first
        | (go_at_call 25; with_reducible refine (HER.out _ HB12.out).mono ?_; rintro r w13 ⟨rfl, hw⟩; rw [hw]; clear hw)
        | (go_at_call 26; with_reducible refine HW11.out.mono ?_; rintro r w12 ⟨rfl, hb⟩; have HB12 := Lib.hid hb; clear hb))
      go_ret
      exact ⟨rfl, HB4.out.trans ((HB11.out.trans (HB12.out.mono HB11.out.size)).mono HB4.out.size)⟩
  · go_enter Tryz.func11, Tryz.ntmps11
    go_upto_region 4 with (first
      | (go_at_call 34; with_reducible refine (Bnd.rusual_any _).mono ?_; rintro r w2 ⟨rfl, hb⟩
         have HB2 := Lib.hid (Base.below_step HB1.out hb)
         clear hb)
      | (go_at_call 15; with_reducible refine (known_any _).mono ?_; rintro r w1 ⟨rfl, hb⟩
         have HB1 := Lib.hid hb
         clear hb))
    have HZ2 := Lib.hid (Rec.Bk.new w2 w2.heap.size rfl 29 [.int .i64 1024, .int .i64 32, .int .i64 8192, .int .i64 65536, .int .i64 32, .int .i64 8, .int .i64 4, .int .i64 20, .bool true, .bool true])
    have HBW := Lib.hid (HB2.out.alloc HB2.out.size (.cells #[.int .i64 1024, .int .i64 32, .int .i64 8192, .int .i64 65536, .int .i64 32, .int .i64 8, .int .i64 4, .int .i64 20, .bool true, .bool true] 29))
    generalize w2.alloc (.cells #[.int .i64 1024, .int .i64 32, .int .i64 8192, .int .i64 65536, .int .i64 32, .int .i64 8, .int .i64 4, .int .i64 20, .bool true, .bool true] 29) = W2 at *
    generalize w2.heap.size = gB at *
    have hcell := HV.out.1 W2; have hval := HV.out.2; have g0 := HVM.out
    go_upto_region 5 with fail
    clear g0
    have HZ3 := Lib.hid (HZ2.out.alloc (.cells #[.string ⟨#[49, 48, 48, 45, 99, 111, 110, 116, 105, 110, 117, 101]⟩, .string ⟨#[49, 48, 48, 45, 67, 111, 110, 116, 105, 110, 117, 101]⟩, .string ⟨#[120, 44, 32, 49, 48, 48, 45, 99, 111, 110, 116, 105, 110, 117, 101]⟩, .string ⟨#[49, 48, 48]⟩, .string ⟨#[]⟩, .string ⟨#[50, 48, 48, 45, 111, 107]⟩] 9))
    have HB3 := Lib.hid (HBW.out.alloc HBW.out.size (.cells #[.string ⟨#[49, 48, 48, 45, 99, 111, 110, 116, 105, 110, 117, 101]⟩, .string ⟨#[49, 48, 48, 45, 67, 111, 110, 116, 105, 110, 117, 101]⟩, .string ⟨#[120, 44, 32, 49, 48, 48, 45, 99, 111, 110, 116, 105, 110, 117, 101]⟩, .string ⟨#[49, 48, 48]⟩, .string ⟨#[]⟩, .string ⟨#[50, 48, 48, 45, 111, 107]⟩] 9))
    clear hcell hval HV
    generalize W2.alloc (.cells #[.string ⟨#[49, 48, 48, 45, 99, 111, 110, 116, 105, 110, 117, 101]⟩, .string ⟨#[49, 48, 48, 45, 67, 111, 110, 116, 105, 110, 117, 101]⟩, .string ⟨#[120, 44, 32, 49, 48, 48, 45, 99, 111, 110, 116, 105, 110, 117, 101]⟩, .string ⟨#[49, 48, 48]⟩, .string ⟨#[]⟩, .string ⟨#[50, 48, 48, 45, 111, 107]⟩] 9) = W3 at *
    obtain ⟨g1, g2, g3⟩ := HR.out
    go_upto_region 11 with (go_at_call 37; with_reducible refine (HPU.out _).mono ?_; rintro r w3 ⟨rfl, mk, hw⟩; rw [hw]; clear hw)
    clear g1 g2 g3
    have HZ4 := Lib.hid (HZ3.out.drew mk)
    have HB4 := Lib.hid (Base.below_drewN HB3.out mk)
    generalize W3.drewN mk = W4 at *
    have y0 := HZ4.out.c 0 _ rfl; have y1 := HZ4.out.c 1 _ rfl; have y2 := HZ4.out.c 2 _ rfl; have y3 := HZ4.out.c 3 _ rfl; have y4 := HZ4.out.c 4 _ rfl; have y5 := HZ4.out.c 5 _ rfl; have y6 := HZ4.out.c 6 _ rfl; have y7 := HZ4.out.c 7 _ rfl; have y8 := HZ4.out.c 8 _ rfl; have y9 := HZ4.out.c 9 _ rfl
    have HNW := Lib.hid (show Calls Tryz.prog 20 #[.int .u32 0, .agg #[.int .i64 1024, .int .i64 32, .int .i64 8192, .int .i64 65536, .int .i64 32, .int .i64 8, .int .i64 4, .int .i64 20, .bool true, .bool true]] W4 fun r w' => ∃ g L', r = .returned (ptr g) ∧ W4.heap.size ≤ g ∧ At w' W4.heap.size g 0 usual L' (Q.new 0 usual) ∧ Below W4.heap.size W4 w' from new_any (p := 0) (b := usual) (by decide) W4)
    go_upto_region 12 with
      (go_at_call 20; with_reducible refine HNW.out.mono ?_; rintro r w5 ⟨g, L5, rfl, -, hA, hb⟩
       have HA5 := Lib.hid hA; have HB5 := Lib.hid hb
       clear hA hb y0 y1 y2 y3 y4 y5 y6 y7 y8 y9)
    clear HNW
    go_upto_region 13 with fail
    have hS : (((((((⟨#[80, 79, 83, 84, 32, 47, 32]⟩ : ByteArray) ++ (⟨#[72, 84, 84, 80, 47, 49, 46, 49]⟩ : ByteArray)) ++ (⟨#[13, 10, 72, 111, 115, 116, 58, 32, 104, 13, 10, 69, 120, 112, 101, 99, 116, 58, 32]⟩ : ByteArray)) ++ V) ++ (⟨#[13, 10]⟩ : ByteArray)) ++ (⟨#[84, 114, 97, 110, 115, 102, 101, 114, 45, 69, 110, 99, 111, 100, 105, 110, 103, 58, 32, 99, 104, 117, 110, 107, 101, 100]⟩ : ByteArray)) ++ (⟨#[13, 10, 13]⟩ : ByteArray)).data.toList = waitL (waitVals[v]?.getD []) false (frameL r (true && !false)) := by
      simp only [ByteArray.data_append, Array.toList_append, HVL.out]
      rfl
    have hSz : (((((((⟨#[80, 79, 83, 84, 32, 47, 32]⟩ : ByteArray) ++ (⟨#[72, 84, 84, 80, 47, 49, 46, 49]⟩ : ByteArray)) ++ (⟨#[13, 10, 72, 111, 115, 116, 58, 32, 104, 13, 10, 69, 120, 112, 101, 99, 116, 58, 32]⟩ : ByteArray)) ++ V) ++ (⟨#[13, 10]⟩ : ByteArray)) ++ (⟨#[84, 114, 97, 110, 115, 102, 101, 114, 45, 69, 110, 99, 111, 100, 105, 110, 103, 58, 32, 99, 104, 117, 110, 107, 101, 100]⟩ : ByteArray)) ++ (⟨#[13, 10, 13]⟩ : ByteArray)).size ≤ 200 := by
      simp only [ByteArray.size_append, len_mk, List.length_cons, List.length_nil]
      have := HVS.out; omega
    have HS := Lib.hid hS
    generalize (((((((⟨#[80, 79, 83, 84, 32, 47, 32]⟩ : ByteArray) ++ (⟨#[72, 84, 84, 80, 47, 49, 46, 49]⟩ : ByteArray)) ++ (⟨#[13, 10, 72, 111, 115, 116, 58, 32, 104, 13, 10, 69, 120, 112, 101, 99, 116, 58, 32]⟩ : ByteArray)) ++ V) ++ (⟨#[13, 10]⟩ : ByteArray)) ++ (⟨#[84, 114, 97, 110, 115, 102, 101, 114, 45, 69, 110, 99, 111, 100, 105, 110, 103, 58, 32, 99, 104, 117, 110, 107, 101, 100]⟩ : ByteArray)) ++ (⟨#[13, 10, 13]⟩ : ByteArray)) = S at *
    clear hS
    obtain ⟨N, hN⟩ : ∃ N, S.size = N := ⟨_, rfl⟩
    rw [hN] at hSz
    obtain ⟨W6, cap, hcv, hby, hlt6, hb6⟩ := By.conv_bytes S w5
    have hbt := Bts.conv (L := L5) HA5.out.in S hby hlt6
    have hlen : S.data.toList.length = N := by rw [← hN]; exact len S
    rw [hN] at hcv
    have hin6 : In W6 L5 := HA5.out.in.mono (Nat.le_of_lt hlt6)
    have hP := Parts.one (c := cap) hbt hin6 22
    rw [hlen] at hP
    have hb7 : Below w5.heap.size w5 (W6.alloc (.cells #[.slice (some ⟨w5.heap.size, 0, none⟩) N cap] 22)) := hb6.alloc (Nat.le_of_lt hlt6) _
    have hf := feed_said (by decide) (HA5.out.below hb7) (Q.new_ok 0 usual) (by unfold Q.new; split <;> rfl) (some ⟨W6.heap.size, 0, none⟩) 1 [S.data.toList] hP (by show 1 ≤ 1000000; decide) (by
      rw [show ([S.data.toList] : List (List UInt8)).flatten = S.data.toList by simp, hlen]; omega)
    rw [show ([S.data.toList] : List (List UInt8)).flatten = S.data.toList by simp, show Q.feed 0 usual (Q.new 0 usual) S.data.toList = Q.read 0 usual S.data.toList from rfl, HS.out] at hf
    have k3 := waits_all ⟨v, hv6⟩ false ⟨r, hr4⟩ true
    obtain ⟨X, hX⟩ : ∃ X, Q.read 0 usual (waitL (waitVals[v]?.getD []) false (frameL r (true && !false))) = X := ⟨_, rfl⟩
    rw [show (Q.read 0 usualB (waitL (waitVals[((⟨v, hv6⟩ : Fin 6) : Nat)]?.getD []) false (frameL ((⟨r, hr4⟩ : Fin 4) : Nat) (true && !false)))) = X from hX] at k3
    rw [hX] at hf
    obtain ⟨Y, hY⟩ : ∃ Y, X.told.feed 0 usual [10] = Y := ⟨_, rfl⟩
    rw [show X.told.feed 0 usualB [10] = Y from hY] at k3
    obtain ⟨Z, hZ⟩ : ∃ Z, Y.told.feed 0 usual [49] = Z := ⟨_, rfl⟩
    rw [show Y.told.feed 0 usualB [49] = Z from hZ] at k3
    have HK := Lib.hid k3
    have HF := Lib.hid (show Calls Tryz.prog 22 #[ptr g, .slice (some ⟨W6.heap.size, 0, none⟩) 1 1] (W6.alloc (.cells #[.slice (some ⟨w5.heap.size, 0, none⟩) N cap] 22)) fun r w' => ∃ o L', r = .returned o ∧ At w' W4.heap.size g 0 usual L' X.told ∧ X.told.Ok usual ∧ X.told.out = [] ∧ Said w' o X.out ∧ Step L5 L' (W6.alloc (.cells #[.slice (some ⟨w5.heap.size, 0, none⟩) N cap] 22)) w' from hf)
    have HBA := Lib.hid (HB5.out.trans (hb7.mono HB5.out.size))
    have HLOW := Lib.hid HA5.out.low
    clear hby hlt6 hb6 hbt hin6 hP hlen hb7 hf HA5 HB5 HS hX k3
    go_upto_region 15 with (first
      | (go_at_call 26; with_reducible refine HW7.out.mono ?_; rintro r w8 ⟨rfl, hb⟩
         have HA8 := Lib.hid (HA7.out.below hb); have HB8 := Lib.hid (HB7.out.trans (hb.mono HB7.out.size))
         clear hb)
      | (go_at_call 22; with_reducible refine HF.out.mono ?_; rintro r w7 ⟨o7, L7, rfl, hA7, hok7, ho7, -, hS7⟩
         have hw := waits_any hA7 hok7
         rw [told_waits, HK.out.1] at hw
         have HW7 := Lib.hid hw
         have HA7 := Lib.hid hA7; have HO7 := Lib.hid hok7; have HE7 := Lib.hid ho7
         have HB7 := Lib.hid (HBA.out.trans (hS7.keeps.below HBA.out.size HLOW.out))
         clear hA7 hok7 ho7 hS7 hw))
    clear HF HBA HLOW HA7 HB7 HW7 hcv
    have hcv8 : (convert 22 22 (.slice (some ⟨w8.heap.size, 0, none⟩) 1 1)).run Tryz.prog (w8.alloc (.cells #[.int .u8 10] 5)) = .ok (.slice (some ⟨w8.heap.size, 0, none⟩) 1 1) (w8.alloc (.cells #[.int .u8 10] 5 (1, 2))) := Lib.run_convert_bytes_const w8 22 5 #[.int .u8 10] 1 1 Tryz.underlying22 Tryz.underlying5
    have hb8 : Below w8.heap.size w8 ((w8.alloc (.cells #[.int .u8 10] 5 (1, 2))).alloc (.cells #[.slice (some ⟨w8.heap.size, 0, none⟩) 1 1] 22)) := ((Below.refl _ _).alloc (Nat.le_refl _) _).alloc (by simp) _
    have hP8 := Parts.one (c := 1) (Bts.lit HA8.out.in [10] #[.int .u8 10] (by kernel_rfl) 5 (1, 2)) (in_alloc HA8.out.in _) 22
    rw [show (w8.alloc (.cells #[.int .u8 10] 5 (1, 2))).heap.size = w8.heap.size + 1 by simp] at hP8
    have hf8 := feed_said (by decide) (HA8.out.below hb8) HO7.out HE7.out (some ⟨w8.heap.size + 1, 0, none⟩) 1 [[10]] hP8 (by decide) (by decide)
    rw [show ([[10]] : List (List UInt8)).flatten = [10] from rfl, hY] at hf8
    have HF8 := Lib.hid (show Calls Tryz.prog 22 #[ptr g, .slice (some ⟨w8.heap.size + 1, 0, none⟩) 1 1] ((w8.alloc (.cells #[.int .u8 10] 5 (1, 2))).alloc (.cells #[.slice (some ⟨w8.heap.size, 0, none⟩) 1 1] 22)) fun r w' => ∃ o L', r = .returned o ∧ At w' W4.heap.size g 0 usual L' Y.told ∧ Y.told.Ok usual ∧ Y.told.out = [] ∧ Said w' o Y.out ∧ Step L7 L' ((w8.alloc (.cells #[.int .u8 10] 5 (1, 2))).alloc (.cells #[.slice (some ⟨w8.heap.size, 0, none⟩) 1 1] 22)) w' from hf8)
    have HBA8 := Lib.hid (HB8.out.trans (hb8.mono HB8.out.size)); have HLOW8 := Lib.hid HA8.out.low
    clear hb8 hP8 hf8 hY HA8 HB8 HO7 HE7
    go_upto_region 17 with (first
      | (go_at_call 26; with_reducible refine HW9.out.mono ?_; rintro r w10 ⟨rfl, hb⟩
         have HA10 := Lib.hid (HA9.out.below hb); have HB10 := Lib.hid (HB9.out.trans (hb.mono HB9.out.size))
         clear hb)
      | (go_at_call 22; with_reducible refine HF8.out.mono ?_; rintro r w9 ⟨o9, L9, rfl, hA9, hok9, ho9, -, hS9⟩
         have hw := waits_any hA9 hok9
         rw [told_waits, HK.out.2.1] at hw
         have HW9 := Lib.hid hw
         have HA9 := Lib.hid hA9; have HO9 := Lib.hid hok9; have HE9 := Lib.hid ho9
         have HB9 := Lib.hid (HBA8.out.trans (hS9.keeps.below HBA8.out.size HLOW8.out))
         clear hA9 hok9 ho9 hS9 hw))
    clear HF8 HBA8 HLOW8 HA9 HB9 HW9 hcv8
    have hcv10 : (convert 22 22 (.slice (some ⟨w10.heap.size, 0, none⟩) 1 1)).run Tryz.prog (w10.alloc (.cells #[.int .u8 49] 5)) = .ok (.slice (some ⟨w10.heap.size, 0, none⟩) 1 1) (w10.alloc (.cells #[.int .u8 49] 5 (1, 2))) := Lib.run_convert_bytes_const w10 22 5 #[.int .u8 49] 1 1 Tryz.underlying22 Tryz.underlying5
    have hb10 : Below w10.heap.size w10 ((w10.alloc (.cells #[.int .u8 49] 5 (1, 2))).alloc (.cells #[.slice (some ⟨w10.heap.size, 0, none⟩) 1 1] 22)) := ((Below.refl _ _).alloc (Nat.le_refl _) _).alloc (by simp) _
    have hP10 := Parts.one (c := 1) (Bts.lit HA10.out.in [49] #[.int .u8 49] (by kernel_rfl) 5 (1, 2)) (in_alloc HA10.out.in _) 22
    rw [show (w10.alloc (.cells #[.int .u8 49] 5 (1, 2))).heap.size = w10.heap.size + 1 by simp] at hP10
    have hf10 := feed_said (by decide) (HA10.out.below hb10) HO9.out HE9.out (some ⟨w10.heap.size + 1, 0, none⟩) 1 [[49]] hP10 (by decide) (by decide)
    rw [show ([[49]] : List (List UInt8)).flatten = [49] from rfl, hZ] at hf10
    have HF10 := Lib.hid (show Calls Tryz.prog 22 #[ptr g, .slice (some ⟨w10.heap.size + 1, 0, none⟩) 1 1] ((w10.alloc (.cells #[.int .u8 49] 5 (1, 2))).alloc (.cells #[.slice (some ⟨w10.heap.size, 0, none⟩) 1 1] 22)) fun r w' => ∃ o L', r = .returned o ∧ At w' W4.heap.size g 0 usual L' Z.told ∧ Z.told.Ok usual ∧ Z.told.out = [] ∧ Said w' o Z.out ∧ Step L9 L' ((w10.alloc (.cells #[.int .u8 49] 5 (1, 2))).alloc (.cells #[.slice (some ⟨w10.heap.size, 0, none⟩) 1 1] 22)) w' from hf10)
    have HBA10 := Lib.hid (HB10.out.trans (hb10.mono HB10.out.size)); have HLOW10 := Lib.hid HA10.out.low
    clear hb10 hP10 hf10 hZ HA10 HB10 HO9 HE9
    go_upto_region 18 with
      (go_at_call 22; with_reducible refine HF10.out.mono ?_; rintro r w11 ⟨o11, L11, rfl, hA11, hok11, ho11, -, hS11⟩
       have hw := waits_any hA11 hok11
       rw [told_waits, HK.out.2.2.1] at hw
       have her := fun (w' : World) (hb : Below w11.heap.size w11 w') => errq_any (hA11.below hb)
       rw [told_err, HK.out.2.2.2] at her
       have HW11 := Lib.hid hw
       have HER := Lib.hid (show ∀ (w' : World), Below w11.heap.size w11 w' → Calls Tryz.prog 25 #[ptr g] w' fun r w2 => r = .returned (.int .i64 0) ∧ w2 = w' from her)
       have HB11 := Lib.hid (HBA10.out.trans (hS11.keeps.below HBA10.out.size HLOW10.out))
       clear hA11 hok11 ho11 hS11 hw her)
    clear HF10 HBA10 HLOW10 hcv10
    rcases Nat.lt_or_ge v 3 with hv3 | hv3 <;> rcases Nat.eq_zero_or_pos r with hr0 | hr0
    all_goals
      try have t1 : (v : Int) < 3 := by omega
      try have t1 : ¬ (v : Int) < 3 := by omega
      try have t2 : ¬ (0 : Int) < (r : Int) := by omega
      try have t2 : (0 : Int) < (r : Int) := by omega
      try have t3 : decide (v < 3) = true := decide_eq_true (by omega)
      try have t3 : decide (v < 3) = false := decide_eq_false (by omega)
      try have t4 : decide (0 < r) = true := decide_eq_true (by omega)
      try have t4 : decide (0 < r) = false := decide_eq_false (by omega)
      clear hv3 hr0
      obtain ⟨g1, g2, g3⟩ := HR.out
      have g0 := HVM.out
      go_wp2_with (first
        | (go_at_call 25; with_reducible refine (HER.out _ HB12.out).mono ?_; rintro r w13 ⟨rfl, hw⟩; rw [hw]; clear hw)
        | (go_at_call 26; with_reducible refine HW11.out.mono ?_; rintro r w12 ⟨rfl, hb⟩; have HB12 := Lib.hid hb; clear hb))
      go_ret
      exact ⟨rfl, HB4.out.trans ((HB11.out.trans (HB12.out.mono HB11.out.size)).mono HB4.out.size)⟩
  · go_enter Tryz.func11, Tryz.ntmps11
    go_upto_region 4 with (first
      | (go_at_call 34; with_reducible refine (Bnd.rusual_any _).mono ?_; rintro r w2 ⟨rfl, hb⟩
         have HB2 := Lib.hid (Base.below_step HB1.out hb)
         clear hb)
      | (go_at_call 15; with_reducible refine (known_any _).mono ?_; rintro r w1 ⟨rfl, hb⟩
         have HB1 := Lib.hid hb
         clear hb))
    have HZ2 := Lib.hid (Rec.Bk.new w2 w2.heap.size rfl 29 [.int .i64 1024, .int .i64 32, .int .i64 8192, .int .i64 65536, .int .i64 32, .int .i64 8, .int .i64 4, .int .i64 20, .bool true, .bool true])
    have HBW := Lib.hid (HB2.out.alloc HB2.out.size (.cells #[.int .i64 1024, .int .i64 32, .int .i64 8192, .int .i64 65536, .int .i64 32, .int .i64 8, .int .i64 4, .int .i64 20, .bool true, .bool true] 29))
    generalize w2.alloc (.cells #[.int .i64 1024, .int .i64 32, .int .i64 8192, .int .i64 65536, .int .i64 32, .int .i64 8, .int .i64 4, .int .i64 20, .bool true, .bool true] 29) = W2 at *
    generalize w2.heap.size = gB at *
    have hcell := HV.out.1 W2; have hval := HV.out.2; have g0 := HVM.out
    go_upto_region 5 with fail
    clear g0
    have HZ3 := Lib.hid (HZ2.out.alloc (.cells #[.string ⟨#[49, 48, 48, 45, 99, 111, 110, 116, 105, 110, 117, 101]⟩, .string ⟨#[49, 48, 48, 45, 67, 111, 110, 116, 105, 110, 117, 101]⟩, .string ⟨#[120, 44, 32, 49, 48, 48, 45, 99, 111, 110, 116, 105, 110, 117, 101]⟩, .string ⟨#[49, 48, 48]⟩, .string ⟨#[]⟩, .string ⟨#[50, 48, 48, 45, 111, 107]⟩] 9))
    have HB3 := Lib.hid (HBW.out.alloc HBW.out.size (.cells #[.string ⟨#[49, 48, 48, 45, 99, 111, 110, 116, 105, 110, 117, 101]⟩, .string ⟨#[49, 48, 48, 45, 67, 111, 110, 116, 105, 110, 117, 101]⟩, .string ⟨#[120, 44, 32, 49, 48, 48, 45, 99, 111, 110, 116, 105, 110, 117, 101]⟩, .string ⟨#[49, 48, 48]⟩, .string ⟨#[]⟩, .string ⟨#[50, 48, 48, 45, 111, 107]⟩] 9))
    clear hcell hval HV
    generalize W2.alloc (.cells #[.string ⟨#[49, 48, 48, 45, 99, 111, 110, 116, 105, 110, 117, 101]⟩, .string ⟨#[49, 48, 48, 45, 67, 111, 110, 116, 105, 110, 117, 101]⟩, .string ⟨#[120, 44, 32, 49, 48, 48, 45, 99, 111, 110, 116, 105, 110, 117, 101]⟩, .string ⟨#[49, 48, 48]⟩, .string ⟨#[]⟩, .string ⟨#[50, 48, 48, 45, 111, 107]⟩] 9) = W3 at *
    obtain ⟨g1, g2, g3⟩ := HR.out
    go_upto_region 11 with (go_at_call 37; with_reducible refine (HPU.out _).mono ?_; rintro r w3 ⟨rfl, mk, hw⟩; rw [hw]; clear hw)
    clear g1 g2 g3
    have HZ4 := Lib.hid (HZ3.out.drew mk)
    have HB4 := Lib.hid (Base.below_drewN HB3.out mk)
    generalize W3.drewN mk = W4 at *
    have y0 := HZ4.out.c 0 _ rfl; have y1 := HZ4.out.c 1 _ rfl; have y2 := HZ4.out.c 2 _ rfl; have y3 := HZ4.out.c 3 _ rfl; have y4 := HZ4.out.c 4 _ rfl; have y5 := HZ4.out.c 5 _ rfl; have y6 := HZ4.out.c 6 _ rfl; have y7 := HZ4.out.c 7 _ rfl; have y8 := HZ4.out.c 8 _ rfl; have y9 := HZ4.out.c 9 _ rfl
    have HNW := Lib.hid (show Calls Tryz.prog 20 #[.int .u32 0, .agg #[.int .i64 1024, .int .i64 32, .int .i64 8192, .int .i64 65536, .int .i64 32, .int .i64 8, .int .i64 4, .int .i64 20, .bool true, .bool true]] W4 fun r w' => ∃ g L', r = .returned (ptr g) ∧ W4.heap.size ≤ g ∧ At w' W4.heap.size g 0 usual L' (Q.new 0 usual) ∧ Below W4.heap.size W4 w' from new_any (p := 0) (b := usual) (by decide) W4)
    go_upto_region 12 with
      (go_at_call 20; with_reducible refine HNW.out.mono ?_; rintro r w5 ⟨g, L5, rfl, -, hA, hb⟩
       have HA5 := Lib.hid hA; have HB5 := Lib.hid hb
       clear hA hb y0 y1 y2 y3 y4 y5 y6 y7 y8 y9)
    clear HNW
    go_upto_region 13 with fail
    have hS : (((((((⟨#[80, 79, 83, 84, 32, 47, 32]⟩ : ByteArray) ++ (⟨#[72, 84, 84, 80, 47, 49, 46, 48]⟩ : ByteArray)) ++ (⟨#[13, 10, 72, 111, 115, 116, 58, 32, 104, 13, 10, 69, 120, 112, 101, 99, 116, 58, 32]⟩ : ByteArray)) ++ V) ++ (⟨#[13, 10]⟩ : ByteArray)) ++ ((⟨#[67, 111, 110, 116, 101, 110, 116, 45, 76, 101, 110, 103, 116, 104, 58, 32]⟩ : ByteArray) ++ P)) ++ (⟨#[13, 10, 13]⟩ : ByteArray)).data.toList = waitL (waitVals[v]?.getD []) true (frameL r (false && !true)) := by
      simp only [ByteArray.data_append, Array.toList_append, HVL.out, HPL.out]
      rfl
    have hSz : (((((((⟨#[80, 79, 83, 84, 32, 47, 32]⟩ : ByteArray) ++ (⟨#[72, 84, 84, 80, 47, 49, 46, 48]⟩ : ByteArray)) ++ (⟨#[13, 10, 72, 111, 115, 116, 58, 32, 104, 13, 10, 69, 120, 112, 101, 99, 116, 58, 32]⟩ : ByteArray)) ++ V) ++ (⟨#[13, 10]⟩ : ByteArray)) ++ ((⟨#[67, 111, 110, 116, 101, 110, 116, 45, 76, 101, 110, 103, 116, 104, 58, 32]⟩ : ByteArray) ++ P)) ++ (⟨#[13, 10, 13]⟩ : ByteArray)).size ≤ 200 := by
      simp only [ByteArray.size_append, HPS.out, len_mk, List.length_cons, List.length_nil]
      have := HVS.out; omega
    have HS := Lib.hid hS
    generalize (((((((⟨#[80, 79, 83, 84, 32, 47, 32]⟩ : ByteArray) ++ (⟨#[72, 84, 84, 80, 47, 49, 46, 48]⟩ : ByteArray)) ++ (⟨#[13, 10, 72, 111, 115, 116, 58, 32, 104, 13, 10, 69, 120, 112, 101, 99, 116, 58, 32]⟩ : ByteArray)) ++ V) ++ (⟨#[13, 10]⟩ : ByteArray)) ++ ((⟨#[67, 111, 110, 116, 101, 110, 116, 45, 76, 101, 110, 103, 116, 104, 58, 32]⟩ : ByteArray) ++ P)) ++ (⟨#[13, 10, 13]⟩ : ByteArray)) = S at *
    clear hS
    obtain ⟨N, hN⟩ : ∃ N, S.size = N := ⟨_, rfl⟩
    rw [hN] at hSz
    obtain ⟨W6, cap, hcv, hby, hlt6, hb6⟩ := By.conv_bytes S w5
    have hbt := Bts.conv (L := L5) HA5.out.in S hby hlt6
    have hlen : S.data.toList.length = N := by rw [← hN]; exact len S
    rw [hN] at hcv
    have hin6 : In W6 L5 := HA5.out.in.mono (Nat.le_of_lt hlt6)
    have hP := Parts.one (c := cap) hbt hin6 22
    rw [hlen] at hP
    have hb7 : Below w5.heap.size w5 (W6.alloc (.cells #[.slice (some ⟨w5.heap.size, 0, none⟩) N cap] 22)) := hb6.alloc (Nat.le_of_lt hlt6) _
    have hf := feed_said (by decide) (HA5.out.below hb7) (Q.new_ok 0 usual) (by unfold Q.new; split <;> rfl) (some ⟨W6.heap.size, 0, none⟩) 1 [S.data.toList] hP (by show 1 ≤ 1000000; decide) (by
      rw [show ([S.data.toList] : List (List UInt8)).flatten = S.data.toList by simp, hlen]; omega)
    rw [show ([S.data.toList] : List (List UInt8)).flatten = S.data.toList by simp, show Q.feed 0 usual (Q.new 0 usual) S.data.toList = Q.read 0 usual S.data.toList from rfl, HS.out] at hf
    have k3 := waits_all ⟨v, hv6⟩ true ⟨r, hr4⟩ false
    obtain ⟨X, hX⟩ : ∃ X, Q.read 0 usual (waitL (waitVals[v]?.getD []) true (frameL r (false && !true))) = X := ⟨_, rfl⟩
    rw [show (Q.read 0 usualB (waitL (waitVals[((⟨v, hv6⟩ : Fin 6) : Nat)]?.getD []) true (frameL ((⟨r, hr4⟩ : Fin 4) : Nat) (false && !true)))) = X from hX] at k3
    rw [hX] at hf
    obtain ⟨Y, hY⟩ : ∃ Y, X.told.feed 0 usual [10] = Y := ⟨_, rfl⟩
    rw [show X.told.feed 0 usualB [10] = Y from hY] at k3
    obtain ⟨Z, hZ⟩ : ∃ Z, Y.told.feed 0 usual [49] = Z := ⟨_, rfl⟩
    rw [show Y.told.feed 0 usualB [49] = Z from hZ] at k3
    have HK := Lib.hid k3
    have HF := Lib.hid (show Calls Tryz.prog 22 #[ptr g, .slice (some ⟨W6.heap.size, 0, none⟩) 1 1] (W6.alloc (.cells #[.slice (some ⟨w5.heap.size, 0, none⟩) N cap] 22)) fun r w' => ∃ o L', r = .returned o ∧ At w' W4.heap.size g 0 usual L' X.told ∧ X.told.Ok usual ∧ X.told.out = [] ∧ Said w' o X.out ∧ Step L5 L' (W6.alloc (.cells #[.slice (some ⟨w5.heap.size, 0, none⟩) N cap] 22)) w' from hf)
    have HBA := Lib.hid (HB5.out.trans (hb7.mono HB5.out.size))
    have HLOW := Lib.hid HA5.out.low
    clear hby hlt6 hb6 hbt hin6 hP hlen hb7 hf HA5 HB5 HS hX k3
    go_upto_region 15 with (first
      | (go_at_call 26; with_reducible refine HW7.out.mono ?_; rintro r w8 ⟨rfl, hb⟩
         have HA8 := Lib.hid (HA7.out.below hb); have HB8 := Lib.hid (HB7.out.trans (hb.mono HB7.out.size))
         clear hb)
      | (go_at_call 22; with_reducible refine HF.out.mono ?_; rintro r w7 ⟨o7, L7, rfl, hA7, hok7, ho7, -, hS7⟩
         have hw := waits_any hA7 hok7
         rw [told_waits, HK.out.1] at hw
         have HW7 := Lib.hid hw
         have HA7 := Lib.hid hA7; have HO7 := Lib.hid hok7; have HE7 := Lib.hid ho7
         have HB7 := Lib.hid (HBA.out.trans (hS7.keeps.below HBA.out.size HLOW.out))
         clear hA7 hok7 ho7 hS7 hw))
    clear HF HBA HLOW HA7 HB7 HW7 hcv
    have hcv8 : (convert 22 22 (.slice (some ⟨w8.heap.size, 0, none⟩) 1 1)).run Tryz.prog (w8.alloc (.cells #[.int .u8 10] 5)) = .ok (.slice (some ⟨w8.heap.size, 0, none⟩) 1 1) (w8.alloc (.cells #[.int .u8 10] 5 (1, 2))) := Lib.run_convert_bytes_const w8 22 5 #[.int .u8 10] 1 1 Tryz.underlying22 Tryz.underlying5
    have hb8 : Below w8.heap.size w8 ((w8.alloc (.cells #[.int .u8 10] 5 (1, 2))).alloc (.cells #[.slice (some ⟨w8.heap.size, 0, none⟩) 1 1] 22)) := ((Below.refl _ _).alloc (Nat.le_refl _) _).alloc (by simp) _
    have hP8 := Parts.one (c := 1) (Bts.lit HA8.out.in [10] #[.int .u8 10] (by kernel_rfl) 5 (1, 2)) (in_alloc HA8.out.in _) 22
    rw [show (w8.alloc (.cells #[.int .u8 10] 5 (1, 2))).heap.size = w8.heap.size + 1 by simp] at hP8
    have hf8 := feed_said (by decide) (HA8.out.below hb8) HO7.out HE7.out (some ⟨w8.heap.size + 1, 0, none⟩) 1 [[10]] hP8 (by decide) (by decide)
    rw [show ([[10]] : List (List UInt8)).flatten = [10] from rfl, hY] at hf8
    have HF8 := Lib.hid (show Calls Tryz.prog 22 #[ptr g, .slice (some ⟨w8.heap.size + 1, 0, none⟩) 1 1] ((w8.alloc (.cells #[.int .u8 10] 5 (1, 2))).alloc (.cells #[.slice (some ⟨w8.heap.size, 0, none⟩) 1 1] 22)) fun r w' => ∃ o L', r = .returned o ∧ At w' W4.heap.size g 0 usual L' Y.told ∧ Y.told.Ok usual ∧ Y.told.out = [] ∧ Said w' o Y.out ∧ Step L7 L' ((w8.alloc (.cells #[.int .u8 10] 5 (1, 2))).alloc (.cells #[.slice (some ⟨w8.heap.size, 0, none⟩) 1 1] 22)) w' from hf8)
    have HBA8 := Lib.hid (HB8.out.trans (hb8.mono HB8.out.size)); have HLOW8 := Lib.hid HA8.out.low
    clear hb8 hP8 hf8 hY HA8 HB8 HO7 HE7
    go_upto_region 17 with (first
      | (go_at_call 26; with_reducible refine HW9.out.mono ?_; rintro r w10 ⟨rfl, hb⟩
         have HA10 := Lib.hid (HA9.out.below hb); have HB10 := Lib.hid (HB9.out.trans (hb.mono HB9.out.size))
         clear hb)
      | (go_at_call 22; with_reducible refine HF8.out.mono ?_; rintro r w9 ⟨o9, L9, rfl, hA9, hok9, ho9, -, hS9⟩
         have hw := waits_any hA9 hok9
         rw [told_waits, HK.out.2.1] at hw
         have HW9 := Lib.hid hw
         have HA9 := Lib.hid hA9; have HO9 := Lib.hid hok9; have HE9 := Lib.hid ho9
         have HB9 := Lib.hid (HBA8.out.trans (hS9.keeps.below HBA8.out.size HLOW8.out))
         clear hA9 hok9 ho9 hS9 hw))
    clear HF8 HBA8 HLOW8 HA9 HB9 HW9 hcv8
    have hcv10 : (convert 22 22 (.slice (some ⟨w10.heap.size, 0, none⟩) 1 1)).run Tryz.prog (w10.alloc (.cells #[.int .u8 49] 5)) = .ok (.slice (some ⟨w10.heap.size, 0, none⟩) 1 1) (w10.alloc (.cells #[.int .u8 49] 5 (1, 2))) := Lib.run_convert_bytes_const w10 22 5 #[.int .u8 49] 1 1 Tryz.underlying22 Tryz.underlying5
    have hb10 : Below w10.heap.size w10 ((w10.alloc (.cells #[.int .u8 49] 5 (1, 2))).alloc (.cells #[.slice (some ⟨w10.heap.size, 0, none⟩) 1 1] 22)) := ((Below.refl _ _).alloc (Nat.le_refl _) _).alloc (by simp) _
    have hP10 := Parts.one (c := 1) (Bts.lit HA10.out.in [49] #[.int .u8 49] (by kernel_rfl) 5 (1, 2)) (in_alloc HA10.out.in _) 22
    rw [show (w10.alloc (.cells #[.int .u8 49] 5 (1, 2))).heap.size = w10.heap.size + 1 by simp] at hP10
    have hf10 := feed_said (by decide) (HA10.out.below hb10) HO9.out HE9.out (some ⟨w10.heap.size + 1, 0, none⟩) 1 [[49]] hP10 (by decide) (by decide)
    rw [show ([[49]] : List (List UInt8)).flatten = [49] from rfl, hZ] at hf10
    have HF10 := Lib.hid (show Calls Tryz.prog 22 #[ptr g, .slice (some ⟨w10.heap.size + 1, 0, none⟩) 1 1] ((w10.alloc (.cells #[.int .u8 49] 5 (1, 2))).alloc (.cells #[.slice (some ⟨w10.heap.size, 0, none⟩) 1 1] 22)) fun r w' => ∃ o L', r = .returned o ∧ At w' W4.heap.size g 0 usual L' Z.told ∧ Z.told.Ok usual ∧ Z.told.out = [] ∧ Said w' o Z.out ∧ Step L9 L' ((w10.alloc (.cells #[.int .u8 49] 5 (1, 2))).alloc (.cells #[.slice (some ⟨w10.heap.size, 0, none⟩) 1 1] 22)) w' from hf10)
    have HBA10 := Lib.hid (HB10.out.trans (hb10.mono HB10.out.size)); have HLOW10 := Lib.hid HA10.out.low
    clear hb10 hP10 hf10 hZ HA10 HB10 HO9 HE9
    go_upto_region 18 with
      (go_at_call 22; with_reducible refine HF10.out.mono ?_; rintro r w11 ⟨o11, L11, rfl, hA11, hok11, ho11, -, hS11⟩
       have hw := waits_any hA11 hok11
       rw [told_waits, HK.out.2.2.1] at hw
       have her := fun (w' : World) (hb : Below w11.heap.size w11 w') => errq_any (hA11.below hb)
       rw [told_err, HK.out.2.2.2] at her
       have HW11 := Lib.hid hw
       have HER := Lib.hid (show ∀ (w' : World), Below w11.heap.size w11 w' → Calls Tryz.prog 25 #[ptr g] w' fun r w2 => r = .returned (.int .i64 0) ∧ w2 = w' from her)
       have HB11 := Lib.hid (HBA10.out.trans (hS11.keeps.below HBA10.out.size HLOW10.out))
       clear hA11 hok11 ho11 hS11 hw her)
    clear HF10 HBA10 HLOW10 hcv10
    rcases Nat.lt_or_ge v 3 with hv3 | hv3 <;> rcases Nat.eq_zero_or_pos r with hr0 | hr0
    all_goals
      try have t1 : (v : Int) < 3 := by omega
      try have t1 : ¬ (v : Int) < 3 := by omega
      try have t2 : ¬ (0 : Int) < (r : Int) := by omega
      try have t2 : (0 : Int) < (r : Int) := by omega
      try have t3 : decide (v < 3) = true := decide_eq_true (by omega)
      try have t3 : decide (v < 3) = false := decide_eq_false (by omega)
      try have t4 : decide (0 < r) = true := decide_eq_true (by omega)
      try have t4 : decide (0 < r) = false := decide_eq_false (by omega)
      clear hv3 hr0
      obtain ⟨g1, g2, g3⟩ := HR.out
      have g0 := HVM.out
      go_wp2_with (first
        | (go_at_call 25; with_reducible refine (HER.out _ HB12.out).mono ?_; rintro r w13 ⟨rfl, hw⟩; rw [hw]; clear hw)
        | (go_at_call 26; with_reducible refine HW11.out.mono ?_; rintro r w12 ⟨rfl, hb⟩; have HB12 := Lib.hid hb; clear hb))
      go_ret
      exact ⟨rfl, HB4.out.trans ((HB11.out.trans (HB12.out.mono HB11.out.size)).mono HB4.out.size)⟩
  · go_enter Tryz.func11, Tryz.ntmps11
    go_upto_region 4 with (first
      | (go_at_call 34; with_reducible refine (Bnd.rusual_any _).mono ?_; rintro r w2 ⟨rfl, hb⟩
         have HB2 := Lib.hid (Base.below_step HB1.out hb)
         clear hb)
      | (go_at_call 15; with_reducible refine (known_any _).mono ?_; rintro r w1 ⟨rfl, hb⟩
         have HB1 := Lib.hid hb
         clear hb))
    have HZ2 := Lib.hid (Rec.Bk.new w2 w2.heap.size rfl 29 [.int .i64 1024, .int .i64 32, .int .i64 8192, .int .i64 65536, .int .i64 32, .int .i64 8, .int .i64 4, .int .i64 20, .bool true, .bool true])
    have HBW := Lib.hid (HB2.out.alloc HB2.out.size (.cells #[.int .i64 1024, .int .i64 32, .int .i64 8192, .int .i64 65536, .int .i64 32, .int .i64 8, .int .i64 4, .int .i64 20, .bool true, .bool true] 29))
    generalize w2.alloc (.cells #[.int .i64 1024, .int .i64 32, .int .i64 8192, .int .i64 65536, .int .i64 32, .int .i64 8, .int .i64 4, .int .i64 20, .bool true, .bool true] 29) = W2 at *
    generalize w2.heap.size = gB at *
    have hcell := HV.out.1 W2; have hval := HV.out.2; have g0 := HVM.out
    go_upto_region 5 with fail
    clear g0
    have HZ3 := Lib.hid (HZ2.out.alloc (.cells #[.string ⟨#[49, 48, 48, 45, 99, 111, 110, 116, 105, 110, 117, 101]⟩, .string ⟨#[49, 48, 48, 45, 67, 111, 110, 116, 105, 110, 117, 101]⟩, .string ⟨#[120, 44, 32, 49, 48, 48, 45, 99, 111, 110, 116, 105, 110, 117, 101]⟩, .string ⟨#[49, 48, 48]⟩, .string ⟨#[]⟩, .string ⟨#[50, 48, 48, 45, 111, 107]⟩] 9))
    have HB3 := Lib.hid (HBW.out.alloc HBW.out.size (.cells #[.string ⟨#[49, 48, 48, 45, 99, 111, 110, 116, 105, 110, 117, 101]⟩, .string ⟨#[49, 48, 48, 45, 67, 111, 110, 116, 105, 110, 117, 101]⟩, .string ⟨#[120, 44, 32, 49, 48, 48, 45, 99, 111, 110, 116, 105, 110, 117, 101]⟩, .string ⟨#[49, 48, 48]⟩, .string ⟨#[]⟩, .string ⟨#[50, 48, 48, 45, 111, 107]⟩] 9))
    clear hcell hval HV
    generalize W2.alloc (.cells #[.string ⟨#[49, 48, 48, 45, 99, 111, 110, 116, 105, 110, 117, 101]⟩, .string ⟨#[49, 48, 48, 45, 67, 111, 110, 116, 105, 110, 117, 101]⟩, .string ⟨#[120, 44, 32, 49, 48, 48, 45, 99, 111, 110, 116, 105, 110, 117, 101]⟩, .string ⟨#[49, 48, 48]⟩, .string ⟨#[]⟩, .string ⟨#[50, 48, 48, 45, 111, 107]⟩] 9) = W3 at *
    obtain ⟨g1, g2, g3⟩ := HR.out
    go_upto_region 11 with (go_at_call 37; with_reducible refine (HPU.out _).mono ?_; rintro r w3 ⟨rfl, mk, hw⟩; rw [hw]; clear hw)
    clear g1 g2 g3
    have HZ4 := Lib.hid (HZ3.out.drew mk)
    have HB4 := Lib.hid (Base.below_drewN HB3.out mk)
    generalize W3.drewN mk = W4 at *
    have y0 := HZ4.out.c 0 _ rfl; have y1 := HZ4.out.c 1 _ rfl; have y2 := HZ4.out.c 2 _ rfl; have y3 := HZ4.out.c 3 _ rfl; have y4 := HZ4.out.c 4 _ rfl; have y5 := HZ4.out.c 5 _ rfl; have y6 := HZ4.out.c 6 _ rfl; have y7 := HZ4.out.c 7 _ rfl; have y8 := HZ4.out.c 8 _ rfl; have y9 := HZ4.out.c 9 _ rfl
    have HNW := Lib.hid (show Calls Tryz.prog 20 #[.int .u32 0, .agg #[.int .i64 1024, .int .i64 32, .int .i64 8192, .int .i64 65536, .int .i64 32, .int .i64 8, .int .i64 4, .int .i64 20, .bool true, .bool true]] W4 fun r w' => ∃ g L', r = .returned (ptr g) ∧ W4.heap.size ≤ g ∧ At w' W4.heap.size g 0 usual L' (Q.new 0 usual) ∧ Below W4.heap.size W4 w' from new_any (p := 0) (b := usual) (by decide) W4)
    go_upto_region 12 with
      (go_at_call 20; with_reducible refine HNW.out.mono ?_; rintro r w5 ⟨g, L5, rfl, -, hA, hb⟩
       have HA5 := Lib.hid hA; have HB5 := Lib.hid hb
       clear hA hb y0 y1 y2 y3 y4 y5 y6 y7 y8 y9)
    clear HNW
    go_upto_region 13 with fail
    have hS : (((((((⟨#[80, 79, 83, 84, 32, 47, 32]⟩ : ByteArray) ++ (⟨#[72, 84, 84, 80, 47, 49, 46, 48]⟩ : ByteArray)) ++ (⟨#[13, 10, 72, 111, 115, 116, 58, 32, 104, 13, 10, 69, 120, 112, 101, 99, 116, 58, 32]⟩ : ByteArray)) ++ V) ++ (⟨#[13, 10]⟩ : ByteArray)) ++ ((⟨#[67, 111, 110, 116, 101, 110, 116, 45, 76, 101, 110, 103, 116, 104, 58, 32]⟩ : ByteArray) ++ P)) ++ (⟨#[13, 10, 13]⟩ : ByteArray)).data.toList = waitL (waitVals[v]?.getD []) true (frameL r (true && !true)) := by
      simp only [ByteArray.data_append, Array.toList_append, HVL.out, HPL.out]
      rfl
    have hSz : (((((((⟨#[80, 79, 83, 84, 32, 47, 32]⟩ : ByteArray) ++ (⟨#[72, 84, 84, 80, 47, 49, 46, 48]⟩ : ByteArray)) ++ (⟨#[13, 10, 72, 111, 115, 116, 58, 32, 104, 13, 10, 69, 120, 112, 101, 99, 116, 58, 32]⟩ : ByteArray)) ++ V) ++ (⟨#[13, 10]⟩ : ByteArray)) ++ ((⟨#[67, 111, 110, 116, 101, 110, 116, 45, 76, 101, 110, 103, 116, 104, 58, 32]⟩ : ByteArray) ++ P)) ++ (⟨#[13, 10, 13]⟩ : ByteArray)).size ≤ 200 := by
      simp only [ByteArray.size_append, HPS.out, len_mk, List.length_cons, List.length_nil]
      have := HVS.out; omega
    have HS := Lib.hid hS
    generalize (((((((⟨#[80, 79, 83, 84, 32, 47, 32]⟩ : ByteArray) ++ (⟨#[72, 84, 84, 80, 47, 49, 46, 48]⟩ : ByteArray)) ++ (⟨#[13, 10, 72, 111, 115, 116, 58, 32, 104, 13, 10, 69, 120, 112, 101, 99, 116, 58, 32]⟩ : ByteArray)) ++ V) ++ (⟨#[13, 10]⟩ : ByteArray)) ++ ((⟨#[67, 111, 110, 116, 101, 110, 116, 45, 76, 101, 110, 103, 116, 104, 58, 32]⟩ : ByteArray) ++ P)) ++ (⟨#[13, 10, 13]⟩ : ByteArray)) = S at *
    clear hS
    obtain ⟨N, hN⟩ : ∃ N, S.size = N := ⟨_, rfl⟩
    rw [hN] at hSz
    obtain ⟨W6, cap, hcv, hby, hlt6, hb6⟩ := By.conv_bytes S w5
    have hbt := Bts.conv (L := L5) HA5.out.in S hby hlt6
    have hlen : S.data.toList.length = N := by rw [← hN]; exact len S
    rw [hN] at hcv
    have hin6 : In W6 L5 := HA5.out.in.mono (Nat.le_of_lt hlt6)
    have hP := Parts.one (c := cap) hbt hin6 22
    rw [hlen] at hP
    have hb7 : Below w5.heap.size w5 (W6.alloc (.cells #[.slice (some ⟨w5.heap.size, 0, none⟩) N cap] 22)) := hb6.alloc (Nat.le_of_lt hlt6) _
    have hf := feed_said (by decide) (HA5.out.below hb7) (Q.new_ok 0 usual) (by unfold Q.new; split <;> rfl) (some ⟨W6.heap.size, 0, none⟩) 1 [S.data.toList] hP (by show 1 ≤ 1000000; decide) (by
      rw [show ([S.data.toList] : List (List UInt8)).flatten = S.data.toList by simp, hlen]; omega)
    rw [show ([S.data.toList] : List (List UInt8)).flatten = S.data.toList by simp, show Q.feed 0 usual (Q.new 0 usual) S.data.toList = Q.read 0 usual S.data.toList from rfl, HS.out] at hf
    have k3 := waits_all ⟨v, hv6⟩ true ⟨r, hr4⟩ true
    obtain ⟨X, hX⟩ : ∃ X, Q.read 0 usual (waitL (waitVals[v]?.getD []) true (frameL r (true && !true))) = X := ⟨_, rfl⟩
    rw [show (Q.read 0 usualB (waitL (waitVals[((⟨v, hv6⟩ : Fin 6) : Nat)]?.getD []) true (frameL ((⟨r, hr4⟩ : Fin 4) : Nat) (true && !true)))) = X from hX] at k3
    rw [hX] at hf
    obtain ⟨Y, hY⟩ : ∃ Y, X.told.feed 0 usual [10] = Y := ⟨_, rfl⟩
    rw [show X.told.feed 0 usualB [10] = Y from hY] at k3
    obtain ⟨Z, hZ⟩ : ∃ Z, Y.told.feed 0 usual [49] = Z := ⟨_, rfl⟩
    rw [show Y.told.feed 0 usualB [49] = Z from hZ] at k3
    have HK := Lib.hid k3
    have HF := Lib.hid (show Calls Tryz.prog 22 #[ptr g, .slice (some ⟨W6.heap.size, 0, none⟩) 1 1] (W6.alloc (.cells #[.slice (some ⟨w5.heap.size, 0, none⟩) N cap] 22)) fun r w' => ∃ o L', r = .returned o ∧ At w' W4.heap.size g 0 usual L' X.told ∧ X.told.Ok usual ∧ X.told.out = [] ∧ Said w' o X.out ∧ Step L5 L' (W6.alloc (.cells #[.slice (some ⟨w5.heap.size, 0, none⟩) N cap] 22)) w' from hf)
    have HBA := Lib.hid (HB5.out.trans (hb7.mono HB5.out.size))
    have HLOW := Lib.hid HA5.out.low
    clear hby hlt6 hb6 hbt hin6 hP hlen hb7 hf HA5 HB5 HS hX k3
    go_upto_region 15 with (first
      | (go_at_call 26; with_reducible refine HW7.out.mono ?_; rintro r w8 ⟨rfl, hb⟩
         have HA8 := Lib.hid (HA7.out.below hb); have HB8 := Lib.hid (HB7.out.trans (hb.mono HB7.out.size))
         clear hb)
      | (go_at_call 22; with_reducible refine HF.out.mono ?_; rintro r w7 ⟨o7, L7, rfl, hA7, hok7, ho7, -, hS7⟩
         have hw := waits_any hA7 hok7
         rw [told_waits, HK.out.1] at hw
         have HW7 := Lib.hid hw
         have HA7 := Lib.hid hA7; have HO7 := Lib.hid hok7; have HE7 := Lib.hid ho7
         have HB7 := Lib.hid (HBA.out.trans (hS7.keeps.below HBA.out.size HLOW.out))
         clear hA7 hok7 ho7 hS7 hw))
    clear HF HBA HLOW HA7 HB7 HW7 hcv
    have hcv8 : (convert 22 22 (.slice (some ⟨w8.heap.size, 0, none⟩) 1 1)).run Tryz.prog (w8.alloc (.cells #[.int .u8 10] 5)) = .ok (.slice (some ⟨w8.heap.size, 0, none⟩) 1 1) (w8.alloc (.cells #[.int .u8 10] 5 (1, 2))) := Lib.run_convert_bytes_const w8 22 5 #[.int .u8 10] 1 1 Tryz.underlying22 Tryz.underlying5
    have hb8 : Below w8.heap.size w8 ((w8.alloc (.cells #[.int .u8 10] 5 (1, 2))).alloc (.cells #[.slice (some ⟨w8.heap.size, 0, none⟩) 1 1] 22)) := ((Below.refl _ _).alloc (Nat.le_refl _) _).alloc (by simp) _
    have hP8 := Parts.one (c := 1) (Bts.lit HA8.out.in [10] #[.int .u8 10] (by kernel_rfl) 5 (1, 2)) (in_alloc HA8.out.in _) 22
    rw [show (w8.alloc (.cells #[.int .u8 10] 5 (1, 2))).heap.size = w8.heap.size + 1 by simp] at hP8
    have hf8 := feed_said (by decide) (HA8.out.below hb8) HO7.out HE7.out (some ⟨w8.heap.size + 1, 0, none⟩) 1 [[10]] hP8 (by decide) (by decide)
    rw [show ([[10]] : List (List UInt8)).flatten = [10] from rfl, hY] at hf8
    have HF8 := Lib.hid (show Calls Tryz.prog 22 #[ptr g, .slice (some ⟨w8.heap.size + 1, 0, none⟩) 1 1] ((w8.alloc (.cells #[.int .u8 10] 5 (1, 2))).alloc (.cells #[.slice (some ⟨w8.heap.size, 0, none⟩) 1 1] 22)) fun r w' => ∃ o L', r = .returned o ∧ At w' W4.heap.size g 0 usual L' Y.told ∧ Y.told.Ok usual ∧ Y.told.out = [] ∧ Said w' o Y.out ∧ Step L7 L' ((w8.alloc (.cells #[.int .u8 10] 5 (1, 2))).alloc (.cells #[.slice (some ⟨w8.heap.size, 0, none⟩) 1 1] 22)) w' from hf8)
    have HBA8 := Lib.hid (HB8.out.trans (hb8.mono HB8.out.size)); have HLOW8 := Lib.hid HA8.out.low
    clear hb8 hP8 hf8 hY HA8 HB8 HO7 HE7
    go_upto_region 17 with (first
      | (go_at_call 26; with_reducible refine HW9.out.mono ?_; rintro r w10 ⟨rfl, hb⟩
         have HA10 := Lib.hid (HA9.out.below hb); have HB10 := Lib.hid (HB9.out.trans (hb.mono HB9.out.size))
         clear hb)
      | (go_at_call 22; with_reducible refine HF8.out.mono ?_; rintro r w9 ⟨o9, L9, rfl, hA9, hok9, ho9, -, hS9⟩
         have hw := waits_any hA9 hok9
         rw [told_waits, HK.out.2.1] at hw
         have HW9 := Lib.hid hw
         have HA9 := Lib.hid hA9; have HO9 := Lib.hid hok9; have HE9 := Lib.hid ho9
         have HB9 := Lib.hid (HBA8.out.trans (hS9.keeps.below HBA8.out.size HLOW8.out))
         clear hA9 hok9 ho9 hS9 hw))
    clear HF8 HBA8 HLOW8 HA9 HB9 HW9 hcv8
    have hcv10 : (convert 22 22 (.slice (some ⟨w10.heap.size, 0, none⟩) 1 1)).run Tryz.prog (w10.alloc (.cells #[.int .u8 49] 5)) = .ok (.slice (some ⟨w10.heap.size, 0, none⟩) 1 1) (w10.alloc (.cells #[.int .u8 49] 5 (1, 2))) := Lib.run_convert_bytes_const w10 22 5 #[.int .u8 49] 1 1 Tryz.underlying22 Tryz.underlying5
    have hb10 : Below w10.heap.size w10 ((w10.alloc (.cells #[.int .u8 49] 5 (1, 2))).alloc (.cells #[.slice (some ⟨w10.heap.size, 0, none⟩) 1 1] 22)) := ((Below.refl _ _).alloc (Nat.le_refl _) _).alloc (by simp) _
    have hP10 := Parts.one (c := 1) (Bts.lit HA10.out.in [49] #[.int .u8 49] (by kernel_rfl) 5 (1, 2)) (in_alloc HA10.out.in _) 22
    rw [show (w10.alloc (.cells #[.int .u8 49] 5 (1, 2))).heap.size = w10.heap.size + 1 by simp] at hP10
    have hf10 := feed_said (by decide) (HA10.out.below hb10) HO9.out HE9.out (some ⟨w10.heap.size + 1, 0, none⟩) 1 [[49]] hP10 (by decide) (by decide)
    rw [show ([[49]] : List (List UInt8)).flatten = [49] from rfl, hZ] at hf10
    have HF10 := Lib.hid (show Calls Tryz.prog 22 #[ptr g, .slice (some ⟨w10.heap.size + 1, 0, none⟩) 1 1] ((w10.alloc (.cells #[.int .u8 49] 5 (1, 2))).alloc (.cells #[.slice (some ⟨w10.heap.size, 0, none⟩) 1 1] 22)) fun r w' => ∃ o L', r = .returned o ∧ At w' W4.heap.size g 0 usual L' Z.told ∧ Z.told.Ok usual ∧ Z.told.out = [] ∧ Said w' o Z.out ∧ Step L9 L' ((w10.alloc (.cells #[.int .u8 49] 5 (1, 2))).alloc (.cells #[.slice (some ⟨w10.heap.size, 0, none⟩) 1 1] 22)) w' from hf10)
    have HBA10 := Lib.hid (HB10.out.trans (hb10.mono HB10.out.size)); have HLOW10 := Lib.hid HA10.out.low
    clear hb10 hP10 hf10 hZ HA10 HB10 HO9 HE9
    go_upto_region 18 with
      (go_at_call 22; with_reducible refine HF10.out.mono ?_; rintro r w11 ⟨o11, L11, rfl, hA11, hok11, ho11, -, hS11⟩
       have hw := waits_any hA11 hok11
       rw [told_waits, HK.out.2.2.1] at hw
       have her := fun (w' : World) (hb : Below w11.heap.size w11 w') => errq_any (hA11.below hb)
       rw [told_err, HK.out.2.2.2] at her
       have HW11 := Lib.hid hw
       have HER := Lib.hid (show ∀ (w' : World), Below w11.heap.size w11 w' → Calls Tryz.prog 25 #[ptr g] w' fun r w2 => r = .returned (.int .i64 0) ∧ w2 = w' from her)
       have HB11 := Lib.hid (HBA10.out.trans (hS11.keeps.below HBA10.out.size HLOW10.out))
       clear hA11 hok11 ho11 hS11 hw her)
    clear HF10 HBA10 HLOW10 hcv10
    rcases Nat.lt_or_ge v 3 with hv3 | hv3 <;> rcases Nat.eq_zero_or_pos r with hr0 | hr0
    all_goals
      try have t1 : (v : Int) < 3 := by omega
      try have t1 : ¬ (v : Int) < 3 := by omega
      try have t2 : ¬ (0 : Int) < (r : Int) := by omega
      try have t2 : (0 : Int) < (r : Int) := by omega
      try have t3 : decide (v < 3) = true := decide_eq_true (by omega)
      try have t3 : decide (v < 3) = false := decide_eq_false (by omega)
      try have t4 : decide (0 < r) = true := decide_eq_true (by omega)
      try have t4 : decide (0 < r) = false := decide_eq_false (by omega)
      clear hv3 hr0
      obtain ⟨g1, g2, g3⟩ := HR.out
      have g0 := HVM.out
      go_wp2_with (first
        | (go_at_call 25; with_reducible refine (HER.out _ HB12.out).mono ?_; rintro r w13 ⟨rfl, hw⟩; rw [hw]; clear hw)
        | (go_at_call 26; with_reducible refine HW11.out.mono ?_; rintro r w12 ⟨rfl, hb⟩; have HB12 := Lib.hid hb; clear hb))
      go_ret
      exact ⟨rfl, HB4.out.trans ((HB11.out.trans (HB12.out.mono HB11.out.size)).mono HB4.out.size)⟩
end code
end Go.Proofs.YtibnobdbmojjhaaGreatDoor.Pg
