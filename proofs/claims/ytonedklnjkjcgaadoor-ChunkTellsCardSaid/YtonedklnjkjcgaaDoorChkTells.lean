/-
  Layer 11 (chunk): the walk of ChunkTells: it returns true, and writes nothing that was there.
-/
import Derived.Test.YtonedklnjkjcgaaDoorChkKnown
import Derived.Test.YtonedklnjkjcgaaDoorChkRef
import Derived.Test.YtonedklnjkjcgaaDoorChkSome
import Derived.Test.YtonedklnjkjcgaaDoorSeat
namespace Go.Proofs.YtonedklnjkjcgaaDoor.Chk
open Go.RowKit Base Txt

theorem nats_at (w : World) (t : TypeId) (qs : List Nat) (k : Nat) (hk : k < qs.length) : (w.alloc (.cells ((qs.map fun q : Nat => Value.int .u32 (q : Int)).toArray) t)).cell? ⟨w.heap.size, k, none⟩ = some (.int .u32 ((qs[k]?.getD 0 : Nat) : Int)) := by
  rw [cell_of_row (w.alloc _) w.heap.size k _ t (0, 0) (heap_alloc_new w _)]
  simp [List.getElem?_eq_getElem hk]
/-- Five texts in a slice that was just made. -/
theorem five_at (w : World) (t : TypeId) (X0 X1 X2 X3 X4 : ByteArray) (h0 : X0.size ≤ 1000) (h1 : X1.size ≤ 1000) (h2 : X2.size ≤ 1000) (h3 : X3.size ≤ 1000) (h4 : X4.size ≤ 1000) :
    ∀ j, j < 5 → ∃ X : ByteArray, (w.alloc (.cells #[.string X0, .string X1, .string X2, .string X3, .string X4] t)).cell? ⟨w.heap.size, j, none⟩ = some (.string X) ∧ X.size ≤ 1000 := by
  intro j hj
  have h := fun v hv => (cell_of_row (w.alloc (.cells #[.string X0, .string X1, .string X2, .string X3, .string X4] t)) w.heap.size j _ t (0, 0) (heap_alloc_new w _)).trans (hv : (#[Value.string X0, .string X1, .string X2, .string X3, .string X4] : Array Value)[j]? = some v)
  rcases (by omega : j = 0 ∨ j = 1 ∨ j = 2 ∨ j = 3 ∨ j = 4) with rfl | rfl | rfl | rfl | rfl
  · exact ⟨X0, h _ rfl, h0⟩
  · exact ⟨X1, h _ rfl, h1⟩
  · exact ⟨X2, h _ rfl, h2⟩
  · exact ⟨X3, h _ rfl, h3⟩
  · exact ⟨X4, h _ rfl, h4⟩
theorem seatB_parts (k : Nat) : ∃ (x0 x1 x2 x3 x4 x5 x6 x7 : Int) (ch od : Bool), 0 ≤ x3 ∧ x3 ≤ 65536 ∧ 0 ≤ x4 ∧ Seat.seatB k = Bnd.bnd x0 x1 x2 x3 x4 x5 x6 x7 ch od := by
  refine ⟨_, _, _, _, _, _, _, _, _, _, ?_, ?_, ?_, rfl⟩
  · split
    · decide
    · split <;> decide
  · split
    · decide
    · split <;> decide
  · split <;> decide

theorem wrap_small (x : Int) (h0 : -1000000 ≤ x) (h1 : x ≤ 1000000) : wrap64 x = x := by unfold wrap64; omega
theorem wrap_lo (x : Int) : -9223372036854775808 ≤ IntKind.i64.wrap x := by rw [IntKind.wrap_i64]; omega
theorem wrap_hi (x : Int) : IntKind.i64.wrap x ≤ 9223372036854775807 := by rw [IntKind.wrap_i64]; omega
theorem wrap64_lo (x : Int) : -9223372036854775808 ≤ wrap64 x := by unfold wrap64; omega
theorem wrap64_hi (x : Int) : wrap64 x ≤ 9223372036854775807 := by unfold wrap64; omega
theorem rem64 (N : Nat) : ∃ r : Nat, r < 64 ∧ Int.tmod (N : Int) 64 = (r : Int) ∧ wrap64 (r : Int) = (r : Int) :=
  ⟨N % 64, Nat.mod_lt _ (by decide), by rw [Int.tmod_eq_emod_of_nonneg (by omega)]; omega, wrap_small _ (by omega) (by omega)⟩
theorem rem3 (N : Nat) : ∃ r : Nat, r < 3 ∧ Int.tmod (N : Int) 3 = (r : Int) ∧ wrap64 (r : Int) = (r : Int) :=
  ⟨N % 3, Nat.mod_lt _ (by decide), by rw [Int.tmod_eq_emod_of_nonneg (by omega)]; omega, wrap_small _ (by omega) (by omega)⟩

section code
set_option maxHeartbeats 8000000
attribute [local go_sem] Base.some_undef
theorem hexText_any (x : Int) (w : World) (h0 : -9223372036854775808 ≤ x) (h1 : x ≤ 9223372036854775807) : Calls Tryd.prog 11 #[.int .i64 x] w fun e w' => (∃ S : ByteArray, e = .returned (.string S) ∧ S.size ≤ 64) ∧ ∃ m, w' = w.drewN m := by
  refine (Num.rputHex_any x w h0 h1).mono ?_
  rintro e w' ⟨rfl, hw⟩
  refine ⟨⟨_, rfl, ?_⟩, hw⟩
  rw [← len]
  exact Num.spell_len (by decide) 64 x.toNat (by omega) (by decide)
set_option maxRecDepth 10000 in
theorem chunkTells_any (s : ByteArray) (la : Option Addr) (n cap : Nat) (bs : List UInt8) (a k N : Nat) (w : World) (hs : s.size ≤ 140737488351232) (hv : Nums .u8 w la n (nums bs)) (hn : n ≤ maxLen) (ha : a < 4294967296) (hk : k < 256) (hN : N < 65536) :
    Calls Tryd.prog 3 #[.string s, .slice la n cap, .int .u32 a, .int .u8 k, .int .u16 N] w fun e w' => e = .returned (.bool true) ∧ Below w.heap.size w w' := by
  unfold maxLen at hn
  have HV := Lib.hid hv
  clear hv
  rcases Nat.lt_or_ge 80 s.size with c0 | c0
  · have d0 : (80 : Int) < (s.size : Int) := by omega
    go_enter Tryd.func3, Tryd.ntmps3
    go_wp2_with (go_at_call 7; with_reducible refine (known_any _).mono ?_; rintro e w1 ⟨rfl, hb⟩)
    go_ret
    exact ⟨rfl, hb⟩
  have d0 : ¬ (80 : Int) < (s.size : Int) := by omega
  rcases Nat.lt_or_ge 12 n with c1 | c1
  · have d1 : (12 : Int) < (n : Int) := by omega
    go_enter Tryd.func3, Tryd.ntmps3
    go_wp2_with (go_at_call 7; with_reducible refine (known_any _).mono ?_; rintro e w1 ⟨rfl, hb⟩)
    go_ret
    exact ⟨rfl, hb⟩
  have d1 : ¬ (12 : Int) < (n : Int) := by omega
  have HS := Lib.hid (fun w' hb' => some_any la n cap bs w' (HV.out.below (w' := w') hb') (by omega))
  have HBd := Lib.hid (fun w => Seat.bounds_any k hk w)
  obtain ⟨x0, x1, x2, x3, x4, x5, x6, x7, ch, od, hx30, hx31, hx4, hF⟩ := seatB_parts k
  rw [hF] at HBd
  clear hF
  have HPr := Lib.hid (fun w => Seat.profile_any a k ha hk w)
  have hp1 := Seat.seatP_lt a k
  generalize Seat.seatP a k = P1 at *
  have HO2 := Lib.hid (fun w b (hi : Ints w b 2 [27, 28]) => Qk.rof_any b 2 2 [27, 28] w hi (by decide))
  have HO1 := Lib.hid (fun w b (hi : Ints w b 1 [28]) => Qk.rof_any b 1 1 [28] w hi (by decide))
  have hp2 := Qk.ofL_lt [27, 28]
  have hp3 := Qk.ofL_lt [28]
  generalize Qk.ofL [27, 28] = P2 at *
  generalize Qk.ofL [28] = P3 at *
  have HQ : Hid (∀ j, j < 4 → ([0, P1, P2, P3][j]?.getD 0) < 4294967296) := Lib.hid fun j hj => by
    rcases (by omega : j = 0 ∨ j = 1 ∨ j = 2 ∨ j = 3) with rfl | rfl | rfl | rfl
    · show 0 < 4294967296; decide
    · show P1 < 4294967296; omega
    · show P2 < 4294967296; omega
    · show P3 < 4294967296; omega
  have HX := Lib.hid (fun w x h0 h1 => hexText_any x w h0 h1)
  obtain ⟨r, hr, him, hwr⟩ := rem64 N
  have HIM := Lib.hid (And.intro him hwr)
  clear him hwr
  obtain ⟨r3, hr3, him3, hwr3⟩ := rem3 N
  have HIM3 := Lib.hid (And.intro him3 hwr3)
  clear him3 hwr3
  have HWN := Lib.hid (wrap_small (N : Int) (by omega) (by omega))
  have HWA := Lib.hid (wrap_small (x3 + (r3 : Int)) (by omega) (by omega))
  have HWB := Lib.hid (wrap_small (x3 + (r3 : Int) - 1) (by omega) (by omega))
  have HXN := Lib.hid (fun w => HX.out w (N : Int) (by omega) (by omega))
  have HXB := Lib.hid (fun w => HX.out w (x3 + (r3 : Int) - 1) (by omega) (by omega))
  have HX3 := Lib.hid (And.intro hx31 hx4)
  clear ha hk hN hp1 hp2 hp3 hs hr3 hx30 hx31 hx4
  go_enter Tryd.func3, Tryd.ntmps3
  go_upto_region 8 with (first
    | (go_at_call 9; with_reducible refine (HBd.out _).mono ?_; rintro e w3 ⟨rfl, hb⟩
       have HBB := Lib.hid (BB.new (Base.below_step HB2.out hb) 29 x0 x1 x2 x3 x4 x5 x6 x7 ch od)
       clear hb)
    | (go_at_call 8; with_reducible refine (HPr.out _).mono ?_; rintro e w2 ⟨rfl, hb⟩
       have HB2 := Lib.hid (Base.below_step HB1.out hb)
       clear hb)
    | (go_at_call 7; with_reducible refine (known_any _).mono ?_; rintro e w1 ⟨rfl, hb⟩
       have HB1 := Lib.hid hb
       clear hb))
  generalize w3.alloc (.cells #[.int .i64 x0, .int .i64 x1, .int .i64 x2, .int .i64 x3, .int .i64 x4, .int .i64 x5, .int .i64 x6, .int .i64 x7, .bool ch, .bool od] 29) = W0 at *
  generalize w3.heap.size = g0 at *
  clear HBd HPr HB1 HB2
  go_loopw [13, 14] (fun v i wr => ∃ (q : Nat) (L : ByteArray), q ≤ r ∧ i = .int .i64 q ∧ v = .string L ∧ L.size ≤ q + 2 ∧ wr = W0) (fun _ i _ => r - (intOf i).toNat)
  case atStart => first | exact ⟨0, _, Nat.zero_le _, rfl, rfl, Nat.le_refl _, rfl⟩ | exact ⟨0, _, Nat.zero_le _, rfl, rfl, Nat.le_refl _, trivial⟩
  case round =>
    obtain ⟨q, L, hq, rfl, rfl, hL, hwr0⟩ := hrel
    subst hwr0
    rcases Nat.lt_or_ge q r with hlt | hge
    · have t1 : (q : Int) < (r : Int) := by omega
      have v1 : ¬ 9223372036854775807 < L.size + 1 := by omega
      obtain ⟨him, hwr⟩ := HIM.out
      go_wp2_with fail
      go_roundw
      case rel => first | exact ⟨q + 1, _, by omega, by go_num, rfl, by rw [ByteArray.size_append]; show L.size + 1 ≤ _; omega, rfl⟩ | exact ⟨q + 1, _, by omega, by go_num, rfl, by rw [ByteArray.size_append]; show L.size + 1 ≤ _; omega, trivial⟩
      case measure => simp [intOf]; omega
    · obtain rfl : q = r := by omega
      have t1 : ¬ (q : Int) < (q : Int) := by omega
      have HLz : Hid (L.size ≤ 1000) := Lib.hid (by omega)
      obtain ⟨him, hwr⟩ := HIM.out
      clear hL hr hq hge
      go_upto_region 11 with fail
      obtain ⟨him3, hwr3⟩ := HIM3.out
      have hwa := HWA.out
      have hwb := HWB.out
      have hwN := HWN.out
      clear him hwr
      obtain ⟨⟨q0, q1, q2, q3, q4, q5, q6, q7, q8, q9⟩, hlt, hbk⟩ := HBB.out
      clear q0 q1 q2 q4 q5 q6 q7 q8 q9 hlt hbk
      go_cut [62, 63, 64] from 47 to 64 (fun u v i wx => ∃ g : Nat, u = .slice (some ⟨g, 0, none⟩) 5 5 ∧ v = .int .i64 5 ∧ i = .int .i64 0 ∧ Hid (∀ j, j < 5 → ∃ X : ByteArray, wx.cell? ⟨g, j, none⟩ = some (.string X) ∧ X.size ≤ 1000) ∧ g < wx.heap.size ∧ Hid (BB x0 x1 x2 x3 x4 x5 x6 x7 ch od w g0 wx))
      case first =>
        go_region_with (first
          | (go_at_call 11; have hzz := hS2; clear hzz
             (first | (with_reducible refine (HX.out _ _ (wrap_lo _) (wrap_hi _)).mono ?_) | (with_reducible refine (HX.out _ _ (wrap64_lo _) (wrap64_hi _)).mono ?_) | (with_reducible refine (HXB.out _).mono ?_)); rintro e w7 ⟨⟨S3, rfl, hS3⟩, m3, hw⟩; rw [hw]; clear hw)
          | (go_at_call 11
             (first | (with_reducible refine (HX.out _ _ (wrap_lo _) (wrap_hi _)).mono ?_) | (with_reducible refine (HX.out _ _ (wrap64_lo _) (wrap64_hi _)).mono ?_) | (with_reducible refine (HXN.out _).mono ?_)); rintro e w6 ⟨⟨S2, rfl, hS2⟩, m2, hw⟩; rw [hw]; clear hw)
          | (go_at_call 10; with_reducible refine (HS.out _ HBB.out.b.drew).mono ?_; rintro e w5 ⟨⟨S1, rfl, hS1⟩, hb⟩
             have HB5 := Lib.hid ((HBB.out.drew 1).step hb)
             clear q3
             obtain ⟨⟨q0, q1, q2, q3, q4, q5, q6, q7, q8, q9⟩, hlt, hbk⟩ := HB5.out
             clear q0 q1 q2 q4 q5 q6 q7 q8 q9 hlt hbk hb))
        all_goals
          go_wp2_with fail
          go_meet
          case rel => exact ⟨_, rfl, rfl, rfl, Lib.hid (five_at _ _ s S1 S2 L S3 (by omega) (by omega) (by omega) HLz.out (by omega)), by simp, Lib.hid ((HB5.out.drew (m2 + m3)).alloc _)⟩
      case rest =>
        obtain ⟨g, rfl, rfl, rfl, hst, hg, HBW⟩ := hcut
        clear HX HXN HXB HWA HWB HWN HIM HIM3 HLz him3 hwr3 hwa hwb hwN q3 HBB HS HV hn d0 d1 c0 c1 t1
        go_wp2_with fail
        go_loopw [64] (fun i wq => ∃ q : Nat, q ≤ 5 ∧ i = .int .i64 q ∧ Hid (Below wc.heap.size wc wq)) (fun i _ => 5 - (intOf i).toNat)
        case atStart => exact ⟨0, Nat.zero_le _, rfl, Lib.hid (Below.refl _ _)⟩
        case round =>
          obtain ⟨j, hj, rfl, hbj⟩ := hrel
          rcases Nat.lt_or_ge j 5 with hlt | hge
          · obtain ⟨X, hX, hXz⟩ := hst.out j hlt
            have hcq := (hbj.out.cell (p := ⟨g, j, none⟩) hg).trans hX
            have hj5 : (j : Int) < 5 := by omega
            have hj6 : j + 1 ≤ 5 := by omega
            clear hX hlt
            go_upto_region 15 with (first
              | (go_at_call 12; with_reducible refine (HO1.out _ _ (Ints.one _ _ (by first | rfl | simp) _ _)).mono ?_; rintro e w9 ⟨rfl, hw⟩; rw [hw]; clear hw)
              | (go_at_call 12; with_reducible refine (HO2.out _ _ (Ints.two _ _ (by first | rfl | simp) _ _ _)).mono ?_; rintro e w8 ⟨rfl, hw⟩; rw [hw]; clear hw))
            have hsz9 : ((wr.alloc (.cells #[.int .i64 27, .int .i64 28] 3)).alloc (.cells #[.int .i64 28] 3)).heap.size = wr.heap.size + 1 + 1 := by simp
            have hps : Hid (∀ i, i < 4 → (((wr.alloc (.cells #[.int .i64 27, .int .i64 28] 3)).alloc (.cells #[.int .i64 28] 3)).alloc (.cells #[.int .u32 0, .int .u32 (P1 : Nat), .int .u32 (P2 : Nat), .int .u32 (P3 : Nat)] 26)).cell? ⟨wr.heap.size + 1 + 1, i, none⟩ = some (.int .u32 (([0, P1, P2, P3][i]?.getD 0 : Nat) : Int))) := Lib.hid fun i hi => by
              have h := nats_at ((wr.alloc (.cells #[.int .i64 27, .int .i64 28] 3)).alloc (.cells #[.int .i64 28] 3)) 26 [0, P1, P2, P3] i hi
              rw [hsz9] at h; exact h
            have hgp : wr.heap.size + 1 + 1 < (((wr.alloc (.cells #[.int .i64 27, .int .i64 28] 3)).alloc (.cells #[.int .i64 28] 3)).alloc (.cells #[.int .u32 0, .int .u32 (P1 : Nat), .int .u32 (P2 : Nat), .int .u32 (P3 : Nat)] 26)).heap.size := by simp
            have HBJ := Lib.hid (((hbj.out.alloc hbj.out.size (.cells #[.int .i64 27, .int .i64 28] 3)).alloc (by have := hbj.out.size; simp; omega) (.cells #[.int .i64 28] 3)).alloc (by have := hbj.out.size; simp; omega) (.cells #[.int .u32 0, .int .u32 (P1 : Nat), .int .u32 (P2 : Nat), .int .u32 (P3 : Nat)] 26))
            clear hbj hcq hsz9
            generalize ((wr.alloc (.cells #[.int .i64 27, .int .i64 28] 3)).alloc (.cells #[.int .i64 28] 3)).alloc (.cells #[.int .u32 0, .int .u32 (P1 : Nat), .int .u32 (P2 : Nat), .int .u32 (P3 : Nat)] 26) = W7 at *
            generalize wr.heap.size + 1 + 1 = gp at *
            go_loopw [75] (fun i wq => ∃ z : Nat, z ≤ 4 ∧ i = .int .i64 z ∧ Hid (Below W7.heap.size W7 wq)) (fun i _ => 4 - (intOf i).toNat)
            case atStart => exact ⟨0, Nat.zero_le _, rfl, Lib.hid (Below.refl _ _)⟩
            case round =>
              obtain ⟨z, hz, rfl, hbz⟩ := hrel
              rcases Nat.lt_or_ge z 4 with hlz | hgz
              · have hcz := (hbz.out.cell (p := ⟨gp, z, none⟩) hgp).trans (hps.out z hlz)
                have hpz := HQ.out z hlz
                have hz4 : (z : Int) < 4 := by omega
                have hz5 : z + 1 ≤ 4 := by omega
                clear hlz
                generalize [0, P1, P2, P3][z]?.getD 0 = Q at *
                obtain ⟨hx31, hx4⟩ := HX3.out
                have C1 := Lib.hid (fun w => size_any X Q hpz x0 x1 x2 x3 x4 x5 x6 x7 ch od (by omega) w (by omega))
                have C2 := Lib.hid (fun w => rsize_any X Q hpz x0 x1 x2 x3 x4 x5 x6 x7 ch od (by omega) hx4 w (by omega))
                obtain ⟨y, e0, hR⟩ : ∃ y e, sizeV (Qk.has Q 27) (Qk.has Q 28) x4 x3 X.data.toList = (y, e) := ⟨_, _, rfl⟩
                rw [hR] at C1 C2
                dsimp only at C1 C2
                clear hR hx31 hx4 hpz
                have HBr := Lib.hid (Base.below_step HBJ.out hbz.out)
                have HBBr := Lib.hid (HBW.out.step HBr.out)
                obtain ⟨⟨q0, q1, q2, q3, q4, q5, q6, q7, q8, q9⟩, hlt9, hb9⟩ := HBBr.out
                clear hlt9 hb9
                go_wp2_with (first
                  | (go_at_call 14; with_reducible refine (C2.out _).mono ?_; rintro e w12 ⟨rfl, hb⟩
                     replace hbz := Lib.hid (Base.below_step hbz.out hb)
                     clear hb)
                  | (go_at_call 13; with_reducible refine (C1.out _).mono ?_; rintro e w11 ⟨rfl, hb⟩
                     clear q0 q1 q2 q3 q4 q5 q6 q7 q8 q9
                     replace HBBr := Lib.hid (HBBr.out.step hb)
                     obtain ⟨⟨q0, q1, q2, q3, q4, q5, q6, q7, q8, q9⟩, hlt9, hb9⟩ := HBBr.out
                     replace hbz := Lib.hid (Base.below_step hbz.out hb)
                     clear hb hlt9 hb9))
                go_roundw
                case rel => exact ⟨z + 1, hz5, by go_num, hbz⟩
                case measure => simp [intOf]; omega
              · obtain rfl : z = 4 := by omega
                have H9 := Lib.hid (Base.below_step HBJ.out hbz.out)
                clear HBJ hbz hps
                go_wp2_with fail
                go_roundw
                case rel => exact ⟨j + 1, hj6, by go_num, H9⟩
                case measure => simp [intOf]; omega
          · obtain rfl : j = 5 := by omega
            have H9 := Lib.hid (HBW.out.step hbj.out)
            clear hbj hst HBW
            go_wp2_with fail
            go_ret
            exact ⟨rfl, H9.out.b⟩
end code
end Go.Proofs.YtonedklnjkjcgaaDoor.Chk
