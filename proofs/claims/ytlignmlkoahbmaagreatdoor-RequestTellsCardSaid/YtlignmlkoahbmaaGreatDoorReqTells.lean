/-
  Layer 8 (request): the walk of RequestTells: it returns true, and writes nothing that was there.
-/
import Derived.Test.YtlignmlkoahbmaaGreatDoorReqRRequest
import Derived.Test.YtlignmlkoahbmaaGreatDoorReqKnown
import Derived.Test.YtlignmlkoahbmaaGreatDoorReqSome
import Derived.Test.YtlignmlkoahbmaaGreatDoorReqSeat
import Derived.Test.YtlignmlkoahbmaaGreatDoorSeat
namespace Go.Proofs.YtlignmlkoahbmaaGreatDoor.Rq
open Go.RowKit Base Txt

theorem seatB_parts (k : Nat) : ∃ (y0 y1 y2 y3 y4 y5 y6 y7 : Int) (c d : Bool), Seat.seatB k = Bnd.bnd y0 y1 y2 y3 y4 y5 y6 y7 c d := ⟨_, _, _, _, _, _, _, _, _, _, rfl⟩
theorem nats_at (w : World) (t : TypeId) (qs : List Nat) (k : Nat) (hk : k < qs.length) : (w.alloc (.cells ((qs.map fun q : Nat => Value.int .u32 (q : Int)).toArray) t)).cell? ⟨w.heap.size, k, none⟩ = some (.int .u32 ((qs[k]?.getD 0 : Nat) : Int)) := by
  rw [cell_of_row (w.alloc _) w.heap.size k _ t (0, 0) (heap_alloc_new w _)]
  simp [List.getElem?_eq_getElem hk]

section code
set_option maxHeartbeats 4000000
attribute [local go_sem] Base.some_undef
set_option maxRecDepth 10000 in
theorem requestTells_any (s : ByteArray) (la : Option Addr) (n cap : Nat) (bs : List UInt8) (a k x y : Nat) (w : World) (hs : s.size ≤ 140737488351232) (hv : Nums .u8 w la n (nums bs)) (hn : n ≤ maxLen) (ha : a < 4294967296) (hk : k < 256) (hx : x < 256) (hy : y < 256) :
    Calls Tryz.prog 3 #[.string s, .slice la n cap, .int .u32 a, .int .u8 k, .int .u8 x, .int .u8 y] w fun e w' => e = .returned (.bool true) ∧ Below w.heap.size w w' := by
  unfold maxLen at hn
  have HV := Lib.hid hv
  have hl : bs.length = n := by have := hv.1; rwa [nums, List.length_map] at this
  clear hv
  rcases Nat.lt_or_ge 80 s.size with c0 | c0
  · go_enter Tryz.func3, Tryz.ntmps3
    go_wp2_with (go_at_call 4; with_reducible refine (known_any _).mono ?_; rintro e w1 ⟨rfl, hb⟩)
    go_ret
    exact ⟨rfl, hb⟩
  rcases Nat.lt_or_ge 12 n with c1 | c1
  · go_enter Tryz.func3, Tryz.ntmps3
    go_wp2_with (go_at_call 4; with_reducible refine (known_any _).mono ?_; rintro e w1 ⟨rfl, hb⟩)
    go_ret
    exact ⟨rfl, hb⟩
  have hsl := someL_le bs
  have hsz : (ba (someL bs)).size ≤ 96 := by rw [ba_size]; omega
  clear hl hsl
  have HS := Lib.hid (fun w' hb' => some_any la n cap bs w' (HV.out.below (w' := w') hb') (by omega))
  generalize ba (someL bs) = S at *
  have HBd := Lib.hid (fun w => Seat.bounds_any k hk w)
  obtain ⟨y0, y1, y2, y3, y4, y5, y6, y7, ch, old, hF⟩ := seatB_parts k
  rw [hF] at HBd
  clear hF
  have HPr := Lib.hid (fun w => Seat.profile_any a k ha hk w)
  have hp1 := Seat.seatP_lt a k
  generalize Seat.seatP a k = P1 at *
  have HL := Lib.hid (fun w => line_any x y hx hy w)
  have hm := Seat.mask30 a ha
  have hp : a % 1073741824 < 4294967296 := by omega
  obtain ⟨P2, hpp⟩ : ∃ p, a % 1073741824 = p := ⟨_, rfl⟩
  rw [hpp] at hm hp
  have HO := Lib.hid (fun w b (hi : Ints w b 3 [3, 7, 6]) => Qk.rof_any b 3 3 [3, 7, 6] w hi (by decide))
  have hp3 := Qk.ofL_lt [3, 7, 6]
  generalize Qk.ofL [3, 7, 6] = P3 at *
  have HQ : Hid (∀ j, j < 4 → ([0, P1, P2, P3][j]?.getD 0) < 4294967296) := Lib.hid fun j hj => by
    rcases (by omega : j = 0 ∨ j = 1 ∨ j = 2 ∨ j = 3) with rfl | rfl | rfl | rfl
    · show 0 < 4294967296; decide
    · show P1 < 4294967296; omega
    · exact hp
    · show P3 < 4294967296; omega
  have T4 := Lib.hid (fun w => put_any s S w (by omega) (by omega))
  have T5 := Lib.hid (fun w => rput_any s S w (by omega) (by omega))
  clear hpp ha hk hx hy hp hp1 hp3 hs
  go_enter Tryz.func3, Tryz.ntmps3
  go_upto_region 7 with (first
    | (go_at_call 4; with_reducible refine (known_any _).mono ?_; rintro e w1 ⟨rfl, hb⟩; have hc := hb; clear hb)
    | (go_at_call 5; with_reducible refine (HPr.out _).mono ?_; rintro e w2 ⟨rfl, hb⟩; replace hc := Base.below_step hc hb; clear hb)
    | (go_at_call 6; with_reducible refine (HBd.out _).mono ?_; rintro e w3 ⟨rfl, hb⟩
       have A := Lib.hid (Bnd.At.new w3 28 y0 y1 y2 y3 y4 y5 y6 y7 ch old)
       have S0 := Lib.hid (show w3.heap.size < (w3.alloc (.cells #[.int .i64 y0, .int .i64 y1, .int .i64 y2, .int .i64 y3, .int .i64 y4, .int .i64 y5, .int .i64 y6, .int .i64 y7, .bool ch, .bool old] 28)).heap.size by simp)
       replace hc := (Base.below_step hc hb).alloc (Base.below_step hc hb).size (.cells #[.int .i64 y0, .int .i64 y1, .int .i64 y2, .int .i64 y3, .int .i64 y4, .int .i64 y5, .int .i64 y6, .int .i64 y7, .bool ch, .bool old] 28)
       clear hb)
    | (go_at_call 7; with_reducible refine (HS.out _ hc).mono ?_; rintro e w4 ⟨rfl, hb⟩
       replace A := Lib.hid (A.out.below S0.out hb)
       replace S0 := Lib.hid (Nat.lt_of_lt_of_le S0.out hb.size)
       replace hc := Base.below_step hc hb
       clear hb)
    | (go_at_call 8; have hz2 := hL2; clear hz2; with_reducible refine (HL.out _).mono ?_; rintro e w7 ⟨⟨L3, rfl, hL3⟩, hb⟩
       have hv3 : ¬ 9223372036854775807 < L3.size + 1 := by omega
       replace A := Lib.hid (A.out.below S0.out hb)
       replace S0 := Lib.hid (Nat.lt_of_lt_of_le S0.out hb.size)
       replace hc := Base.below_step hc hb
       clear hb)
    | (go_at_call 8; have hz1 := hL1; clear hz1; with_reducible refine (HL.out _).mono ?_; rintro e w6 ⟨⟨L2, rfl, hL2⟩, hb⟩
       have hv2 : ¬ 9223372036854775807 < 1 + L2.size := by omega
       replace A := Lib.hid (A.out.below S0.out hb)
       replace S0 := Lib.hid (Nat.lt_of_lt_of_le S0.out hb.size)
       replace hc := Base.below_step hc hb
       clear hb)
    | (go_at_call 8; with_reducible refine (HL.out _).mono ?_; rintro e w5 ⟨⟨L1, rfl, hL1⟩, hb⟩
       replace A := Lib.hid (A.out.below S0.out hb)
       replace S0 := Lib.hid (Nat.lt_of_lt_of_le S0.out hb.size)
       replace hc := Base.below_step hc hb
       clear hb))
  have hst : Hid (∀ j, j < 5 → (w7.alloc (.cells #[.string s, .string S, .string L1, .string ({ data := #[32] } ++ L2), .string (L3 ++ { data := #[9] })] 9)).cell? ⟨w7.heap.size, j, none⟩ = some (.string ([s, S, L1, ({ data := #[32] } : ByteArray) ++ L2, L3 ++ ({ data := #[9] } : ByteArray)][j]?.getD ByteArray.empty))) := Lib.hid fun j hj => strs_at w7 9 [s, S, L1, ({ data := #[32] } : ByteArray) ++ L2, L3 ++ ({ data := #[9] } : ByteArray)] j hj
  have hX : Hid (∀ j, j < 5 → ([s, S, L1, ({ data := #[32] } : ByteArray) ++ L2, L3 ++ ({ data := #[9] } : ByteArray)][j]?.getD ByteArray.empty).size ≤ 1000) := Lib.hid fun j hj => by
    rcases (by omega : j = 0 ∨ j = 1 ∨ j = 2 ∨ j = 3 ∨ j = 4) with rfl | rfl | rfl | rfl | rfl
    · show s.size ≤ 1000; omega
    · show S.size ≤ 1000; omega
    · show L1.size ≤ 1000; omega
    · show (({ data := #[32] } : ByteArray) ++ L2).size ≤ 1000
      rw [ByteArray.size_append, show (ByteArray.mk #[32]).size = 1 from rfl]; omega
    · show (L3 ++ ({ data := #[9] } : ByteArray)).size ≤ 1000
      rw [ByteArray.size_append, show (ByteArray.mk #[9]).size = 1 from rfl]; omega
  have HB2 := Lib.hid (hc.alloc hc.size (.cells #[.string s, .string S, .string L1, .string ({ data := #[32] } ++ L2), .string (L3 ++ { data := #[9] })] 9))
  have A2 := Lib.hid (A.out.below S0.out ((Below.refl _ _).alloc (Nat.le_refl _) (.cells #[.string s, .string S, .string L1, .string ({ data := #[32] } ++ L2), .string (L3 ++ { data := #[9] })] 9)))
  have hg : w7.heap.size < (w7.alloc (.cells #[.string s, .string S, .string L1, .string ({ data := #[32] } ++ L2), .string (L3 ++ { data := #[9] })] 9)).heap.size := by simp
  have S2 := Lib.hid (Nat.lt_trans S0.out hg)
  clear hc HL HBd HPr A S0 hv2 hv3
  generalize w7.alloc (.cells #[.string s, .string S, .string L1, .string ({ data := #[32] } ++ L2), .string (L3 ++ { data := #[9] })] 9) = W at *
  generalize w7.heap.size = g at *
  generalize w3.heap.size = g0 at *
  go_loopw [58] (fun i wq => ∃ q : Nat, q ≤ 5 ∧ i = .int .i64 q ∧ Hid (Below W.heap.size W wq)) (fun i _ => 5 - (intOf i).toNat)
  case atStart => exact ⟨0, Nat.zero_le _, rfl, Lib.hid (Below.refl _ _)⟩
  case round =>
    obtain ⟨q, hq, rfl, hbq⟩ := hrel
    rcases Nat.lt_or_ge q 5 with hlt | hge
    · have hcq := (hbq.out.cell (p := ⟨g, q, none⟩) hg).trans (hst.out q hlt)
      have hsx := hX.out q hlt
      have hq5 : (q : Int) < 5 := by omega
      generalize [s, S, L1, ({ data := #[32] } : ByteArray) ++ L2, L3 ++ ({ data := #[9] } : ByteArray)][q]?.getD ByteArray.empty = X at *
      go_upto_region 10 with (go_at_call 9; with_reducible refine (HO.out _ _ (Ints.three _ _ rfl _ _ _ _)).mono ?_; rintro e w8 ⟨rfl, hw⟩; rw [hw]; clear hw)
      have hsz9 : (wr.alloc (.cells #[.int .i64 3, .int .i64 7, .int .i64 6] 3)).heap.size = wr.heap.size + 1 := by simp
      have hps : Hid (∀ j, j < 4 → ((wr.alloc (.cells #[.int .i64 3, .int .i64 7, .int .i64 6] 3)).alloc (.cells #[.int .u32 0, .int .u32 (P1 : Nat), .int .u32 (P2 : Nat), .int .u32 (P3 : Nat)] 25)).cell? ⟨wr.heap.size + 1, j, none⟩ = some (.int .u32 (([0, P1, P2, P3][j]?.getD 0 : Nat) : Int))) := Lib.hid fun j hj => by
        have h := nats_at (wr.alloc (.cells #[.int .i64 3, .int .i64 7, .int .i64 6] 3)) 25 [0, P1, P2, P3] j hj
        rw [hsz9] at h; exact h
      have hgp : wr.heap.size + 1 < ((wr.alloc (.cells #[.int .i64 3, .int .i64 7, .int .i64 6] 3)).alloc (.cells #[.int .u32 0, .int .u32 (P1 : Nat), .int .u32 (P2 : Nat), .int .u32 (P3 : Nat)] 25)).heap.size := by simp
      have HBJ := Lib.hid ((hbq.out.alloc hbq.out.size (.cells #[.int .i64 3, .int .i64 7, .int .i64 6] 3)).alloc (by have := hbq.out.size; simp; omega) (.cells #[.int .u32 0, .int .u32 (P1 : Nat), .int .u32 (P2 : Nat), .int .u32 (P3 : Nat)] 25))
      clear hbq hcq hsz9
      generalize (wr.alloc (.cells #[.int .i64 3, .int .i64 7, .int .i64 6] 3)).alloc (.cells #[.int .u32 0, .int .u32 (P1 : Nat), .int .u32 (P2 : Nat), .int .u32 (P3 : Nat)] 25) = W10 at *
      generalize wr.heap.size + 1 = gp at *
      go_loopw [69] (fun i wq => ∃ r : Nat, r ≤ 4 ∧ i = .int .i64 r ∧ Hid (Below W10.heap.size W10 wq)) (fun i _ => 4 - (intOf i).toNat)
      case atStart => exact ⟨0, Nat.zero_le _, rfl, Lib.hid (Below.refl _ _)⟩
      case round =>
        obtain ⟨r, hr, rfl, hbr⟩ := hrel
        rcases Nat.lt_or_ge r 4 with hlr | hgr
        · have hcr := (hbr.out.cell (p := ⟨gp, r, none⟩) hgp).trans (hps.out r hlr)
          have hpr := HQ.out r hlr
          have hr4 : (r : Int) < 4 := by omega
          generalize [0, P1, P2, P3][r]?.getD 0 = Q at *
          have C1 := Lib.hid (fun w => parse_any X Q hpr y0 y1 y2 y3 y4 y5 y6 y7 ch old w (by omega))
          have C2 := Lib.hid (fun w => rrequest_any X Q hpr y0 y1 y2 y3 y4 y5 y6 y7 ch old w (by omega))
          obtain ⟨m, t, v, en, hR⟩ : ∃ m t v e, request (clOf Q) old X.data.toList = (m, t, v, e) := ⟨_, _, _, _, rfl⟩
          rw [hR] at C1 C2
          dsimp only [rv] at C1 C2
          clear hR
          obtain ⟨q0, q1, q2, q3, q4, q5, q6, q7, q8, q9⟩ := A2.out.below S2.out (Base.below_step HBJ.out hbr.out)
          go_wp2_with (first
            | (go_at_call 10; with_reducible refine (C1.out _).mono ?_; rintro e w11 ⟨rfl, hb⟩
               clear q0 q1 q2 q3 q4 q5 q6 q7 q8 q9
               replace hbr := Lib.hid (Base.below_step hbr.out hb)
               obtain ⟨q0, q1, q2, q3, q4, q5, q6, q7, q8, q9⟩ := A2.out.below S2.out (Base.below_step HBJ.out hbr.out)
               clear hb)
            | (go_at_call 11; with_reducible refine (C2.out _).mono ?_; rintro e w12 ⟨rfl, hb⟩
               replace hbr := Lib.hid (Base.below_step hbr.out hb)
               clear hb))
          go_roundw
          case rel => exact ⟨r + 1, by omega, by go_num, hbr⟩
          case measure => simp [intOf]; omega
        · have hr4 : ¬ (r : Int) < 4 := by omega
          have hbq2 := Lib.hid (Base.below_step HBJ.out hbr.out)
          clear hbr hps
          go_wp2_with fail
          go_roundw
          case rel => exact ⟨q + 1, by omega, by go_num, hbq2⟩
          case measure => simp [intOf]; omega
    · have hq5 : ¬ (q : Int) < 5 := by omega
      have hc := Base.below_step HB2.out hbq.out
      clear hbq hst hX A2 S2
      go_wp2_with (first
        | (go_at_call 7; with_reducible refine (HS.out _ hc).mono ?_; rintro e w5 ⟨rfl, hb⟩; replace hc := Base.below_step hc hb; clear hb)
        | (go_at_call 12; with_reducible refine (T4.out _).mono ?_; rintro e w6 ⟨rfl, hw⟩; rw [hw]; clear hw)
        | (go_at_call 13; with_reducible refine (T5.out _).mono ?_; rintro e w6 ⟨rfl, hw⟩; rw [hw]; clear hw))
      go_ret
      exact ⟨by first | rfl | simp, hc⟩
end code
end Go.Proofs.YtlignmlkoahbmaaGreatDoor.Rq
