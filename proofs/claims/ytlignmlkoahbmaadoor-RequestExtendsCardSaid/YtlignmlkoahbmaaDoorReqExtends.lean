/-
  Layer 8 (request): the walk of RequestExtends: it returns true, and writes nothing that was there.
-/
import Derived.Test.YtlignmlkoahbmaaDoorReqLaws
import Derived.Test.YtlignmlkoahbmaaDoorReqKnown
import Derived.Test.YtlignmlkoahbmaaDoorReqSome
import Derived.Test.YtlignmlkoahbmaaDoorReqSeat
import Derived.Test.YtlignmlkoahbmaaDoorReqMethods
import Derived.Test.YtlignmlkoahbmaaDoorSeat
namespace Go.Proofs.YtlignmlkoahbmaaDoor.Rq
open Go.RowKit Base Txt

/-- Bounds of the seat, each cell by name. -/
theorem seatB_form (k : Nat) : ∃ (y0 y1 y2 y3 y4 y5 y6 y7 : Int) (c d : Bool), Seat.seatB k = Bnd.bnd y0 y1 y2 y3 y4 y5 y6 y7 c d := ⟨_, _, _, _, _, _, _, _, _, _, rfl⟩
/-- What either reading answers of a line, as one. -/
structure Twin (x : ByteArray) (p : Nat) (y0 y1 y2 y3 y4 y5 y6 y7 : Int) (ch old : Bool) (m t : ByteArray) (k e : Nat) : Prop where
  one : ∀ w, Calls Tryd.prog 10 #[.string x, .int .u32 0, Bnd.bnd y0 y1 y2 y3 y4 y5 y6 y7 ch old] w fun r w' => r = .returned (.tuple #[.string m, .string t, .int .i64 (k : Nat), .int .i64 (e : Nat)]) ∧ Below w.heap.size w w'
  two : e = 0 → ∀ w, Calls Tryd.prog 10 #[.string x, .int .u32 (p : Nat), Bnd.bnd y0 y1 y2 y3 y4 y5 y6 y7 ch old] w fun r w' => r = .returned (.tuple #[.string m, .string t, .int .i64 (k : Nat), .int .i64 (e : Nat)]) ∧ Below w.heap.size w w'
  put : e = 0 → k = 1 → lineOf m t = x
  sm : m.size ≤ x.size
  st : t.size ≤ x.size
theorem twin_of (x : ByteArray) (p : Nat) (hp : p < 4294967296) (y0 y1 y2 y3 y4 y5 y6 y7 : Int) (ch old : Bool) (hx : x.size ≤ 1000) : ∃ m t k e, Twin x p y0 y1 y2 y3 y4 y5 y6 y7 ch old m t k e := by
  have h0 := fun w => parse_any x 0 (by decide) y0 y1 y2 y3 y4 y5 y6 y7 ch old w (by omega)
  have h1 := fun w => parse_any x p hp y0 y1 y2 y3 y4 y5 y6 y7 ch old w (by omega)
  obtain ⟨m, t, k, e, hR⟩ : ∃ m t k e, request (clOf 0) old x.data.toList = (m, t, k, e) := ⟨_, _, _, _, rfl⟩
  have hle := request_le (clOf 0) old x.data.toList
  rw [hR, len] at hle
  rw [hR] at h0
  refine ⟨ba m, ba t, k, e, ⟨h0, fun he => ?_, fun he hk => ?_, by rw [ba_size]; exact hle.1, by rw [ba_size]; exact hle.2⟩⟩
  · subst he
    rw [clOf_zero] at hR
    rw [(extends_all hR).1 (clOf p)] at h1
    exact h1
  · subst he
    rw [clOf_zero] at hR
    have h2 := (extends_all hR).2 hk
    apply ba_ext
    rw [lineOf_list, h2]
    rfl

section code
set_option maxHeartbeats 2000000
attribute [local go_sem] Base.some_undef
set_option maxRecDepth 10000 in
theorem requestExtends_any (la : Option Addr) (n cap : Nat) (bs : List UInt8) (a k x y : Nat) (w : World) (hv : Nums .u8 w la n (nums bs)) (hn : n ≤ maxLen) (ha : a < 4294967296) (hk : k < 256) (hy : y < 256) :
    Calls Tryd.prog 3 #[.slice la n cap, .int .u32 a, .int .u8 k, .int .u8 x, .int .u8 y] w fun e w' => e = .returned (.bool true) ∧ Below w.heap.size w w' := by
  unfold maxLen at hn
  have HV := Lib.hid hv
  have hl : bs.length = n := by have := hv.1; rwa [nums, List.length_map] at this
  clear hv
  rcases Nat.lt_or_ge 12 n with c1 | c1
  · go_enter Tryd.func3, Tryd.ntmps3
    go_wp2_with (go_at_call 6; with_reducible refine (known_any _).mono ?_; rintro e w1 ⟨rfl, hb⟩)
    go_ret
    exact ⟨rfl, hb⟩
  have hsl := someL_le bs
  have hsz : (ba (someL bs)).size ≤ 96 := by rw [ba_size]; omega
  clear hl hsl
  have HS := Lib.hid (fun w' hb' => some_any la n cap bs w' (HV.out.below (w' := w') hb') (by omega))
  generalize ba (someL bs) = S at *
  have HBd := Lib.hid (fun w => Seat.bounds_any k hk w)
  obtain ⟨y0, y1, y2, y3, y4, y5, y6, y7, ch, old, hF⟩ := seatB_form k
  rw [hF] at HBd
  clear hF
  have hxm : (x : Int) % 200 = ((x % 200 : Nat) : Int) := by omega
  have hx2 : x % 200 < 256 := by omega
  have HL := Lib.hid (fun w => line_any (x % 200) y hx2 hy w)
  obtain ⟨z, hz⟩ : ∃ z, x % 200 = z := ⟨_, rfl⟩
  rw [hz] at HL hxm
  clear hz hx2
  have hm := Seat.mask30 a ha
  have hp : a % 1073741824 < 4294967296 := by omega
  obtain ⟨p, hpp⟩ : ∃ p, a % 1073741824 = p := ⟨_, rfl⟩
  rw [hpp] at hm hp
  clear hpp ha hk hy
  go_enter Tryd.func3, Tryd.ntmps3
  go_upto_region 7 with (first
    | (go_at_call 6; with_reducible refine (known_any _).mono ?_; rintro e w1 ⟨rfl, hb⟩; have hc := hb; clear hb)
    | (go_at_call 7; with_reducible refine (HBd.out _).mono ?_; rintro e w2 ⟨rfl, hb⟩
       have A := Lib.hid (Bnd.At.new w2 26 y0 y1 y2 y3 y4 y5 y6 y7 ch old)
       have S0 := Lib.hid (show w2.heap.size < (w2.alloc (.cells #[.int .i64 y0, .int .i64 y1, .int .i64 y2, .int .i64 y3, .int .i64 y4, .int .i64 y5, .int .i64 y6, .int .i64 y7, .bool ch, .bool old] 26)).heap.size by simp)
       replace hc := (Base.below_step hc hb).alloc (Base.below_step hc hb).size (.cells #[.int .i64 y0, .int .i64 y1, .int .i64 y2, .int .i64 y3, .int .i64 y4, .int .i64 y5, .int .i64 y6, .int .i64 y7, .bool ch, .bool old] 26)
       clear hb)
    | (go_at_call 8; with_reducible refine (HS.out _ hc).mono ?_; rintro e w3 ⟨rfl, hb⟩
       replace A := Lib.hid (A.out.below S0.out hb)
       replace S0 := Lib.hid (Nat.lt_of_lt_of_le S0.out hb.size)
       replace hc := Base.below_step hc hb
       clear hb)
    | (go_at_call 9; with_reducible refine (HL.out _).mono ?_; rintro e w4 ⟨⟨L, rfl, hLs⟩, hb⟩
       replace A := Lib.hid (A.out.below S0.out hb)
       replace S0 := Lib.hid (Nat.lt_of_lt_of_le S0.out hb.size)
       replace hc := Base.below_step hc hb
       clear hb))
  have hst : Hid (∀ k, k < 2 → (w4.alloc (.cells #[.string S, .string L] 9)).cell? ⟨w4.heap.size, k, none⟩ = some (.string ([S, L][k]?.getD ByteArray.empty))) := Lib.hid fun k hk => strs_at w4 9 [S, L] k hk
  have hX : Hid (∀ j, j < 2 → ([S, L][j]?.getD ByteArray.empty).size ≤ 1000) := Lib.hid fun j hj => by
    rcases (by omega : j = 0 ∨ j = 1) with rfl | rfl
    · show S.size ≤ 1000; omega
    · show L.size ≤ 1000; omega
  have HB2 := Lib.hid (hc.alloc hc.size (.cells #[.string S, .string L] 9))
  have A2 := Lib.hid (A.out.below S0.out ((Below.refl _ _).alloc (Nat.le_refl _) (.cells #[.string S, .string L] 9)))
  have hg : w4.heap.size < (w4.alloc (.cells #[.string S, .string L] 9)).heap.size := by simp
  have S2 := Lib.hid (Nat.lt_trans S0.out hg)
  clear hc HS HL HBd A S0 HV
  generalize w4.alloc (.cells #[.string S, .string L] 9) = W at *
  generalize w4.heap.size = g at *
  generalize w2.heap.size = g0 at *
  go_loopw [37] (fun i wq => ∃ q : Nat, q ≤ 2 ∧ i = .int .i64 q ∧ Hid (Below W.heap.size W wq)) (fun i _ => 2 - (intOf i).toNat)
  case atStart => exact ⟨0, Nat.zero_le _, rfl, Lib.hid (Below.refl _ _)⟩
  case round =>
    obtain ⟨q, hq, rfl, hbq⟩ := hrel
    rcases Nat.lt_or_ge q 2 with hlt | hge
    · have hcq := (hbq.out.cell (p := ⟨g, q, none⟩) hg).trans (hst.out q hlt)
      have hsx := hX.out q hlt
      have hq5 : (q : Int) < 2 := by omega
      generalize [S, L][q]?.getD ByteArray.empty = X at *
      obtain ⟨m, t, v, en, HT⟩ := twin_of X p hp y0 y1 y2 y3 y4 y5 y6 y7 ch old hsx
      have hms := HT.sm; have hts := HT.st
      have T1 := Lib.hid HT.one
      have T2 := Lib.hid HT.two
      have T3 := Lib.hid HT.put
      have T4 := Lib.hid (fun w => put_any m t w (by omega) (by omega))
      clear HT
      obtain ⟨q0, q1, q2, q3, q4, q5, q6, q7, q8, q9⟩ := A2.out.below S2.out hbq.out
      by_cases h0 : en = 0
      · subst h0
        replace T2 := Lib.hid (T2.out rfl)
        by_cases h1 : v = 1
        · subst h1
          have hput := T3.out rfl rfl
          rw [hput] at T4
          clear hput T3
          go_wp2_with (first
            | (go_at_call 10; with_reducible refine (T1.out _).mono ?_; rintro e w5 ⟨rfl, hb⟩
               clear q0 q1 q2 q3 q4 q5 q6 q7 q8 q9
               replace hbq := Lib.hid (Base.below_step hbq.out hb)
               obtain ⟨q0, q1, q2, q3, q4, q5, q6, q7, q8, q9⟩ := A2.out.below S2.out hbq.out
               clear hb)
            | (go_at_call 10; with_reducible refine (T2.out _).mono ?_; rintro e w6 ⟨rfl, hb⟩
               replace hbq := Lib.hid (Base.below_step hbq.out hb)
               clear hb)
            | (go_at_call 11; with_reducible refine (T4.out _).mono ?_; rintro e w7 ⟨rfl, hw⟩; rw [hw]; clear hw))
          go_roundw
          case rel => exact ⟨q + 1, by omega, by go_num, hbq⟩
          case measure => simp [intOf]; omega
        · have n1 : ¬ (v : Int) = 1 := by omega
          clear T3 T4 h1
          go_wp2_with (first
            | (go_at_call 10; with_reducible refine (T1.out _).mono ?_; rintro e w5 ⟨rfl, hb⟩
               clear q0 q1 q2 q3 q4 q5 q6 q7 q8 q9
               replace hbq := Lib.hid (Base.below_step hbq.out hb)
               obtain ⟨q0, q1, q2, q3, q4, q5, q6, q7, q8, q9⟩ := A2.out.below S2.out hbq.out
               clear hb)
            | (go_at_call 10; with_reducible refine (T2.out _).mono ?_; rintro e w6 ⟨rfl, hb⟩
               replace hbq := Lib.hid (Base.below_step hbq.out hb)
               clear hb))
          go_roundw
          case rel => exact ⟨q + 1, by omega, by go_num, hbq⟩
          case measure => simp [intOf]; omega
      · have n0 : ¬ (en : Int) = 0 := by omega
        clear T2 T3 T4 h0
        go_wp2_with (go_at_call 10; with_reducible refine (T1.out _).mono ?_; rintro e w5 ⟨rfl, hb⟩
                     replace hbq := Lib.hid (Base.below_step hbq.out hb)
                     clear hb)
        go_roundw
        case rel => exact ⟨q + 1, by omega, by go_num, hbq⟩
        case measure => simp [intOf]; omega
    · have hq5 : ¬ (q : Int) < 2 := by omega
      have hc := Base.below_step HB2.out hbq.out
      clear hbq hst hX A2 S2
      go_wp2_with fail
      go_ret
      exact ⟨rfl, hc⟩
end code
end Go.Proofs.YtlignmlkoahbmaaDoor.Rq
