/-
  Layer 10 (framing): the walk of FramingLengths: it returns true, and writes nothing that was there. (Printed by tools/gen_frmlens.py.)
-/
import Derived.Test.YtoakalklbpoknaaDoorFrmBoth
namespace Go.Proofs.YtoakalklbpoknaaDoor.Frm
open Go.RowKit Base Txt

/-- Which of three digits counts. -/
def lensV (one lc lf ll al : Bool) (rx rz : Nat) : Int × Int :=
  if (one && !lc) = true then (0, 400) else if ((lc && al) || lf) = true then ((rx : Int), 0) else if ll = true then ((rz : Int), 0) else (0, 400)
theorem lens_three : ∀ (rx ry rz : Fin 3) (lp lc lf ll : Bool), lengthV lp lc lf ll 9 [⟨#[UInt8.ofNat (48 + rx.val)]⟩, ⟨#[UInt8.ofNat (48 + ry.val)]⟩, ⟨#[UInt8.ofNat (48 + rz.val)]⟩] = lensV false lc lf ll (decide (rx.val = ry.val) && decide (ry.val = rz.val)) rx.val rz.val := by decide +kernel
theorem lens_one : ∀ (rx ry rz : Fin 3) (lp lc lf ll : Bool), lengthV lp lc lf ll 9 [⟨#[UInt8.ofNat (48 + rx.val), 32, 44, 9, UInt8.ofNat (48 + ry.val), 44, 32, UInt8.ofNat (48 + rz.val)]⟩] = lensV true lc lf ll (decide (rx.val = ry.val) && decide (ry.val = rz.val)) rx.val rz.val := by decide +kernel
theorem of_nat (x : UInt8) (r : Nat) (h : x.toNat = 48 + r) : x = UInt8.ofNat (48 + r) := by rw [← h]; exact (UInt8.ofNat_toNat).symm
theorem digit3 (n : Nat) (hn : n < 256) : ∃ (r : Nat) (x : UInt8), r < 3 ∧ Int.tmod (n : Int) 3 = (r : Int) ∧ x.toNat = 48 + r ∧ IntKind.u8.wrap (48 + (r : Int)) = (x.toNat : Int) ∧ wrap64 (r : Int) = (r : Int) := by
  refine ⟨n % 3, UInt8.ofNat (48 + n % 3), by omega, by rw [Int.tmod_eq_emod_of_nonneg (by omega)]; omega, by rw [UInt8.toNat_ofNat']; omega, ?_, by unfold wrap64; omega⟩
  rw [IntKind.wrap_u8, UInt8.toNat_ofNat']; omega

section code
set_option maxHeartbeats 16000000
set_option maxRecDepth 100000
attribute [local go_sem] Base.some_undef
theorem framingLengths_any (a xn yn zn : Nat) (one : Bool) (w : World) (ha : a < 4294967296) (hxn : xn < 256) (hyn : yn < 256) (hzn : zn < 256) :
    Calls Tryd.prog 7 #[.int .u32 a, .int .u8 xn, .int .u8 yn, .int .u8 zn, .bool one] w fun e w' => e = .returned (.bool true) ∧ Below w.heap.size w w' := by
  obtain ⟨conv, hcv1, hcv2⟩ := conv_exists
  obtain ⟨rx, X, hrx, mx, hX, wx, vx⟩ := digit3 xn hxn
  obtain ⟨ry, Y, hry, my, hY, wy, vy⟩ := digit3 yn hyn
  obtain ⟨rz, Z, hrz, mz, hZ, wz, vz⟩ := digit3 zn hzn
  have HX := Lib.hid (of_nat X rx hX)
  have HY := Lib.hid (of_nat Y ry hY)
  have HZ := Lib.hid (of_nat Z rz hZ)
  have V1 := Lib.hid vx; have V3 := Lib.hid vz
  have hm := Seat.mask30 a ha
  obtain ⟨P, hpp⟩ : ∃ p, a % 1073741824 = p := ⟨_, rfl⟩
  have hp : P < 4294967296 := by omega
  rw [hpp] at hm
  have HP := Lib.hid hp
  have R1 := Lib.hid hrx; have R2 := Lib.hid hry; have R3 := Lib.hid hrz
  clear hX hY hZ hxn hyn hzn vx vy vz hpp hp ha hrx hry hrz
  go_enter Tryd.func7, Tryd.ntmps7
  go_upto_region 4 with (go_at_call 8; (with_reducible refine (known_any _).mono ?_); rintro e w1 ⟨rfl, hb⟩
                         have HB1 := Lib.hid hb
                         clear hb)
  go_cut [12, 13, 14] from 24 to 38 (fun p q r wx => p = .string ⟨#[X]⟩ ∧ q = .string ⟨#[Y]⟩ ∧ r = .string ⟨#[Z]⟩ ∧ Hid (Below w1.heap.size w1 wx))
  case first =>
    go_region
    all_goals
      go_wp2_with fail
      go_meet
      case rel => exact ⟨rfl, rfl, rfl, Lib.hid (by
        repeat (first | exact Below.refl _ _ | with_reducible refine Base.below_drewN ?_ _ | (refine Below.drew ?_) | (refine Below.alloc ?_ (by simp <;> omega) _) | (refine Below.setCell ?_ (by simp <;> omega) _)))⟩
  case rest =>
    obtain ⟨rfl, rfl, rfl, HBc⟩ := hcut
    have HQB := Lib.hid (Base.below_step HB1.out HBc.out)
    have hzX : (ByteArray.mk #[X]).size = 1 := rfl
    have hzY : (ByteArray.mk #[Y]).size = 1 := rfl
    have hzZ : (ByteArray.mk #[Z]).size = 1 := rfl
    have HS := Lib.hid (show ByteArray.mk #[X] ++ ⟨#[32, 44, 9]⟩ ++ ⟨#[Y]⟩ ++ ⟨#[44, 32]⟩ ++ ⟨#[Z]⟩ = ⟨#[X, 32, 44, 9, Y, 44, 32, Z]⟩ from ba_ext (by simp))
    have KA := Lib.hid (fun (U : World) (gg : Nat) (hg : gg = U.heap.size) => length_any P HP.out 9 (by decide) (some ⟨gg, 0, none⟩) 3 3 [⟨#[X]⟩, ⟨#[Y]⟩, ⟨#[Z]⟩] (U.alloc (.cells #[.string ⟨#[X]⟩, .string ⟨#[Y]⟩, .string ⟨#[Z]⟩] 9)) (Strs.made U gg hg 9 [⟨#[X]⟩, ⟨#[Y]⟩, ⟨#[Z]⟩] 3 rfl) (Nat.le_of_ble_eq_true rfl))
    have KB := Lib.hid (fun (U : World) (gg : Nat) (hg : gg = U.heap.size) => by
      have := length_any P HP.out 9 (by decide) (some ⟨gg, 0, none⟩) 1 1 [⟨#[X, 32, 44, 9, Y, 44, 32, Z]⟩] (U.alloc (.cells #[.string ⟨#[X, 32, 44, 9, Y, 44, 32, Z]⟩] 9)) (Strs.one U gg hg 9 _) (Nat.le_of_ble_eq_true rfl)
      rw [← HS.out] at this
      exact this)
    have HVA := Lib.hid (show lengthV (Qk.has P 23) (Qk.has P 24) (Qk.has P 25) (Qk.has P 26) 9 [⟨#[X]⟩, ⟨#[Y]⟩, ⟨#[Z]⟩] = lensV false (Qk.has P 24) (Qk.has P 25) (Qk.has P 26) (decide (rx = ry) && decide (ry = rz)) rx rz by
      rw [HX.out, HY.out, HZ.out]; exact lens_three ⟨rx, R1.out⟩ ⟨ry, R2.out⟩ ⟨rz, R3.out⟩ _ _ _ _)
    have HVB := Lib.hid (show lengthV (Qk.has P 23) (Qk.has P 24) (Qk.has P 25) (Qk.has P 26) 9 [ByteArray.mk #[X] ++ ⟨#[32, 44, 9]⟩ ++ ⟨#[Y]⟩ ++ ⟨#[44, 32]⟩ ++ ⟨#[Z]⟩] = lensV true (Qk.has P 24) (Qk.has P 25) (Qk.has P 26) (decide (rx = ry) && decide (ry = rz)) rx rz by
      rw [HS.out, HX.out, HY.out, HZ.out]; exact lens_one ⟨rx, R1.out⟩ ⟨ry, R2.out⟩ ⟨rz, R3.out⟩ _ _ _ _)
    rw [HVA.out] at KA
    rw [HVB.out] at KB
    have s24 := shr_bit P 24 HP.out
    have s25 := shr_bit P 25 HP.out
    have s26 := shr_bit P 26 HP.out
    rw [show (((2 ^ 24 : Nat)) : Int) = 16777216 from rfl] at s24
    rw [show (((2 ^ 25 : Nat)) : Int) = 33554432 from rfl] at s25
    rw [show (((2 ^ 26 : Nat)) : Int) = 67108864 from rfl] at s26
    rw [show Qk.has P 24 = P.testBit 24 from rfl, show Qk.has P 25 = P.testBit 25 from rfl, show Qk.has P 26 = P.testBit 26 from rfl] at KA KB
    clear HVA HVB HS HX HY HZ HB1 HBc wx wy wz
    have HA1 := Lib.hid (fun o => HQB.out.alloc HQB.out.size o)
    have HA2 : Hid (∀ o o', Below w.heap.size w ((wc.alloc o).alloc o')) := Lib.hid (fun o o' => (HQB.out.alloc HQB.out.size o).alloc (by have := HQB.out.size; simp; omega) o')
    generalize P.testBit 24 = lc at *
    generalize P.testBit 25 = lf at *
    generalize P.testBit 26 = ll at *
    clear HP
    have hcases : (rx = ry ∧ ry = rz) ∨ (rx = ry ∧ ¬ ry = rz) ∨ ¬ rx = ry := by
      by_cases h1 : rx = ry
      · by_cases h2 : ry = rz
        · exact .inl ⟨h1, h2⟩
        · exact .inr (.inl ⟨h1, h2⟩)
      · exact .inr (.inr h1)
    have hc2 : (one = true ∧ lc = false) ∨ (lc = true ∧ (rx = ry ∧ ry = rz)) ∨ ((one && !lc) = false ∧ (lc && (decide (rx = ry) && decide (ry = rz))) = false ∧ lf = true) ∨ ((one && !lc) = false ∧ (lc && (decide (rx = ry) && decide (ry = rz))) = false ∧ lf = false) := by
      by_cases h : rx = ry ∧ ry = rz
      · cases one <;> cases lc <;> cases lf <;> simp [h.1, h.2]
      · have : (decide (rx = ry) && decide (ry = rz)) = false := by
          rw [Bool.and_eq_false_iff, decide_eq_false_iff_not, decide_eq_false_iff_not]
          by_cases h1 : rx = ry
          · exact .inr fun h2 => h ⟨h1, h2⟩
          · exact .inl h1
        rw [this]
        cases one <;> cases lc <;> cases lf <;> simp
    rcases hc2 with ⟨rfl, rfl⟩ | ⟨rfl, h0⟩ | ⟨h0, h1, rfl⟩ | ⟨h0, h1, rfl⟩
    -- one text, no commas: none counts
    · clear KA
      have hv : lensV true false lf ll (decide (rx = ry) && decide (ry = rz)) rx rz = (0, 400) := rfl
      rw [hv] at KB
      first | rw [if_pos rfl] at s24 | rw [if_neg Bool.false_ne_true] at s24 | skip
      clear hv
      rcases hcases with ⟨h0, h1⟩ | ⟨h0, h1⟩ | h0
      all_goals
        first
          | (have e1 : ((rx : Int) == (ry : Int)) = false := beq_eq_false_iff_ne.2 (by omega))
          | (have e1 : ((rx : Int) == (ry : Int)) = true := beq_iff_eq.2 (by omega))
        first
          | (have e2 : ((ry : Int) == (rz : Int)) = false := beq_eq_false_iff_ne.2 (by omega))
          | (have e2 : ((ry : Int) == (rz : Int)) = true := beq_iff_eq.2 (by omega))
          | skip
        clear h0
        try clear h1
        have vx := V1.out
        have vz := V3.out
        go_wp2_with (first
          | (go_at_call 22; (with_reducible refine (KB.out _ _ ?_).mono ?_); (· simp); rintro e w8 ⟨rfl, hb⟩
             have HB8 := Lib.hid (Base.below_step (HA2.out _ _) hb)
             clear hb)
          | (go_at_call 22; (with_reducible refine (KA.out _ _ ?_).mono ?_); (· simp); rintro e w8 ⟨rfl, hb⟩
             have HB8 := Lib.hid (Base.below_step (HA1.out _) hb)
             clear hb))
        go_ret
        exact ⟨rfl, HB8.out⟩
    -- commas, all alike: the first
    · have hv : ∀ o, lensV o true lf ll (decide (rx = ry) && decide (ry = rz)) rx rz = ((rx : Int), 0) := fun o => by rw [decide_eq_true h0.1, decide_eq_true h0.2]; cases o <;> rfl
      rw [hv] at KA KB
      first | rw [if_pos rfl] at s24 | rw [if_neg Bool.false_ne_true] at s24 | skip
      obtain ⟨rfl, rfl⟩ := h0
      clear hv hcases
      cases one
      all_goals
        have vx := V1.out
        have vz := V3.out
        go_wp2_with (first
          | (go_at_call 22; (with_reducible refine (KB.out _ _ ?_).mono ?_); (· simp); rintro e w8 ⟨rfl, hb⟩
             have HB8 := Lib.hid (Base.below_step (HA2.out _ _) hb)
             clear hb)
          | (go_at_call 22; (with_reducible refine (KA.out _ _ ?_).mono ?_); (· simp); rintro e w8 ⟨rfl, hb⟩
             have HB8 := Lib.hid (Base.below_step (HA1.out _) hb)
             clear hb))
        go_ret
        exact ⟨rfl, HB8.out⟩
    · have hv : lensV one lc true ll (decide (rx = ry) && decide (ry = rz)) rx rz = ((rx : Int), 0) := by
        unfold lensV
        rw [h0, h1]; rfl
      have hone : one = false ∨ (one = true ∧ lc = true) := by
        cases one
        · exact .inl rfl
        · right
          cases lc
          · cases h0
          · exact ⟨rfl, rfl⟩
      have hlc : lc = false ∨ (lc = true ∧ ¬ (rx = ry ∧ ry = rz)) := by
        cases lc
        · exact .inl rfl
        · right
          refine ⟨rfl, fun h => ?_⟩
          rw [decide_eq_true h.1, decide_eq_true h.2] at h1
          cases h1
      have KA2 := Lib.hid (fun (h : one = false) => by
        have := KA.out
        have hv2 := hv
        rw [h] at hv2
        rw [hv2] at this
        exact this)
      have KB2 := Lib.hid (fun (h : one = true) => by
        have := KB.out
        have hv2 := hv
        rw [h] at hv2
        rw [hv2] at this
        exact this)
      clear KA KB hv h0 h1
      rcases hone with rfl | ⟨rfl, rfl⟩
      · have KA := Lib.hid (KA2.out rfl)
        clear KA2 KB2
        rcases hlc with rfl | ⟨rfl, hal⟩
        all_goals
          try (rcases hcases with h | h | h; (exact absurd h hal))
          skip
          all_goals
            try rcases hcases with h | h | h
            all_goals
              first | rw [if_pos rfl] at s24 | rw [if_neg Bool.false_ne_true] at s24 | skip
              first | rw [if_pos rfl] at s25 | rw [if_neg Bool.false_ne_true] at s25 | skip
              first | rw [if_pos rfl] at s26 | rw [if_neg Bool.false_ne_true] at s26 | skip
              first | rw [if_pos rfl] at KA | rw [if_neg Bool.false_ne_true] at KA | skip
              first
                | (have e1 : ((rx : Int) == (ry : Int)) = false := beq_eq_false_iff_ne.2 (by omega))
                | (have e1 : ((rx : Int) == (ry : Int)) = true := beq_iff_eq.2 (by omega))
              first
                | (have e2 : ((ry : Int) == (rz : Int)) = false := beq_eq_false_iff_ne.2 (by omega))
                | (have e2 : ((ry : Int) == (rz : Int)) = true := beq_iff_eq.2 (by omega))
                | skip
              clear h
              try clear hal
              have vx := V1.out
              have vz := V3.out
              go_wp2_with (first
                | (go_at_call 22; (with_reducible refine (KB.out _ _ ?_).mono ?_); (· simp); rintro e w8 ⟨rfl, hb⟩
                   have HB8 := Lib.hid (Base.below_step (HA2.out _ _) hb)
                   clear hb)
                | (go_at_call 22; (with_reducible refine (KA.out _ _ ?_).mono ?_); (· simp); rintro e w8 ⟨rfl, hb⟩
                   have HB8 := Lib.hid (Base.below_step (HA1.out _) hb)
                   clear hb))
              go_ret
              exact ⟨rfl, HB8.out⟩
      · have KB := Lib.hid (KB2.out rfl)
        clear KA2 KB2
        rcases hlc with h | ⟨_, hal⟩
        · cases h
        rcases hcases with h | h | h
        · exact absurd h hal
        all_goals
          skip
          all_goals
            first | rw [if_pos rfl] at s24 | rw [if_neg Bool.false_ne_true] at s24 | skip
            first | rw [if_pos rfl] at s25 | rw [if_neg Bool.false_ne_true] at s25 | skip
            first | rw [if_pos rfl] at s26 | rw [if_neg Bool.false_ne_true] at s26 | skip
            first | rw [if_pos rfl] at KB | rw [if_neg Bool.false_ne_true] at KB | skip
            first
              | (have e1 : ((rx : Int) == (ry : Int)) = false := beq_eq_false_iff_ne.2 (by omega))
              | (have e1 : ((rx : Int) == (ry : Int)) = true := beq_iff_eq.2 (by omega))
            first
              | (have e2 : ((ry : Int) == (rz : Int)) = false := beq_eq_false_iff_ne.2 (by omega))
              | (have e2 : ((ry : Int) == (rz : Int)) = true := beq_iff_eq.2 (by omega))
              | skip
            clear h hal
            have vx := V1.out
            have vz := V3.out
            go_wp2_with (first
              | (go_at_call 22; (with_reducible refine (KB.out _ _ ?_).mono ?_); (· simp); rintro e w8 ⟨rfl, hb⟩
                 have HB8 := Lib.hid (Base.below_step (HA2.out _ _) hb)
                 clear hb)
              | (go_at_call 22; (with_reducible refine (KA.out _ _ ?_).mono ?_); (· simp); rintro e w8 ⟨rfl, hb⟩
                 have HB8 := Lib.hid (Base.below_step (HA1.out _) hb)
                 clear hb))
            go_ret
            exact ⟨rfl, HB8.out⟩
    · have hv : lensV one lc false ll (decide (rx = ry) && decide (ry = rz)) rx rz = if ll = true then ((rz : Int), 0) else (0, 400) := by
        unfold lensV
        rw [h0, h1]; rfl
      have hone : one = false ∨ (one = true ∧ lc = true) := by
        cases one
        · exact .inl rfl
        · right
          cases lc
          · cases h0
          · exact ⟨rfl, rfl⟩
      have hlc : lc = false ∨ (lc = true ∧ ¬ (rx = ry ∧ ry = rz)) := by
        cases lc
        · exact .inl rfl
        · right
          refine ⟨rfl, fun h => ?_⟩
          rw [decide_eq_true h.1, decide_eq_true h.2] at h1
          cases h1
      have KA2 := Lib.hid (fun (h : one = false) => by
        have := KA.out
        have hv2 := hv
        rw [h] at hv2
        rw [hv2] at this
        exact this)
      have KB2 := Lib.hid (fun (h : one = true) => by
        have := KB.out
        have hv2 := hv
        rw [h] at hv2
        rw [hv2] at this
        exact this)
      clear KA KB hv h0 h1
      rcases hone with rfl | ⟨rfl, rfl⟩
      · have KA := Lib.hid (KA2.out rfl)
        clear KA2 KB2
        rcases hlc with rfl | ⟨rfl, hal⟩
        all_goals
          try (rcases hcases with h | h | h; (exact absurd h hal))
          all_goals cases ll
          all_goals
            try rcases hcases with h | h | h
            all_goals
              first | rw [if_pos rfl] at s24 | rw [if_neg Bool.false_ne_true] at s24 | skip
              first | rw [if_pos rfl] at s25 | rw [if_neg Bool.false_ne_true] at s25 | skip
              first | rw [if_pos rfl] at s26 | rw [if_neg Bool.false_ne_true] at s26 | skip
              first | rw [if_pos rfl] at KA | rw [if_neg Bool.false_ne_true] at KA | skip
              first
                | (have e1 : ((rx : Int) == (ry : Int)) = false := beq_eq_false_iff_ne.2 (by omega))
                | (have e1 : ((rx : Int) == (ry : Int)) = true := beq_iff_eq.2 (by omega))
              first
                | (have e2 : ((ry : Int) == (rz : Int)) = false := beq_eq_false_iff_ne.2 (by omega))
                | (have e2 : ((ry : Int) == (rz : Int)) = true := beq_iff_eq.2 (by omega))
                | skip
              clear h
              try clear hal
              have vx := V1.out
              have vz := V3.out
              go_wp2_with (first
                | (go_at_call 22; (with_reducible refine (KB.out _ _ ?_).mono ?_); (· simp); rintro e w8 ⟨rfl, hb⟩
                   have HB8 := Lib.hid (Base.below_step (HA2.out _ _) hb)
                   clear hb)
                | (go_at_call 22; (with_reducible refine (KA.out _ _ ?_).mono ?_); (· simp); rintro e w8 ⟨rfl, hb⟩
                   have HB8 := Lib.hid (Base.below_step (HA1.out _) hb)
                   clear hb))
              go_ret
              exact ⟨rfl, HB8.out⟩
      · have KB := Lib.hid (KB2.out rfl)
        clear KA2 KB2
        rcases hlc with h | ⟨_, hal⟩
        · cases h
        rcases hcases with h | h | h
        · exact absurd h hal
        all_goals
          cases ll
          all_goals
            first | rw [if_pos rfl] at s24 | rw [if_neg Bool.false_ne_true] at s24 | skip
            first | rw [if_pos rfl] at s25 | rw [if_neg Bool.false_ne_true] at s25 | skip
            first | rw [if_pos rfl] at s26 | rw [if_neg Bool.false_ne_true] at s26 | skip
            first | rw [if_pos rfl] at KB | rw [if_neg Bool.false_ne_true] at KB | skip
            first
              | (have e1 : ((rx : Int) == (ry : Int)) = false := beq_eq_false_iff_ne.2 (by omega))
              | (have e1 : ((rx : Int) == (ry : Int)) = true := beq_iff_eq.2 (by omega))
            first
              | (have e2 : ((ry : Int) == (rz : Int)) = false := beq_eq_false_iff_ne.2 (by omega))
              | (have e2 : ((ry : Int) == (rz : Int)) = true := beq_iff_eq.2 (by omega))
              | skip
            clear h hal
            have vx := V1.out
            have vz := V3.out
            go_wp2_with (first
              | (go_at_call 22; (with_reducible refine (KB.out _ _ ?_).mono ?_); (· simp); rintro e w8 ⟨rfl, hb⟩
                 have HB8 := Lib.hid (Base.below_step (HA2.out _ _) hb)
                 clear hb)
              | (go_at_call 22; (with_reducible refine (KA.out _ _ ?_).mono ?_); (· simp); rintro e w8 ⟨rfl, hb⟩
                 have HB8 := Lib.hid (Base.below_step (HA1.out _) hb)
                 clear hb))
            go_ret
            exact ⟨rfl, HB8.out⟩
end code
end Go.Proofs.YtoakalklbpoknaaDoor.Frm
