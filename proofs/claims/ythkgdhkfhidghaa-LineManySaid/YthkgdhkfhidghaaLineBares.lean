/-
  Layer 6 (line): the walk of LineBares: it returns true, and writes nothing that was there.
-/
import Derived.Test.YthkgdhkfhidghaaLineKnown
import Derived.Test.YthkgdhkfhidghaaTextBase
namespace Go.Proofs.Ythkgdhkfhidghaa.Ln
open Go.RowKit Base

/-- A reader that has taken the bytes u, none of which is an end. -/
def M.at (lf cr : Bool) (most : Nat) (u : List UInt8) : M := ⟨lf, cr, most, u, 0, false⟩
theorem at_ok (lf cr : Bool) (most : Nat) (u : List UInt8) (h : most ≤ 4096) (hu : u.length ≤ most) : (M.at lf cr most u).Ok := ⟨.inl rfl, h, hu, fun h => by cases h⟩
theorem at_step (lf cr : Bool) (most : Nat) (u : List UInt8) (c : UInt8) (h10 : ¬ c = 10) (h13 : ¬ c = 13) (hu : u.length < most) : (M.at lf cr most u).byte c = M.at lf cr most (u ++ [c]) := by
  have hl : ¬ u.length = most := by omega
  have hc : (c == 13) = false := beq_eq_false_iff_ne.2 h13
  simp [M.at, M.byte, M.clear, M.told, M.next, M.keeps, f0, d0, h10, h13, hl, hc]
theorem at_lf (lf cr : Bool) (most : Nat) (u : List UInt8) : (M.at lf cr most u).byte 10 = ⟨lf, cr, most, u, if lf then 1 else 3, false⟩ := by
  cases lf <;> simp [M.at, M.byte, M.clear, M.told, M.next, M.keeps, f0, d0]
theorem at_cr (lf cr : Bool) (most : Nat) (u : List UInt8) : (M.at lf cr most u).byte 13 = ⟨lf, cr, most, u, 0, true⟩ := by
  simp [M.at, M.byte, M.clear, M.told, M.next, M.keeps, f0, d0]
theorem pend_else (lf cr : Bool) (most : Nat) (u : List UInt8) (c : UInt8) (h10 : ¬ c = 10) : (M.byte ⟨lf, cr, most, u, 0, true⟩ c) = ⟨lf, cr, most, u, if cr then 2 else 3, false⟩ := by
  cases cr <;> simp [M.byte, M.clear, M.told, M.next, M.keeps, f0, d0, h10]

/-- A profile of the two ends. -/
def two (lf cr : Bool) : Nat := (if lf then 2 else 0) + (if cr then 4 else 0)
theorem two_lf (lf cr : Bool) : Qk.has (two lf cr) 1 = lf := by cases lf <;> cases cr <;> decide
theorem two_cr (lf cr : Bool) : Qk.has (two lf cr) 2 = cr := by cases lf <;> cases cr <;> decide
/-- As the code builds it. -/
theorem two_bits (lf cr : Bool) : (two lf cr : Int) = if cr then (if lf then bits .or .u32 (bits .or .u32 0 2) 4 else bits .or .u32 0 4) else (if lf then bits .or .u32 0 2 else 0) := by cases lf <;> cases cr <;> decide
theorem two_lt (lf cr : Bool) : two lf cr < 4294967296 := by cases lf <;> cases cr <;> decide
theorem of_two (lf cr : Bool) (n : Nat) (h : n ≤ 4096) : M.of (two lf cr) (n : Int) = M.at lf cr n [] := by
  show M.new (Qk.has (two lf cr) 1) (Qk.has (two lf cr) 2) (mid n) = _
  rw [two_lf, two_cr, show mid (n : Int) = n by unfold mid; omega]; rfl
theorem bytes_snoc (bs : List UInt8) (k : Nat) (h : k < bs.length) : bs.take (k + 1) = bs.take k ++ [bs[k]] := List.take_succ_eq_append_getElem h

section code
set_option maxHeartbeats 4000000
set_option maxRecDepth 10000
attribute [local go_sem] Base.some_undef
theorem lineBares_any (la : Option Addr) (n cap : Nat) (bs : List UInt8) (lf cr : Bool) (c : UInt8) (w : World) (hz : Nums .u8 w la n (Txt.nums bs)) (hn : n ≤ maxLen) :
    Calls Try.prog 5 #[.slice la n cap, .bool lf, .bool cr, byteV c] w fun e w' => e = .returned (.bool true) ∧ Below w.heap.size w w' := by
  have hl : bs.length = n := by have := hz.1; rwa [Txt.nums, List.length_map] at this
  unfold maxLen at hn
  have HZ := Lib.hid hz
  have HL := Lib.hid hl
  clear hz hl
  rcases Nat.lt_or_ge 30 n with hbig | hsm
  · have hi : (30 : Int) < n := by omega
    go_enter Try.func5, Try.ntmps5
    go_wp2_with (go_at_call 6; with_reducible refine (known_any _).mono ?_; rintro e w1 ⟨rfl, hb⟩)
    go_ret
    exact ⟨rfl, hb⟩
  have hi : ¬ (30 : Int) < n := by omega
  by_cases h10 : c = 10
  · subst h10
    go_enter Try.func5, Try.ntmps5
    go_wp2_with (go_at_call 6; with_reducible refine (known_any _).mono ?_; rintro e w1 ⟨rfl, hb⟩)
    go_ret
    exact ⟨rfl, hb⟩
  by_cases h13 : c = 13
  · subst h13
    go_enter Try.func5, Try.ntmps5
    go_wp2_with (go_at_call 6; with_reducible refine (known_any _).mono ?_; rintro e w1 ⟨rfl, hb⟩)
    go_ret
    exact ⟨rfl, hb⟩
  have e10 := ne10 h10
  have e13 := ne13 h13
  have H10 := Lib.hid h10
  clear h10 h13
  have N1 := Lib.hid (fun w => new_one (two lf cr) (two_lt lf cr) 30 w)
  have N2 := Lib.hid (fun (w : World) (B g : Nat) (m : M) (h : One w B g m) => new_two (two lf cr) (two_lt lf cr) 30 h)
  rw [show (30 : Int) = ((30 : Nat) : Int) from rfl, of_two lf cr 30 (by decide), show ((30 : Nat) : Int) = 30 from rfl, two_bits] at N1 N2
  go_enter Try.func5, Try.ntmps5
  go_wp2_with (go_at_call 6; with_reducible refine (known_any _).mono ?_; rintro e w1 ⟨rfl, hb⟩)
  have HB1 := Lib.hid hb
  clear hb
  go_loopw [9] (fun i wr => ∃ k : Nat, k ≤ n ∧ i = .int .i64 k ∧ w1 = wr ∧ Hid (∀ b ∈ bs.take k, ¬ b = 10 ∧ ¬ b = 13)) (fun i _ => n - (intOf i).toNat)
  case atStart => exact ⟨0, Nat.zero_le _, rfl, rfl, Lib.hid (by simp)⟩
  case round =>
    obtain ⟨k, hk, rfl, rfl, hno⟩ := hrel
    rcases Nat.lt_or_ge k n with hlt | hge
    · obtain ⟨b0, o0, rfl, hbl, hc⟩ := (HZ.out.below HB1.out).2 (by omega)
      have hkl : k < bs.length := by rw [HL.out]; exact hlt
      have hck := hc k hlt
      rw [Txt.nums_at bs k hkl] at hck
      have hsn := Lib.hid (bytes_snoc bs k hkl)
      have t1 : (k : Int) < (n : Int) := by omega
      clear hc
      generalize bs[k] = x at *
      by_cases x10 : x = 10
      · subst x10
        go_wp2
        go_ret
        exact ⟨rfl, HB1.out⟩
      by_cases x13 : x = 13
      · subst x13
        go_wp2
        go_ret
        exact ⟨rfl, HB1.out⟩
      have y10 := ne10 x10
      have y13 := ne13 x13
      have HX := Lib.hid (And.intro x10 x13)
      clear x10 x13 hkl
      go_wp2
      go_roundw
      case rel =>
        refine ⟨k + 1, by omega, by go_num, by first | rfl | trivial, Lib.hid ?_⟩
        rw [hsn.out]
        intro b hb
        rcases List.mem_append.1 hb with h | h
        · exact hno.out b h
        · rw [List.mem_singleton.1 h]; exact HX.out
      case measure => simp [intOf]; omega
    · obtain rfl : k = n := by omega
      have hall : Hid (∀ b ∈ bs, ¬ b = 10 ∧ ¬ b = 13) := Lib.hid (by
        have := hno.out
        rwa [List.take_of_length_le (by rw [HL.out]; omega)] at this)
      clear hno hk
      obtain ⟨lfv, hlf⟩ : ∃ b, b = lf := ⟨_, rfl⟩
      obtain ⟨crv, hcr⟩ : ∃ b, b = cr := ⟨_, rfl⟩
      rw [show M.at lf cr 30 [] = M.at lfv crv 30 [] by rw [hlf, hcr]] at N1 N2
      have HLF := Lib.hid hlf; have HCR := Lib.hid hcr
      clear hlf hcr
      cases lf <;> cases cr
      all_goals
        simp only [Bool.false_eq_true, if_true, if_false] at N1 N2
        go_wp2_with (go_at_call 8; first
          | (with_reducible refine (N2.out _ _ _ _ h1).mono ?_; rintro e w3 ⟨rfl, h2, hb3⟩)
          | (with_reducible refine (N1.out _).mono ?_; rintro e w2 ⟨rfl, h1, hb2⟩))
        have HB3 := Lib.hid (Base.below_step (Base.below_step HB1.out hb2) hb3)
        have H2 := Lib.hid h2
        have HS2 := Lib.hid hb2.size
        have HB23 := Lib.hid (Base.below_step hb2 hb3)
        clear h1 h2 hb2 hb3 N1 N2
        generalize hg1 : w1.heap.size = g1 at *
        generalize w2.heap.size = g2 at *
        go_loopw [13] (fun i wq => ∃ k2 : Nat, k2 ≤ k ∧ i = .int .i64 k2 ∧ Hid (Two wq g1 g1 (M.at lfv crv 30 (bs.take k2)) g2 (M.at lfv crv 30 (bs.take k2))) ∧ Hid (Below g1 w3 wq)) (fun i _ => k - (intOf i).toNat)
        case atStart => exact ⟨0, Nat.zero_le _, rfl, H2, Lib.hid (Below.refl _ _)⟩
        case round =>
          obtain ⟨q, hq, rfl, hT, hbq⟩ := hrel
          have HG : w.heap.size ≤ g1 := by rw [← hg1]; exact HB1.out.size
          have HBW := Lib.hid (HB3.out.trans (hbq.out.mono HG))
          rcases Nat.lt_or_ge q k with hlt | hge
          · obtain ⟨b0, o0, rfl, hbl, hc⟩ := HZ.out.2 (by omega)
            have hql : q < bs.length := by rw [HL.out]; exact hlt
            have hck := (HBW.out.cell (p := ⟨b0, o0 + q, none⟩) hbl).trans (hc q hlt)
            rw [Txt.nums_at bs q hql] at hck
            have hx := hall.out bs[q] (List.getElem_mem hql)
            have hst := at_step lfv crv 30 (bs.take q) bs[q] hx.1 hx.2 (by rw [List.length_take]; omega)
            rw [← bytes_snoc bs q hql] at hst
            have HOK := Lib.hid (at_ok lfv crv 30 (bs.take q) (by decide) (by rw [List.length_take]; omega))
            have t1 : (q : Int) < (k : Int) := by omega
            have HST := Lib.hid hst
            clear hc hx hst
            generalize bs[q] = x at *
            have A1 : Hid (∀ (w : World), Two w g1 g1 (M.at lfv crv 30 (bs.take q)) g2 (M.at lfv crv 30 (bs.take q)) → Calls Try.prog 10 #[ptr g1, byteV x] w fun e w' => (∃ r : Int, e = .returned (.int .i64 r)) ∧ Two w' g1 g1 (M.at lfv crv 30 (bs.take (q + 1))) g2 (M.at lfv crv 30 (bs.take q)) ∧ Below g1 w w') := Lib.hid (fun w h => (two_byte x HOK.out h).mono (by
              rintro e w' ⟨rfl, h1, h2⟩
              rw [HST.out] at h1
              exact ⟨⟨_, rfl⟩, h1, h2⟩))
            have A2 : Hid (∀ (w : World), Two w g1 g1 (M.at lfv crv 30 (bs.take (q + 1))) g2 (M.at lfv crv 30 (bs.take q)) → Calls Try.prog 10 #[ptr g2, byteV x] w fun e w' => (∃ r : Int, e = .returned (.int .i64 r)) ∧ Two w' g1 g1 (M.at lfv crv 30 (bs.take (q + 1))) g2 (M.at lfv crv 30 (bs.take (q + 1))) ∧ Below g1 w w') := Lib.hid (fun w h => (two_byte' x HOK.out h).mono (by
              rintro e w' ⟨rfl, h1, h2⟩
              rw [HST.out] at h1
              exact ⟨⟨_, rfl⟩, h1, h2⟩))
            have HCK := Lib.hid hck
            have HLT := Lib.hid (Nat.lt_of_lt_of_le hbl HG)
            go_wp2_with (go_at_call 10; first
              | (with_reducible refine (A1.out _ hT.out).mono ?_; rintro e w5 ⟨⟨r1, rfl⟩, hT1, hk1⟩
                 have hck := (hk1.cell (p := ⟨b0, o0 + q, none⟩) HLT.out).trans HCK.out)
              | (with_reducible refine (A2.out _ hT1).mono ?_; rintro e w6 ⟨⟨r2, rfl⟩, hT2, hk2⟩))
            go_roundw
            case rel => exact ⟨q + 1, by omega, by go_num, Lib.hid hT2, Lib.hid (hbq.out.trans (hk1.trans hk2))⟩
            case measure => simp [intOf]; omega
          · obtain rfl : q = k := by omega
            rw [List.take_of_length_le (by rw [HL.out]; omega)] at hT
            have HOK := at_ok lfv crv 30 bs (by decide) (by rw [HL.out]; exact hsm)
            have o2 := HOK.byte 13
            have a1 := fun (w : World) (h : Two w g1 g1 (M.at lfv crv 30 bs) g2 (M.at lfv crv 30 bs)) => two_byte 10 HOK h
            have a2 := fun (w : World) (m : M) (h : Two w g1 g1 m g2 (M.at lfv crv 30 bs)) => two_byte' 13 HOK h
            rw [at_cr] at a2 o2
            have a3 := fun (w : World) (m : M) (h : Two w g1 g1 m g2 ⟨lfv, crv, 30, bs, 0, true⟩) => two_byte' c o2 h
            rw [at_lf] at a1
            rw [pend_else lfv crv 30 bs c H10.out] at a3
            simp only at a1 a2 a3
            rw [show byteV 10 = Value.int .u8 10 from rfl] at a1
            rw [show byteV 13 = Value.int .u8 13 from rfl] at a2
            have l1 : ∀ (w : World) (m' : M) (n : Nat), Two w g1 g1 ⟨lfv, crv, 30, bs, 1, false⟩ g2 m' → Calls Try.prog 12 #[ptr g1] (w.drewN n) fun e w' => e = .returned (.string (ba bs)) ∧ w' = w.drewN n :=
              fun w m' n h => one_line (Two.left (h.below (Base.below_drewN (Below.refl _ _) n)))
            have l2 : ∀ (w : World) (m : M) (n : Nat), Two w g1 g1 m g2 ⟨lfv, crv, 30, bs, 2, false⟩ → Calls Try.prog 12 #[ptr g2] (w.drewN n) fun e w' => e = .returned (.string (ba bs)) ∧ w' = w.drewN n :=
              fun w m n h => one_line (Two.left (h.below (Base.below_drewN (Below.refl _ _) n)).symm)
            have A1 := Lib.hid a1; have A2 := Lib.hid a2; have A3 := Lib.hid a3; have L1 := Lib.hid l1; have L2 := Lib.hid l2
            have h1 := HLF.out
            have h2 := HCR.out
            clear HLF HCR a1 a2 a3 l1 l2 o2 HOK
            subst h1 h2
            simp only [Bool.false_eq_true, if_true, if_false] at A1 A3
            have HT := Lib.hid hT.out
            clear hT
            go_wp2_with (go_at_call 10; first
              | (with_reducible refine (A1.out _ HT.out).mono ?_; rintro e w5 ⟨rfl, hT1, hk1⟩)
              | (with_reducible refine (A3.out _ _ hT2).mono ?_; rintro e w7 ⟨rfl, hT3, hk3⟩)
              | (with_reducible refine (A2.out _ _ hT1).mono ?_; rintro e w6 ⟨rfl, hT2, hk2⟩))
            have HBE := Lib.hid ((hk1.trans hk2).trans hk3)
            have HFIN := Lib.hid (HBW.out.trans (HBE.out.mono HG))
            have HCV := Lib.hid (fun n => Txt.conv_str (w7.drewN n) la q cap bs (HZ.out.below (Base.below_drewN HFIN.out n)))
            have hcv : ∀ n, (convert 22 9 (.slice la q cap)).run Try.prog (w7.drewN n) = .ok (.string (ba bs)) (w7.drewN n) := HCV.out
            have HT4 := Lib.hid hT3
            clear hk1 hk2 hk3 hT1 hT2 hT3 HCV
            go_quiet (first
              | (go_at_call 12; exact Calls.quiet_of_same (L1.out _ _ _ HT4.out)))
            rename_i nq
            have HT8 := Lib.hid (HT4.out.below (Base.below_drewN (Below.refl _ _) nq))
            have HF8 := Lib.hid (Base.below_drewN HFIN.out nq)
            have HC8 := Lib.hid (fun n => Txt.conv_str ((w7.drewN nq).drewN n) la q cap bs (HZ.out.below (Base.below_drewN HF8.out n)))
            clear hcv HT4 HFIN
            generalize w7.drewN nq = w8 at *
            have hcv : ∀ n, (convert 22 9 (.slice la q cap)).run Try.prog (w8.drewN n) = .ok (.string (ba bs)) (w8.drewN n) := HC8.out
            go_wp2
            go_quiet (first
              | (go_at_call 12; exact Calls.quiet_of_same (L2.out _ _ _ HT8.out)))
            go_wp2
            go_ret
            exact ⟨rfl, Base.below_drewN HF8.out _⟩
end code
end Go.Proofs.Ythkgdhkfhidghaa.Ln
