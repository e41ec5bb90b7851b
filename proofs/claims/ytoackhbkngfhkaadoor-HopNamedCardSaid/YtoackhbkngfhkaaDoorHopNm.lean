/-
  Layer 18 (hop): the law on what Connection names: HopNamed. (Printed by tools/gen_hopnm.py.)
-/
import Derived.Test.YtoackhbkngfhkaaDoorHopNW
namespace Go.Proofs.YtoackhbkngfhkaaDoor.Hop
open Go.RowKit Base Txt Oct

theorem Bk.kept {w w' : World} {g : Nat} {vs : List Value} {row : Option Nat} (h : Rec.Bk w g vs) (hg : w.grownBy w' row) (hne : some g ≠ row) : Rec.Bk w' g vs := by
  have hb := hg.block g h.lt hne
  exact ⟨fun k v hk => (World.cell?_of_block (a := ⟨g, k, none⟩) hb).trans (h.c k v hk), fun k hk => (World.frozen?_of_block (a := ⟨g, k, none⟩) hb).trans (h.z k hk), Nat.lt_of_lt_of_le h.lt hg.size⟩
theorem byteAt_lt (bs : List UInt8) (k : Nat) : byteAt bs k < 256 := UInt8.toNat_lt _
theorem nums_byte (bs : List UInt8) (k : Nat) (h : k < bs.length) : (nums bs)[k]?.getD 0 = ((byteAt bs k : Nat) : Int) := by
  rw [nums_at bs k h]; unfold byteAt; rw [List.getElem?_eq_getElem h]; rfl
theorem Flds.tail {w : World} {g n : Nat} {f : Fld} {fs : List Fld} (h : Flds w (some ⟨g, 0, none⟩) (n + 1) (f :: fs)) : Flds w (some ⟨g, 2, none⟩) n fs := by
  have hl := h.1
  rw [List.length_cons] at hl
  refine ⟨by omega, fun hp => ?_⟩
  obtain ⟨b, off, e, hb, hc⟩ := h.2 (by omega)
  obtain ⟨rfl, rfl⟩ : g = b ∧ 0 = off := by simpa using e
  refine ⟨g, 2, rfl, hb, fun k hk => ?_⟩
  have := hc (k + 1) (by omega)
  rw [show 0 + (k + 1) * 2 = 2 + k * 2 by omega] at this
  exact this
section code
set_option maxHeartbeats 8000000
set_option maxRecDepth 100000
attribute [local go_sem] Base.some_undef
theorem hopNamed_law (la : Option Addr) (ln cap0 : Nat) (zs : List Int) (lb : Option Addr) (lm cap1 : Nat) (ys : List Int) (w : World)
    (hv0 : Nums .u8 w la ln zs) (hw0 : ∀ x ∈ zs, (Lit.int .u8 x).wf = true) (hv1 : Nums .u8 w lb lm ys) (hw1 : ∀ x ∈ ys, (Lit.int .u8 x).wf = true) :
    Calls Tryd.prog 4 #[.slice la ln cap0, .slice lb lm cap1] w fun e w' => e = .returned (.bool true) ∧ Below w.heap.size w w' := by
  obtain ⟨bs, rfl⟩ := bytes_of zs fun x hx => bounds_u8 (hw0 x hx)
  obtain ⟨ls, rfl⟩ := bytes_of ys fun x hx => bounds_u8 (hw1 x hx)
  have hlb : bs.length = ln := by have := hv0.1; unfold nums at this; rw [List.length_map] at this; exact this
  have hll : ls.length = lm := by have := hv1.1; unfold nums at this; rw [List.length_map] at this; exact this
  clear hw0 hw1
  by_cases h6 : 6 < ln
  · have t1 : (6 : Int) < (ln : Int) := by omega
    clear hv0 hv1
    go_enter Tryd.func4, Tryd.ntmps4
    go_wp2_with (first
      | (go_at_call 6; with_reducible refine (known_any _).mono ?_; rintro e w1 ⟨rfl, hb1⟩))
    go_ret
    exact ⟨rfl, hb1⟩
  have t1 : ¬ (6 : Int) < (ln : Int) := by omega
  by_cases h10 : 10 < lm
  · have t2 : (10 : Int) < (lm : Int) := by omega
    clear hv0 hv1
    go_enter Tryd.func4, Tryd.ntmps4
    go_wp2_with (first
      | (go_at_call 6; with_reducible refine (known_any _).mono ?_; rintro e w1 ⟨rfl, hb1⟩))
    go_ret
    exact ⟨rfl, hb1⟩
  have t2 : ¬ (10 : Int) < (lm : Int) := by omega
  have HV0 := Lib.hid hv0; have HV1 := Lib.hid hv1; have HLB := Lib.hid hlb; have HLL := Lib.hid hll
  have h6' : ln ≤ 6 := by omega
  have h10' : lm ≤ 10 := by omega
  clear hv0 hv1 hlb hll h6 h10
  obtain ⟨i0, hi, hz0, hz1, hz2⟩ := info_parts field_info
  have G1 := Lib.hid hi; have G2 := Lib.hid hz0; have G3 := Lib.hid hz1; have G4 := Lib.hid hz2
  clear hi hz0 hz1 hz2
  go_enter Tryd.func4, Tryd.ntmps4
  go_upto_region 9 with (first
    | (go_at_call 6; with_reducible refine (known_any _).mono ?_; rintro e w1 ⟨rfl, hb1⟩
       have HB1 := Lib.hid hb1
       clear hb1))
  clear t1 t2
  have hkA : Rec.Bk (w1.alloc (.cells #[.string ⟨#[65]⟩, .string ⟨#[66]⟩, .string ⟨#[67, 111, 111, 107, 105, 101]⟩, .string ⟨#[72, 111, 115, 116]⟩, .string ⟨#[67, 111, 110, 116, 101, 110, 116, 45, 76, 101, 110, 103, 116, 104]⟩, .string ⟨#[88, 45, 89]⟩] 9)) w1.heap.size all6 := Rec.Bk.new w1 _ rfl 9 all6
  have HKA0 := Lib.hid (hkA.alloc (.cells #[.bool false, .bool false, .bool false, .bool false, .bool false, .bool false] 35))
  have HKG0 : Hid (Rec.Bk ((w1.alloc (.cells #[.string ⟨#[65]⟩, .string ⟨#[66]⟩, .string ⟨#[67, 111, 111, 107, 105, 101]⟩, .string ⟨#[72, 111, 115, 116]⟩, .string ⟨#[67, 111, 110, 116, 101, 110, 116, 45, 76, 101, 110, 103, 116, 104]⟩, .string ⟨#[88, 45, 89]⟩] 9)).alloc (.cells #[.bool false, .bool false, .bool false, .bool false, .bool false, .bool false] 35)) (w1.heap.size + 1) (goneC bs 0)) := Lib.hid (Rec.Bk.new (w1.alloc (.cells #[.string ⟨#[65]⟩, .string ⟨#[66]⟩, .string ⟨#[67, 111, 111, 107, 105, 101]⟩, .string ⟨#[72, 111, 115, 116]⟩, .string ⟨#[67, 111, 110, 116, 101, 110, 116, 45, 76, 101, 110, 103, 116, 104]⟩, .string ⟨#[88, 45, 89]⟩] 9)) (w1.heap.size + 1) (by simp) 35 (goneC bs 0))
  have HB0 := Lib.hid ((HB1.out.alloc HB1.out.size (.cells #[.string ⟨#[65]⟩, .string ⟨#[66]⟩, .string ⟨#[67, 111, 111, 107, 105, 101]⟩, .string ⟨#[72, 111, 115, 116]⟩, .string ⟨#[67, 111, 110, 116, 101, 110, 116, 45, 76, 101, 110, 103, 116, 104]⟩, .string ⟨#[88, 45, 89]⟩] 9)).alloc (by have := HB1.out.size; simp; omega) (.cells #[.bool false, .bool false, .bool false, .bool false, .bool false, .bool false] 35))
  have HGG : Hid (w.heap.size ≤ w1.heap.size + 1) := Lib.hid (by have := HB1.out.size; omega)
  have HGA : Hid (¬ w1.heap.size + 1 = w1.heap.size) := Lib.hid (by omega)
  clear hkA HB1
  generalize (w1.alloc (.cells #[.string ⟨#[65]⟩, .string ⟨#[66]⟩, .string ⟨#[67, 111, 111, 107, 105, 101]⟩, .string ⟨#[72, 111, 115, 116]⟩, .string ⟨#[67, 111, 110, 116, 101, 110, 116, 45, 76, 101, 110, 103, 116, 104]⟩, .string ⟨#[88, 45, 89]⟩] 9)).alloc (.cells #[.bool false, .bool false, .bool false, .bool false, .bool false, .bool false] 35) = W0 at *
  generalize w1.heap.size + 1 = gG at *
  generalize w1.heap.size = gA at *
  go_loopw [6, 8] (fun v i wr => ∃ k : Nat, k ≤ ln ∧ i = .int .i64 k ∧ v = .string (conV bs k) ∧ Hid (Rec.Bk wr gA all6) ∧ Hid (Rec.Bk wr gG (goneC bs k)) ∧ Hid (Below w.heap.size w wr)) (fun _ i _ => ln - (intOf i).toNat)
  case atStart => exact ⟨0, Nat.zero_le _, rfl, rfl, HKA0, HKG0, HB0⟩
  case round =>
    obtain ⟨k, hk, rfl, rfl, HKA, HKG, HB⟩ := hrel
    rcases Nat.lt_or_ge k ln with hlt | hge
    · have hkl : k < bs.length := by rw [HLB.out]; exact hlt
      obtain ⟨bl, off, rfl, hbl, hc⟩ := HV0.out.2 (by omega)
      have hck := hc k hlt
      rw [nums_byte bs k hkl] at hck
      have hx9 := byteAt_lt bs k
      have hcs : conV bs (k + 1) = conV bs k ++ ⟨#[44, 32]⟩ ++ nm k (byteAt bs k % 6) := rfl
      have hvs := conV_size bs k
      obtain ⟨r, e6⟩ : ∃ r, byteAt bs k % 6 = r := ⟨_, rfl⟩
      have HGC := Lib.hid (goneC_set bs k r e6)
      rw [e6] at hcs
      have hr6 : r < 6 := by omega
      have hns := nm_size k r hr6
      obtain ⟨hX, hsX⟩ := al_at r hr6
      have HX := Lib.hid hX
      have hnm : nm k r = if k % 2 = 0 then al r else lower (al r) := rfl
      generalize al r = X at *
      have HLO := Lib.hid (fun w => rlower_any X w (by omega))
      obtain ⟨Xl, hXl⟩ : ∃ Xl, lower X = Xl := ⟨_, rfl⟩
      rw [hXl] at HLO hnm
      obtain ⟨p, hp⟩ : ∃ p, k % 2 = p := ⟨_, rfl⟩
      obtain ⟨Z, hZ⟩ : ∃ Z, nm k r = Z := ⟨_, rfl⟩
      rw [hp] at hnm
      rw [hZ] at hnm hcs hns
      have hp2 : p < 2 := by omega
      have HZ : Hid (([.string X, .string Xl] : List Value)[p]? = some (.string Z)) := Lib.hid (by
        rw [hnm]
        match p, hp2 with
        | 0, _ => rfl
        | 1, _ => rfl)
      have Rp := Lib.hid (show Int.tmod ((k : Nat) : Int) 2 = (p : Int) by rw [Int.tmod_eq_emod_of_nonneg (by omega)]; omega)
      have Rr := Lib.hid (show Int.tmod ((byteAt bs k : Nat) : Int) 6 = (r : Int) by rw [Int.tmod_eq_emod_of_nonneg (by omega)]; omega)
      have Hr := Lib.hid (show r < 6 ∧ (r : Int) < 6 from ⟨hr6, by omega⟩); have Hp := Lib.hid (show p < 2 ∧ (p : Int) < 2 from ⟨hp2, by omega⟩)
      have HCS := Lib.hid hcs
      obtain ⟨V0, hV0⟩ : ∃ V0, conV bs k = V0 := ⟨_, rfl⟩
      rw [hV0] at hvs HCS
      rw [hV0]
      have HVS := Lib.hid (show (¬ 9223372036854775807 < V0.size + (2 : Nat)) ∧ (¬ 9223372036854775807 < V0.size + 2 + Z.size) from ⟨by omega, by omega⟩)
      have HCQ := Lib.hid ((HB.out.cell (p := ⟨bl, off + k, none⟩) hbl).trans hck)
      have HBL := Lib.hid (Nat.lt_of_lt_of_le hbl HB.out.size)
      have T1 := Lib.hid (show (k : Int) < (ln : Int) by omega)
      generalize hxn : byteAt bs k = xn at *
      have t1 : (k : Int) < (ln : Int) := T1.out
      clear hc hck hx9 hcs hvs e6 hr6 hns hX hsX hnm hXl hp hZ hp2 hV0 hkl hbl hxn
      go_upto_region 11 with fail
      clear t1
      refine Each.region 25 [30, 31, 32, 33, 34, 35, 36, 37, 38, 39, 40, 41, 42, 43, 44, 45, 46, 47, 48, 49, 50, 51, 52, 53, 54]
          [fun v _ => v = .string V0,
            fun v _ => v = .string (V0 ++ ⟨#[44, 32]⟩),
            fun v _ => v = .slice (some ⟨gA, 0, none⟩) 6 6,
            fun v _ => v = .slice (some ⟨bl, off, none⟩) ln cap0,
            fun v _ => v = .int .i64 (k : Int),
            fun v _ => v = .pointer (some ⟨bl, off + k, none⟩),
            fun v _ => v = .int .u8 ((xn : Nat) : Int),
            fun v _ => v = .int .u8 ((r : Nat) : Int),
            fun v _ => v = .pointer (some ⟨gA, r, none⟩),
            fun v _ => v = .string X,
            fun v _ => v = .slice (some ⟨gA, 0, none⟩) 6 6,
            fun v _ => v = .slice (some ⟨bl, off, none⟩) ln cap0,
            fun v _ => v = .int .i64 (k : Int),
            fun v _ => v = .pointer (some ⟨bl, off + k, none⟩),
            fun v _ => v = .int .u8 ((xn : Nat) : Int),
            fun v _ => v = .int .u8 ((r : Nat) : Int),
            fun v _ => v = .pointer (some ⟨gA, r, none⟩),
            fun v _ => v = .string X,
            fun v _ => v = .string Xl,
            fun v w => ∃ g, v = .slice (some ⟨g, 0, none⟩) 2 2 ∧ Rec.Bk w g [.string X, .string Xl],
            fun v _ => v = .int .i64 (k : Int),
            fun v _ => v = .int .i64 (p : Int),
            fun v w => ∃ g, v = .pointer (some ⟨g, p, none⟩) ∧ Rec.Bk w g [.string X, .string Xl],
            fun v _ => v = .string Z,
            fun v _ => v = .string (V0 ++ ⟨#[44, 32]⟩ ++ Z)]
          (.quiet 25 .done) (by kernel_rfl) (by kernel_rfl) (by kernel_rfl) (by kernel_rfl) (fun _ _ d _ _ h => by cases d <;> exact h) (by rfl) (by rfl)
          ⟨Each.Lasts.eq _, Each.Lasts.eq _, Each.Lasts.eq _, Each.Lasts.eq _, Each.Lasts.eq _, Each.Lasts.eq _, Each.Lasts.eq _, Each.Lasts.eq _, Each.Lasts.eq _, Each.Lasts.eq _, Each.Lasts.eq _, Each.Lasts.eq _, Each.Lasts.eq _, Each.Lasts.eq _, Each.Lasts.eq _, Each.Lasts.eq _, Each.Lasts.eq _, Each.Lasts.eq _, Each.Lasts.eq _, ((fun _ _ _ hb h => by obtain ⟨g, rfl, hB⟩ := h; exact ⟨g, rfl, hB.below hb⟩)), Each.Lasts.eq _, Each.Lasts.eq _, ((fun _ _ _ hb h => by obtain ⟨g, rfl, hB⟩ := h; exact ⟨g, rfl, hB.below hb⟩)), Each.Lasts.eq _, Each.Lasts.eq _, trivial⟩ ?_ ?_
      · refine ⟨?_, ?_, ?_, ?_, ?_, ?_, ?_, ?_, ?_, ?_, ?_, ?_, ?_, ?_, ?_, ?_, ?_, ?_, ?_, ?_, ?_, ?_, ?_, ?_, ?_, trivial⟩
        · refine Each.fine rfl (fun ev w1 hR hb hh => ?_)
          clear hh
          have e6 := hR.old 6 rfl
          simp only [Array.getD_eq_getD_getElem?, List.getElem?_toArray, List.getElem?_cons_succ, List.getElem?_cons_zero, Option.getD_some] at e6
          refine Each.Goes.same ?_
          go_simp
          try with_reducible rfl
        · refine Each.fine rfl (fun ev w1 hR hb hh => ?_)
          have e30 : (ev (.tmp 30) = .string V0) := hh.at 0
          clear hh
          have ec := hR.const
          obtain ⟨v1, v2⟩ := HVS.out
          refine Each.Goes.same ?_
          go_simp
          try with_reducible rfl
        · refine Each.fine rfl (fun ev w1 hR hb hh => ?_)
          clear hh
          have e5 := hR.old 5 rfl
          simp only [Array.getD_eq_getD_getElem?, List.getElem?_toArray, List.getElem?_cons_succ, List.getElem?_cons_zero, Option.getD_some] at e5
          refine Each.Goes.same ?_
          go_simp
          try with_reducible rfl
        · refine Each.fine rfl (fun ev w1 hR hb hh => ?_)
          clear hh
          have e0 := hR.old 0 rfl
          simp only [Array.getD_eq_getD_getElem?, List.getElem?_toArray, List.getElem?_cons_zero, Option.getD_some] at e0
          refine Each.Goes.same ?_
          go_simp
          try with_reducible rfl
        · refine Each.fine rfl (fun ev w1 hR hb hh => ?_)
          clear hh
          have e8 := hR.old 8 rfl
          simp only [Array.getD_eq_getD_getElem?, List.getElem?_toArray, List.getElem?_cons_succ, List.getElem?_cons_zero, Option.getD_some] at e8
          refine Each.Goes.same ?_
          go_simp
          try with_reducible rfl
        · refine Each.fine rfl (fun ev w1 hR hb hh => ?_)
          have e33 : (ev (.tmp 33) = .slice (some ⟨bl, off, none⟩) ln cap0) := hh.at 0
          have e34 : (ev (.tmp 34) = .int .i64 (k : Int)) := hh.at 1
          clear hh
          have h01 : (0 : Int) ≤ (k : Int) := by omega
          have t1 := T1.out
          refine Each.Goes.same ?_
          go_simp
          all_goals (try with_reducible rfl)
        · refine Each.fine rfl (fun ev w1 hR hb hh => ?_)
          have e35 : (ev (.tmp 35) = .pointer (some ⟨bl, off + k, none⟩)) := hh.at 0
          clear hh
          have qc := (hb.cell (p := ⟨bl, off + k, none⟩) HBL.out).trans HCQ.out
          refine Each.Goes.same ?_
          go_simp
          try with_reducible rfl
        · refine Each.fine rfl (fun ev w1 hR hb hh => ?_)
          have e36 : (ev (.tmp 36) = .int .u8 ((xn : Nat) : Int)) := hh.at 0
          clear hh
          have ec := hR.const
          have g1 := Rr.out
          refine Each.Goes.same ?_
          go_simp
          try with_reducible rfl
        · refine Each.fine rfl (fun ev w1 hR hb hh => ?_)
          have e32 : (ev (.tmp 32) = .slice (some ⟨gA, 0, none⟩) 6 6) := hh.at 0
          have e37 : (ev (.tmp 37) = .int .u8 ((r : Nat) : Int)) := hh.at 1
          clear hh
          have hi1 := Hr.out.1; have hi2 := Hr.out.2; have hi3 : (0 : Int) ≤ (r : Int) := by omega
          refine Each.Goes.same ?_
          go_simp
          try with_reducible rfl
        · refine Each.fine rfl (fun ev w1 hR hb hh => ?_)
          have e38 : (ev (.tmp 38) = .pointer (some ⟨gA, r, none⟩)) := hh.at 0
          clear hh
          have q0 := ((HKA.out.drew 1).below hb).c r _ HX.out
          refine Each.Goes.same ?_
          go_simp
          try with_reducible rfl
        · refine Each.fine rfl (fun ev w1 hR hb hh => ?_)
          clear hh
          have e5 := hR.old 5 rfl
          simp only [Array.getD_eq_getD_getElem?, List.getElem?_toArray, List.getElem?_cons_succ, List.getElem?_cons_zero, Option.getD_some] at e5
          refine Each.Goes.same ?_
          go_simp
          try with_reducible rfl
        · refine Each.fine rfl (fun ev w1 hR hb hh => ?_)
          clear hh
          have e0 := hR.old 0 rfl
          simp only [Array.getD_eq_getD_getElem?, List.getElem?_toArray, List.getElem?_cons_zero, Option.getD_some] at e0
          refine Each.Goes.same ?_
          go_simp
          try with_reducible rfl
        · refine Each.fine rfl (fun ev w1 hR hb hh => ?_)
          clear hh
          have e8 := hR.old 8 rfl
          simp only [Array.getD_eq_getD_getElem?, List.getElem?_toArray, List.getElem?_cons_succ, List.getElem?_cons_zero, Option.getD_some] at e8
          refine Each.Goes.same ?_
          go_simp
          try with_reducible rfl
        · refine Each.fine rfl (fun ev w1 hR hb hh => ?_)
          have e41 : (ev (.tmp 41) = .slice (some ⟨bl, off, none⟩) ln cap0) := hh.at 0
          have e42 : (ev (.tmp 42) = .int .i64 (k : Int)) := hh.at 1
          clear hh
          have h01 : (0 : Int) ≤ (k : Int) := by omega
          have t1 := T1.out
          refine Each.Goes.same ?_
          go_simp
          all_goals (try with_reducible rfl)
        · refine Each.fine rfl (fun ev w1 hR hb hh => ?_)
          have e43 : (ev (.tmp 43) = .pointer (some ⟨bl, off + k, none⟩)) := hh.at 0
          clear hh
          have qc := (hb.cell (p := ⟨bl, off + k, none⟩) HBL.out).trans HCQ.out
          refine Each.Goes.same ?_
          go_simp
          try with_reducible rfl
        · refine Each.fine rfl (fun ev w1 hR hb hh => ?_)
          have e44 : (ev (.tmp 44) = .int .u8 ((xn : Nat) : Int)) := hh.at 0
          clear hh
          have ec := hR.const
          have g1 := Rr.out
          refine Each.Goes.same ?_
          go_simp
          try with_reducible rfl
        · refine Each.fine rfl (fun ev w1 hR hb hh => ?_)
          have e40 : (ev (.tmp 40) = .slice (some ⟨gA, 0, none⟩) 6 6) := hh.at 0
          have e45 : (ev (.tmp 45) = .int .u8 ((r : Nat) : Int)) := hh.at 1
          clear hh
          have hi1 := Hr.out.1; have hi2 := Hr.out.2; have hi3 : (0 : Int) ≤ (r : Int) := by omega
          refine Each.Goes.same ?_
          go_simp
          try with_reducible rfl
        · refine Each.fine rfl (fun ev w1 hR hb hh => ?_)
          have e46 : (ev (.tmp 46) = .pointer (some ⟨gA, r, none⟩)) := hh.at 0
          clear hh
          have q0 := ((HKA.out.drew 1).below hb).c r _ HX.out
          refine Each.Goes.same ?_
          go_simp
          try with_reducible rfl
        · refine Each.fine rfl (fun ev w1 hR hb hh => ?_)
          have e47 : (ev (.tmp 47) = .string X) := hh.at 0
          clear hh
          have ef := hR.func
          refine Each.Goes.enter 18 #[.string X] (by go_simp) ((HLO.out w1).mono ?_)
          rintro e w2 ⟨rfl, hb2⟩
          exact ⟨_, rfl, hb2, rfl⟩
        · refine Each.fine rfl (fun ev w1 hR hb hh => ?_)
          have e39 : (ev (.tmp 39) = .string X) := hh.at 0
          have e48 : (ev (.tmp 48) = .string Xl) := hh.at 1
          clear hh
          exact Each.Goes.value (.slice (some ⟨w1.heap.size, 0, none⟩) 2 2) (w1.alloc (.cells #[.string X, .string Xl] 9)) (by go_simp) ((Below.refl _ _).alloc (Nat.le_refl _) _) ⟨_, rfl, Rec.Bk.new w1 _ rfl 9 [.string X, .string Xl]⟩
        · refine Each.fine rfl (fun ev w1 hR hb hh => ?_)
          clear hh
          have e8 := hR.old 8 rfl
          simp only [Array.getD_eq_getD_getElem?, List.getElem?_toArray, List.getElem?_cons_succ, List.getElem?_cons_zero, Option.getD_some] at e8
          refine Each.Goes.same ?_
          go_simp
          try with_reducible rfl
        · refine Each.fine rfl (fun ev w1 hR hb hh => ?_)
          have e50 : (ev (.tmp 50) = .int .i64 (k : Int)) := hh.at 0
          clear hh
          have ec := hR.const
          have g1 := Rp.out
          refine Each.Goes.same ?_
          go_simp
          try with_reducible rfl
        · refine Each.fine rfl (fun ev w1 hR hb hh => ?_)
          have e49 : ((fun v w => ∃ g, v = .slice (some ⟨g, 0, none⟩) 2 2 ∧ Rec.Bk w g [.string X, .string Xl]) (ev (.tmp 49)) w1) := hh.at 0
          have e51 : (ev (.tmp 51) = .int .i64 (p : Int)) := hh.at 1
          clear hh
          obtain ⟨ga, ea, hB⟩ := e49
          have hi1 := Hp.out.1; have hi2 := Hp.out.2; have hi3 : (0 : Int) ≤ (p : Int) := by omega
          exact Each.Goes.value (.pointer (some ⟨ga, p, none⟩)) w1 (by go_simp) (Below.refl _ _) ⟨ga, rfl, hB⟩
        · refine Each.fine rfl (fun ev w1 hR hb hh => ?_)
          have e52 : ((fun v w => ∃ g, v = .pointer (some ⟨g, p, none⟩) ∧ Rec.Bk w g [.string X, .string Xl]) (ev (.tmp 52)) w1) := hh.at 0
          clear hh
          obtain ⟨ga, ea, hB⟩ := e52
          have q0 := hB.c p _ HZ.out
          refine Each.Goes.same ?_
          go_simp
          try with_reducible rfl
        · refine Each.fine rfl (fun ev w1 hR hb hh => ?_)
          have e31 : (ev (.tmp 31) = .string (V0 ++ ⟨#[44, 32]⟩)) := hh.at 0
          have e53 : (ev (.tmp 53) = .string Z) := hh.at 1
          clear hh
          obtain ⟨v1, v2⟩ := HVS.out
          refine Each.Goes.same ?_
          go_simp
          try with_reducible rfl
      intro ga w5 hb5 hf
      have z54 : (ga 54 = .string (V0 ++ ⟨#[44, 32]⟩ ++ Z)) := hf.at 24
      clear hf
      simp only [Each.putg, Act.put, List.setIfInBounds_toArray, List.set_cons_zero, List.set_cons_succ]
      rw [z54]
      simp only [Tree.grow, Tree.put1, List.getElem?_cons_zero, List.getElem?_cons_succ]
      refine Tree.assign _ (by rfl) (by rfl) ?_
      simp only [Act.put, Act.eval, Array.getD_eq_getD_getElem?, List.getElem?_toArray, List.getElem?_cons_zero, List.getElem?_cons_succ, Option.getD_some, List.setIfInBounds_toArray, List.set_cons_zero, List.set_cons_succ]
      refine Tree.done ?_
      have HKA2 := Lib.hid (HKA.out.below hb5); have HKG2 := Lib.hid (HKG.out.below hb5); have HB2 := Lib.hid (Base.below_step HB.out hb5)
      have HCQ := Lib.hid ((hb5.cell (p := ⟨bl, off + k, none⟩) HBL.out).trans HCQ.out)
      have HBL := Lib.hid (Nat.lt_of_lt_of_le HBL.out hb5.size)
      rw [← HCS.out]
      clear hb5
      go_upto_region 12 with fail
      refine Each.region 20 [55, 56, 57, 58, 59, 60, 61, 62, 63, 64, 65, 66, 67, 68, 69, 70, 71, 72, 73, 74]
          [fun v _ => v = .slice (some ⟨bl, off, none⟩) ln cap0,
            fun v _ => v = .int .i64 (k : Int),
            fun v _ => v = .pointer (some ⟨bl, off + k, none⟩),
            fun v _ => v = .int .u8 ((xn : Nat) : Int),
            fun v _ => v = .int .u8 ((r : Nat) : Int),
            fun v _ => v = .slice (some ⟨bl, off, none⟩) ln cap0,
            fun v _ => v = .int .i64 (k : Int),
            fun v _ => v = .pointer (some ⟨bl, off + k, none⟩),
            fun v _ => v = .int .u8 ((xn : Nat) : Int),
            fun v _ => v = .int .u8 ((r : Nat) : Int),
            fun v _ => v = .bool ((r != 3)),
            fun v _ => v = .bool ((r != 3)),
            Each.When ((r != 3)) true (fun v _ => v = .slice (some ⟨bl, off, none⟩) ln cap0),
            Each.When ((r != 3)) true (fun v _ => v = .int .i64 (k : Int)),
            Each.When ((r != 3)) true (fun v _ => v = .pointer (some ⟨bl, off + k, none⟩)),
            Each.When ((r != 3)) true (fun v _ => v = .int .u8 ((xn : Nat) : Int)),
            Each.When ((r != 3)) true (fun v _ => v = .int .u8 ((r : Nat) : Int)),
            Each.When ((r != 3)) true (fun v _ => v = .bool ((r != 4))),
            fun v _ => v = .bool (((r != 3) && (r != 4))),
            fun v _ => v = .pointer (some ⟨gG, r, none⟩)]
          (.act 20 .done) (by kernel_rfl) (by kernel_rfl) (by kernel_rfl) (by kernel_rfl) (fun _ _ d _ _ h => by cases d <;> exact h) (by rfl) (by rfl)
          ⟨Each.Lasts.eq _, Each.Lasts.eq _, Each.Lasts.eq _, Each.Lasts.eq _, Each.Lasts.eq _, Each.Lasts.eq _, Each.Lasts.eq _, Each.Lasts.eq _, Each.Lasts.eq _, Each.Lasts.eq _, Each.Lasts.eq _, Each.Lasts.eq _, Each.Lasts.when (Each.Lasts.eq _), Each.Lasts.when (Each.Lasts.eq _), Each.Lasts.when (Each.Lasts.eq _), Each.Lasts.when (Each.Lasts.eq _), Each.Lasts.when (Each.Lasts.eq _), Each.Lasts.when (Each.Lasts.eq _), Each.Lasts.eq _, Each.Lasts.eq _, trivial⟩ ?_ ?_
      · refine ⟨?_, ?_, ?_, ?_, ?_, ?_, ?_, ?_, ?_, ?_, ?_, ?_, ?_, ?_, ?_, ?_, ?_, ?_, ?_, ?_, trivial⟩
        · refine Each.fine rfl (fun ev w1 hR hb hh => ?_)
          clear hh
          have e0 := hR.old 0 rfl
          simp only [Array.getD_eq_getD_getElem?, List.getElem?_toArray, List.getElem?_cons_zero, Option.getD_some] at e0
          refine Each.Goes.same ?_
          go_simp
          try with_reducible rfl
        · refine Each.fine rfl (fun ev w1 hR hb hh => ?_)
          clear hh
          have e8 := hR.old 8 rfl
          simp only [Array.getD_eq_getD_getElem?, List.getElem?_toArray, List.getElem?_cons_succ, List.getElem?_cons_zero, Option.getD_some] at e8
          refine Each.Goes.same ?_
          go_simp
          try with_reducible rfl
        · refine Each.fine rfl (fun ev w1 hR hb hh => ?_)
          have e55 : (ev (.tmp 55) = .slice (some ⟨bl, off, none⟩) ln cap0) := hh.at 0
          have e56 : (ev (.tmp 56) = .int .i64 (k : Int)) := hh.at 1
          clear hh
          have h01 : (0 : Int) ≤ (k : Int) := by omega
          have t1 := T1.out
          refine Each.Goes.same ?_
          go_simp
          all_goals (try with_reducible rfl)
        · refine Each.fine rfl (fun ev w1 hR hb hh => ?_)
          have e57 : (ev (.tmp 57) = .pointer (some ⟨bl, off + k, none⟩)) := hh.at 0
          clear hh
          have qc := (hb.cell (p := ⟨bl, off + k, none⟩) HBL.out).trans HCQ.out
          refine Each.Goes.same ?_
          go_simp
          try with_reducible rfl
        · refine Each.fine rfl (fun ev w1 hR hb hh => ?_)
          have e58 : (ev (.tmp 58) = .int .u8 ((xn : Nat) : Int)) := hh.at 0
          clear hh
          have ec := hR.const
          have g1 := Rr.out
          refine Each.Goes.same ?_
          go_simp
          try with_reducible rfl
        · refine Each.fine rfl (fun ev w1 hR hb hh => ?_)
          clear hh
          have e0 := hR.old 0 rfl
          simp only [Array.getD_eq_getD_getElem?, List.getElem?_toArray, List.getElem?_cons_zero, Option.getD_some] at e0
          refine Each.Goes.same ?_
          go_simp
          try with_reducible rfl
        · refine Each.fine rfl (fun ev w1 hR hb hh => ?_)
          clear hh
          have e8 := hR.old 8 rfl
          simp only [Array.getD_eq_getD_getElem?, List.getElem?_toArray, List.getElem?_cons_succ, List.getElem?_cons_zero, Option.getD_some] at e8
          refine Each.Goes.same ?_
          go_simp
          try with_reducible rfl
        · refine Each.fine rfl (fun ev w1 hR hb hh => ?_)
          have e60 : (ev (.tmp 60) = .slice (some ⟨bl, off, none⟩) ln cap0) := hh.at 0
          have e61 : (ev (.tmp 61) = .int .i64 (k : Int)) := hh.at 1
          clear hh
          have h01 : (0 : Int) ≤ (k : Int) := by omega
          have t1 := T1.out
          refine Each.Goes.same ?_
          go_simp
          all_goals (try with_reducible rfl)
        · refine Each.fine rfl (fun ev w1 hR hb hh => ?_)
          have e62 : (ev (.tmp 62) = .pointer (some ⟨bl, off + k, none⟩)) := hh.at 0
          clear hh
          have qc := (hb.cell (p := ⟨bl, off + k, none⟩) HBL.out).trans HCQ.out
          refine Each.Goes.same ?_
          go_simp
          try with_reducible rfl
        · refine Each.fine rfl (fun ev w1 hR hb hh => ?_)
          have e63 : (ev (.tmp 63) = .int .u8 ((xn : Nat) : Int)) := hh.at 0
          clear hh
          have ec := hR.const
          have g1 := Rr.out
          refine Each.Goes.same ?_
          go_simp
          try with_reducible rfl
        · refine Each.fine rfl (fun ev w1 hR hb hh => ?_)
          have e64 : (ev (.tmp 64) = .int .u8 ((r : Nat) : Int)) := hh.at 0
          clear hh
          have ec := hR.const
          have hr := Hr.out.1
          clear Hr
          refine Each.Goes.same ?_
          rcases (by omega : r = 0 ∨ r = 1 ∨ r = 2 ∨ r = 3 ∨ r = 4 ∨ r = 5) with h9 | h9 | h9 | h9 | h9 | h9 <;> subst h9 <;> go_simp <;> (try with_reducible rfl)
        · refine Each.fine rfl (fun ev w1 hR hb hh => ?_)
          have e65 : (ev (.tmp 65) = .bool ((r != 3))) := hh.at 0
          clear hh
          refine Each.Goes.same ?_
          go_simp
          try with_reducible rfl
        · refine Each.fine_when 11 66 rfl rfl (fun ev w1 hh => ?_) (fun hg ev w1 hR hb hh => ?_)
          · exact hh.at 0
          · clear hh
            have e0 := hR.old 0 rfl
            simp only [Array.getD_eq_getD_getElem?, List.getElem?_toArray, List.getElem?_cons_zero, Option.getD_some] at e0
            refine Each.Goes.same ?_
            go_simp
            try with_reducible rfl
        · refine Each.fine_when 11 66 rfl rfl (fun ev w1 hh => ?_) (fun hg ev w1 hR hb hh => ?_)
          · exact hh.at 0
          · clear hh
            have e8 := hR.old 8 rfl
            simp only [Array.getD_eq_getD_getElem?, List.getElem?_toArray, List.getElem?_cons_succ, List.getElem?_cons_zero, Option.getD_some] at e8
            refine Each.Goes.same ?_
            go_simp
            try with_reducible rfl
        · refine Each.fine_when 11 66 rfl rfl (fun ev w1 hh => ?_) (fun hg ev w1 hR hb hh => ?_)
          · exact hh.at 2
          · have e67 := (show (((r != 3)) = true → ev (.tmp 67) = .slice (some ⟨bl, off, none⟩) ln cap0) from hh.at 0) hg
            have e68 := (show (((r != 3)) = true → ev (.tmp 68) = .int .i64 (k : Int)) from hh.at 1) hg
            clear hh
            have h01 : (0 : Int) ≤ (k : Int) := by omega
            have t1 := T1.out
            refine Each.Goes.same ?_
            go_simp
            all_goals (try with_reducible rfl)
        · refine Each.fine_when 11 66 rfl rfl (fun ev w1 hh => ?_) (fun hg ev w1 hR hb hh => ?_)
          · exact hh.at 1
          · have e69 := (show (((r != 3)) = true → ev (.tmp 69) = .pointer (some ⟨bl, off + k, none⟩)) from hh.at 0) hg
            clear hh
            have qc := (hb.cell (p := ⟨bl, off + k, none⟩) HBL.out).trans HCQ.out
            refine Each.Goes.same ?_
            go_simp
            try with_reducible rfl
        · refine Each.fine_when 11 66 rfl rfl (fun ev w1 hh => ?_) (fun hg ev w1 hR hb hh => ?_)
          · exact hh.at 1
          · have e70 := (show (((r != 3)) = true → ev (.tmp 70) = .int .u8 ((xn : Nat) : Int)) from hh.at 0) hg
            clear hh
            have ec := hR.const
            have g1 := Rr.out
            refine Each.Goes.same ?_
            go_simp
            try with_reducible rfl
        · refine Each.fine_when 11 66 rfl rfl (fun ev w1 hh => ?_) (fun hg ev w1 hR hb hh => ?_)
          · exact hh.at 1
          · have e71 := (show (((r != 3)) = true → ev (.tmp 71) = .int .u8 ((r : Nat) : Int)) from hh.at 0) hg
            clear hh
            have ec := hR.const
            have hr := Hr.out.1
            clear Hr
            refine Each.Goes.same ?_
            rcases (by omega : r = 0 ∨ r = 1 ∨ r = 2 ∨ r = 3 ∨ r = 4 ∨ r = 5) with h9 | h9 | h9 | h9 | h9 | h9 <;> subst h9 <;> go_simp <;> (try with_reducible rfl)
        · refine Each.fine rfl (fun ev w1 hR hb hh => ?_)
          have e66 : (ev (.tmp 66) = .bool ((r != 3))) := hh.at 0
          have h72 : (((r != 3)) = true → ev (.tmp 72) = .bool ((r != 4))) := hh.at 1
          clear hh
          have ec := hR.const
          refine Each.Goes.same ?_
          rcases Bool.eq_false_or_eq_true ((r != 3)) with hx | hx
          · rw [hx] at e66 ⊢
            have e72 := h72 hx
            go_simp
            try with_reducible rfl
          · rw [hx] at e66 ⊢
            go_simp
            try with_reducible rfl
        · refine Each.fine rfl (fun ev w1 hR hb hh => ?_)
          have e59 : (ev (.tmp 59) = .int .u8 ((r : Nat) : Int)) := hh.at 0
          clear hh
          have e7 := hR.old 7 rfl
          simp only [Array.getD_eq_getD_getElem?, List.getElem?_toArray, List.getElem?_cons_succ, List.getElem?_cons_zero, Option.getD_some] at e7
          have hi1 := Hr.out.1; have hi2 := Hr.out.2; have hi3 : (0 : Int) ≤ (r : Int) := by omega
          refine Each.Goes.same ?_
          go_simp
          try with_reducible rfl
      intro g1 w2 hb hf
      have z73 : (g1 73 = .bool (((r != 3) && (r != 4)))) := hf.at 18
      have z74 : (g1 74 = .pointer (some ⟨gG, r, none⟩)) := hf.at 19
      clear hf
      simp only [Each.putg, Act.put, List.setIfInBounds_toArray, List.set_cons_zero, List.set_cons_succ]
      rw [z73, z74]
      simp only [Tree.grow, Tree.put1, List.getElem?_cons_zero, List.getElem?_cons_succ]
      have q3 := (HKG2.out.below hb).c r _ (goneC_at bs k r Hr.out.1); have z3 := (HKG2.out.below hb).z r Hr.out.1
      have HKG3 : Hid (Rec.Bk (w2.setCell ⟨gG, r, none⟩ (.bool (r != 3 && r != 4))) gG (goneC bs (k + 1))) := Lib.hid (by rw [← HGC.out]; exact (HKG2.out.below hb).set r _ Hr.out.1)
      have HKA3 : Hid (Rec.Bk (w2.setCell ⟨gG, r, none⟩ (.bool (r != 3 && r != 4))) gA all6) := Lib.hid ((HKA2.out.below hb).other gG r _ HGA.out)
      have HB3 := Lib.hid ((Base.below_step HB2.out hb).setCell (p := ⟨gG, r, none⟩) HGG.out (.bool (r != 3 && r != 4)))
      clear hb
      refine Tree.change (by rfl) (fun K hK => ?_)
      go_simp
      refine hK _ _ trivial ?_
      clear hK K q3 z3
      refine Tree.done ?_
      have e1 : wrap64 ((k : Int) + 1) = (k : Int) + 1 := by unfold wrap64; omega
      go_wp2_with fail
      clear e1
      go_roundw
      case rel => exact ⟨k + 1, by omega, by go_num, rfl, HKA3, HKG3, HB3⟩
      case measure => simp [intOf]; omega
    · obtain rfl : ln = k := by omega
      have t1 : ¬ (ln : Int) < (ln : Int) := by omega
      obtain ⟨V0, hV0⟩ : ∃ V0, conV bs ln = V0 := ⟨_, rfl⟩
      rw [hV0]
      have HV9 := Lib.hid hV0
      have HOX0 := Lib.hid (World.ownsRow_lit (base := wr.heap.size) (e := 28) (size := 2) wr #[.string ⟨#[67, 111, 110, 110, 101, 99, 116, 105, 111, 110]⟩, .string V0] 1 (Nat.le_refl _) (by decide) rfl)
      have HBX0 := Lib.hid ((Below.refl wr.heap.size wr).alloc (Nat.le_refl _) (.cells #[.string ⟨#[67, 111, 110, 110, 101, 99, 116, 105, 111, 110]⟩, .string V0] 28))
      obtain ⟨WB, hWB⟩ : ∃ x, x = wr := ⟨_, rfl⟩
      rw [← hWB] at HOX0 HBX0 HKA HKG HB
      go_upto_region 16 with fail
      clear t1 hV0
      subst hWB
      go_loopw [9, 10, 11] (fun vx vw i wr => ∃ (k : Nat) (m : Nat), k ≤ lm ∧ m ≤ k ∧ i = .int .i64 k ∧ Hid (m = (wantL bs ls ln k).length) ∧ Hid (wr.ownsRow WB.heap.size 28 2 vx (k + 1) (cells ((conN, V0) :: behindL ls k))) ∧ Hid (wr.ownsRow WB.heap.size 28 2 vw m (cells (wantL bs ls ln k))) ∧ Hid (∀ g, vx.ownBlock = some g → vw.ownBlock ≠ some g) ∧ Hid (Below WB.heap.size WB wr)) (fun _ _ i _ => lm - (intOf i).toNat)
      case atStart => exact ⟨0, 0, Nat.zero_le _, Nat.zero_le _, rfl, Lib.hid rfl, HOX0, Lib.hid (World.ownsRow_nil _ _ _ _), Lib.hid (fun _ _ h => by cases h), HBX0⟩
      case round =>
        obtain ⟨k, m, hk, hmk, rfl, HM, HOX, HOW, HNE, HBR⟩ := hrel
        have HOX1 := HOX.out
        have HOW1 := HOW.out
        obtain ⟨gx, cx, rfl, hgx0, hgx1⟩ := HOX1.form (by omega)
        obtain ⟨aw, cw, rfl⟩ := own_slice HOW1
        clear HOX1 HOW1
        rcases Nat.lt_or_ge k lm with hlt | hge
        · have hkl : k < ls.length := by rw [HLL.out]; exact hlt
          obtain ⟨bl, off, rfl, hbl, hc⟩ := HV1.out.2 (by omega)
          have hck := hc k hlt
          rw [nums_byte ls k hkl] at hck
          have hx9 := byteAt_lt ls k
          have hbw : Below w.heap.size w wr := Base.below_step HB.out HBR.out
          have hbs := behindL_succ ls k
          have hws := wantL_succ bs ls ln k
          unfold fieldAt at hbs hws
          obtain ⟨r, e6⟩ : ∃ r, byteAt ls k % 6 = r := ⟨_, rfl⟩
          rw [e6] at hbs hws
          have hr6 : r < 6 := by omega
          obtain ⟨hX, hsX⟩ := al_at r hr6
          have HX := Lib.hid hX
          have hgo := goneC_at bs ln r hr6
          generalize al r = X at *
          have Rr := Lib.hid (show Int.tmod ((byteAt ls k : Nat) : Int) 6 = (r : Int) by rw [Int.tmod_eq_emod_of_nonneg (by omega)]; omega)
          have Hr := Lib.hid (show r < 6 ∧ (r : Int) < 6 from ⟨hr6, by omega⟩)
          have HPU : Hid (∀ w', Calls Tryd.prog 19 #[.int .i64 (k : Int)] w' fun e w2 => e = .returned (.string (putN k)) ∧ Below w'.heap.size w' w2) := Lib.hid fun w' => (Num.rput_any (k : Int) w' (by omega) (by omega)).mono (by rintro e w2 ⟨rfl, q, rfl⟩; exact ⟨rfl, Base.below_drewN (Below.refl _ _) q⟩)
          have HBS := Lib.hid hbs; have HWS := Lib.hid hws
          have HKA : Hid (Rec.Bk wr gA all6) := Lib.hid (HKA.out.below HBR.out); have HKGw : Hid (Rec.Bk wr gG (goneC bs ln)) := Lib.hid (HKG.out.below HBR.out)
          have HGO := Lib.hid hgo
          have HBL0 := Lib.hid hbl; have HCK := Lib.hid hck
          have HCQ := Lib.hid ((hbw.cell (p := ⟨bl, off + k, none⟩) hbl).trans hck)
          have HBL := Lib.hid (Nat.lt_of_lt_of_le hbl hbw.size)
          have T1 := Lib.hid (show (k : Int) < (lm : Int) by omega)
          generalize hxn : byteAt ls k = xn at *
          have t1 : (k : Int) < (lm : Int) := T1.out
          clear hc hck hx9 hbs hws e6 hr6 hX hsX hkl hbl hxn hbw hgo
          go_upto_region 18 with fail
          clear t1
          refine Each.region 12 [84, 85, 86, 87, 88, 89, 90, 91, 92, 93, 94, 12]
              [fun v _ => v = .slice (some ⟨gA, 0, none⟩) 6 6,
                fun v _ => v = .slice (some ⟨bl, off, none⟩) lm cap1,
                fun v _ => v = .int .i64 (k : Int),
                fun v _ => v = .pointer (some ⟨bl, off + k, none⟩),
                fun v _ => v = .int .u8 ((xn : Nat) : Int),
                fun v _ => v = .int .u8 ((r : Nat) : Int),
                fun v _ => v = .pointer (some ⟨gA, r, none⟩),
                fun v _ => v = .string X,
                fun v _ => v = .int .i64 (k : Int),
                fun v _ => v = .string (putN k),
                fun v _ => v = .agg #[.string X, .string (putN k)],
                fun v w => ∃ g, v = .pointer (some ⟨g, 0, none⟩) ∧ wr.heap.size ≤ g ∧ Rec.Bk w g [.string ⟨#[]⟩, .string ⟨#[]⟩]]
              (.act 12 .done) (by kernel_rfl) (by kernel_rfl) (by kernel_rfl) (by kernel_rfl) (fun _ _ d _ _ h => by cases d <;> exact h) (by rfl) (by rfl)
              ⟨Each.Lasts.eq _, Each.Lasts.eq _, Each.Lasts.eq _, Each.Lasts.eq _, Each.Lasts.eq _, Each.Lasts.eq _, Each.Lasts.eq _, Each.Lasts.eq _, Each.Lasts.eq _, Each.Lasts.eq _, Each.Lasts.eq _, ((fun _ _ _ hb h => by obtain ⟨g, rfl, hg, hB⟩ := h; exact ⟨g, rfl, hg, hB.below hb⟩)), trivial⟩ ?_ ?_
          · refine ⟨?_, ?_, ?_, ?_, ?_, ?_, ?_, ?_, ?_, ?_, ?_, ?_, trivial⟩
            · refine Each.fine rfl (fun ev w1 hR hb hh => ?_)
              clear hh
              have e5 := hR.old 5 rfl
              simp only [Array.getD_eq_getD_getElem?, List.getElem?_toArray, List.getElem?_cons_succ, List.getElem?_cons_zero, Option.getD_some] at e5
              refine Each.Goes.same ?_
              go_simp
              try with_reducible rfl
            · refine Each.fine rfl (fun ev w1 hR hb hh => ?_)
              clear hh
              have e1 := hR.old 1 rfl
              simp only [Array.getD_eq_getD_getElem?, List.getElem?_toArray, List.getElem?_cons_succ, List.getElem?_cons_zero, Option.getD_some] at e1
              refine Each.Goes.same ?_
              go_simp
              try with_reducible rfl
            · refine Each.fine rfl (fun ev w1 hR hb hh => ?_)
              clear hh
              have e11 := hR.old 11 rfl
              simp only [Array.getD_eq_getD_getElem?, List.getElem?_toArray, List.getElem?_cons_succ, List.getElem?_cons_zero, Option.getD_some] at e11
              refine Each.Goes.same ?_
              go_simp
              try with_reducible rfl
            · refine Each.fine rfl (fun ev w1 hR hb hh => ?_)
              have e85 : (ev (.tmp 85) = .slice (some ⟨bl, off, none⟩) lm cap1) := hh.at 0
              have e86 : (ev (.tmp 86) = .int .i64 (k : Int)) := hh.at 1
              clear hh
              have h01 : (0 : Int) ≤ (k : Int) := by omega
              have t1 := T1.out
              refine Each.Goes.same ?_
              go_simp
              all_goals (try with_reducible rfl)
            · refine Each.fine rfl (fun ev w1 hR hb hh => ?_)
              have e87 : (ev (.tmp 87) = .pointer (some ⟨bl, off + k, none⟩)) := hh.at 0
              clear hh
              have qc := (hb.cell (p := ⟨bl, off + k, none⟩) HBL.out).trans HCQ.out
              refine Each.Goes.same ?_
              go_simp
              try with_reducible rfl
            · refine Each.fine rfl (fun ev w1 hR hb hh => ?_)
              have e88 : (ev (.tmp 88) = .int .u8 ((xn : Nat) : Int)) := hh.at 0
              clear hh
              have ec := hR.const
              have g1 := Rr.out
              refine Each.Goes.same ?_
              go_simp
              try with_reducible rfl
            · refine Each.fine rfl (fun ev w1 hR hb hh => ?_)
              have e84 : (ev (.tmp 84) = .slice (some ⟨gA, 0, none⟩) 6 6) := hh.at 0
              have e89 : (ev (.tmp 89) = .int .u8 ((r : Nat) : Int)) := hh.at 1
              clear hh
              have hi1 := Hr.out.1; have hi2 := Hr.out.2; have hi3 : (0 : Int) ≤ (r : Int) := by omega
              refine Each.Goes.same ?_
              go_simp
              try with_reducible rfl
            · refine Each.fine rfl (fun ev w1 hR hb hh => ?_)
              have e90 : (ev (.tmp 90) = .pointer (some ⟨gA, r, none⟩)) := hh.at 0
              clear hh
              have q0 := ((HKA.out.drew 1).below hb).c r _ HX.out
              refine Each.Goes.same ?_
              go_simp
              try with_reducible rfl
            · refine Each.fine rfl (fun ev w1 hR hb hh => ?_)
              clear hh
              have e11 := hR.old 11 rfl
              simp only [Array.getD_eq_getD_getElem?, List.getElem?_toArray, List.getElem?_cons_succ, List.getElem?_cons_zero, Option.getD_some] at e11
              refine Each.Goes.same ?_
              go_simp
              try with_reducible rfl
            · refine Each.fine rfl (fun ev w1 hR hb hh => ?_)
              have e92 : (ev (.tmp 92) = .int .i64 (k : Int)) := hh.at 0
              clear hh
              have ef := hR.func
              refine Each.Goes.enter 19 #[.int .i64 (k : Int)] (by go_simp) ((HPU.out w1).mono ?_)
              rintro e w2 ⟨rfl, hb2⟩
              exact ⟨_, rfl, hb2, rfl⟩
            · refine Each.fine rfl (fun ev w1 hR hb hh => ?_)
              have e91 : (ev (.tmp 91) = .string X) := hh.at 0
              have e93 : (ev (.tmp 93) = .string (putN k)) := hh.at 1
              clear hh
              refine Each.Goes.same ?_
              go_simp
              try with_reducible rfl
            · refine Each.fine rfl (fun ev w1 hR hb hh => ?_)
              clear hh
              exact Each.Goes.value (.pointer (some ⟨w1.heap.size, 0, none⟩)) (w1.alloc (.cells #[.string ⟨#[]⟩, .string ⟨#[]⟩] 28)) (by go_simp) ((Below.refl _ _).alloc (Nat.le_refl _) _) ⟨_, rfl, hb.size, Rec.Bk.new w1 _ rfl 28 [.string ⟨#[]⟩, .string ⟨#[]⟩]⟩
          intro g1 w2 hb hf
          have z94 : (g1 94 = .agg #[.string X, .string (putN k)]) := hf.at 10
          have z12 : ((fun v w => ∃ g, v = .pointer (some ⟨g, 0, none⟩) ∧ wr.heap.size ≤ g ∧ Rec.Bk w g [.string ⟨#[]⟩, .string ⟨#[]⟩]) (g1 12) w2) := hf.at 11
          clear hf
          simp only [Each.putg, Act.put, List.setIfInBounds_toArray, List.set_cons_zero, List.set_cons_succ]
          obtain ⟨gf, ef, hgf, hBf⟩ := z12
          rw [z94, ef]
          simp only [Tree.grow, Tree.put1, List.getElem?_cons_zero, List.getElem?_cons_succ]
          have q0 := hBf.c 0 _ rfl; have q1 := hBf.c 1 _ rfl; have z0 := hBf.z 0 (by simp); have z1 := hBf.z 1 (by simp)
          have hgl := hBf.lt
          have HKF : Hid (Rec.Bk ((w2.setCell ⟨gf, 0, none⟩ (.string X)).setCell ⟨gf, 1, none⟩ (.string (putN k))) gf [.string X, .string (putN k)]) := Lib.hid ((hBf.set 0 (.string X) (by simp)).set 1 (.string (putN k)) (by simp))
          have HBF : Hid (Below wr.heap.size wr ((w2.setCell ⟨gf, 0, none⟩ (.string X)).setCell ⟨gf, 1, none⟩ (.string (putN k)))) := Lib.hid ((hb.setCell (p := ⟨gf, 0, none⟩) hgf _).setCell (p := ⟨gf, 1, none⟩) hgf _)
          have HGF := Lib.hid hgf
          refine Tree.change (by rfl) (fun K hK => ?_)
          go_simp
          refine hK _ _ trivial ?_
          clear hK K q0 q1 z0 z1 hgl hBf hgf hb
          refine Tree.done ?_
          generalize (w2.setCell ⟨gf, 0, none⟩ (.string X)).setCell ⟨gf, 1, none⟩ (.string (putN k)) = W8 at *
          clear ef
          have q0 := HKF.out.c 0 _ rfl; have q1 := HKF.out.c 1 _ rfl
          have HOX8 := Lib.hid (own_below HOX.out HBF.out); have HOW8 := Lib.hid (own_below HOW.out HBF.out)
          have HB8 := Lib.hid (Base.below_step HBR.out HBF.out)
          go_upto_region 20 with (first
            | (at_builtin; refine App.wpList_append_list _ rfl _ _ 22 rfl WB.heap.size 28 i0 (.agg #[.string ByteArray.empty, .string ByteArray.empty]) 2 32 Tryd.underlying22 G1.out G2.out G3.out G4.out rfl (by decide) _ (k + 1) (cells ((conN, V0) :: behindL ls k)) rfl (HOX8.out.alloc (.cells #[.string X, .string (putN k)] 28)) (some ⟨W8.heap.size, 0, none⟩) 1 1 (cells [(X, putN k)]) rfl rfl (cells_here (flds_one W8 28 X (putN k))) (cells_one _) (by unfold maxLen; omega) (by omega) (by have := HB8.out.size; simp; omega) ?_
               intro v9 w9 hO9 hgr9 _ hloc9
               have HO9 : Hid (w9.ownsRow WB.heap.size 28 2 v9 (k + 1 + 1) (cells ((conN, V0) :: behindL ls (k + 1)))) := Lib.hid (by rw [HBS.out, ← List.cons_append, cells_append]; exact hO9)
               have hne9 : (Value.slice aw m cw).ownBlock = none ∨ (Value.slice aw m cw).ownBlock ≠ some gx := .inr (HNE.out gx rfl)
               have HOW9 := Lib.hid ((HOW8.out.alloc (.cells #[.string X, .string (putN k)] 28)).kept hgr9 hne9)
               have HB9 := Lib.hid ((HB8.out.alloc HB8.out.size (.cells #[.string X, .string (putN k)] 28)).grown hgr9 (by have := HB8.out.size; simp; omega) (fun q e => (HOX8.out.lt q e).1))
               have HKF9 : Hid (Rec.Bk w9 gf [.string X, .string (putN k)]) := Lib.hid (Bk.kept (HKF.out.alloc _) hgr9 (fun e => by have h7 : gf = gx := Option.some.inj e; have := HGF.out; omega))
               have HNE9 : Hid (∀ g, v9.ownBlock = some g → (Value.slice aw m cw).ownBlock ≠ some g) := Lib.hid (fun g hg e => by
                 rcases hloc9 with h | h
                 · rw [h] at hg; exact HNE.out g hg e
                 · rw [h] at hg
                   have h7 := (HOW8.out.lt g e).2
                   have h8 : (W8.alloc (.cells #[.string X, .string (putN k)] 28)).heap.size = g := Option.some.inj hg
                   simp at h8; omega)
               clear hO9 hgr9 hloc9 hne9))
          clear q0 q1
          have HKG9 := HKG.out.below HB9.out
          have g1 := Rr.out; have i1 := Hr.out.2; have i2 : (0 : Int) ≤ (r : Int) := by omega
          have qc := ((Base.below_step HB.out HB9.out).cell (p := ⟨bl, off + k, none⟩) HBL0.out).trans HCK.out
          have qg := HKG9.c r _ HGO.out
          have t1 := T1.out
          have i3 : (0 : Int) ≤ (k : Int) := by omega
          cases hgone : goneAt bs ln r with
          | true =>
            rw [hgone] at qg
            have hW := HWS.out
            rw [hgone, if_pos rfl, List.append_nil] at hW
            have HW := Lib.hid hW
            clear hgone hW
            go_wp2_with fail
            clear g1 i1 i2 qc qg t1 i3 HKG9
            go_roundw
            case rel => exact ⟨k + 1, m, by omega, by omega, by go_num, Lib.hid (by rw [HW.out]; exact HM.out), HO9, Lib.hid (by rw [HW.out]; exact HOW9.out), HNE9, HB9⟩
            case measure => simp [intOf]; omega
          | false =>
            rw [hgone] at qg
            have hW := HWS.out
            rw [hgone, if_neg (by decide)] at hW
            have HW := Lib.hid hW
            have q0 := HKF9.out.c 0 _ rfl; have q1 := HKF9.out.c 1 _ rfl
            clear hgone hW
            go_wp2_with (first
              | (at_builtin; refine App.wpList_append_list _ rfl _ _ 22 rfl WB.heap.size 28 i0 (.agg #[.string ByteArray.empty, .string ByteArray.empty]) 2 32 Tryd.underlying22 G1.out G2.out G3.out G4.out rfl (by decide) _ m (cells (wantL bs ls ln k)) rfl (HOW9.out.alloc (.cells #[.string X, .string (putN k)] 28)) (some ⟨w9.heap.size, 0, none⟩) 1 1 (cells [(X, putN k)]) rfl rfl (cells_here (flds_one w9 28 X (putN k))) (cells_one _) (by unfold maxLen; omega) (by omega) (by have := HB9.out.size; simp; omega) ?_
                 intro v10 w10 hO10 hgr10 _ hloc10
                 have HO10 : Hid (w10.ownsRow WB.heap.size 28 2 v10 (m + 1) (cells (wantL bs ls ln (k + 1)))) := Lib.hid (by rw [HW.out, cells_append]; exact hO10)
                 have HB10 := Lib.hid ((HB9.out.alloc HB9.out.size (.cells #[.string X, .string (putN k)] 28)).grown hgr10 (by have := HB9.out.size; simp; omega) (fun q e => (HOW9.out.lt q e).1))
                 have HO9b := Lib.hid ((HO9.out.alloc (.cells #[.string X, .string (putN k)] 28)).kept hgr10 (by
                   rcases hq : v9.ownBlock with _ | g
                   · exact .inl rfl
                   · exact .inr (fun e => HNE9.out g hq e.symm)))
                 have HNE10 : Hid (∀ g, v9.ownBlock = some g → v10.ownBlock ≠ some g) := Lib.hid (fun g hg e => by
                   rcases hloc10 with h | h
                   · rw [h] at e; exact HNE9.out g hg e
                   · rw [h] at e
                     have h7 := (HO9.out.lt g hg).2
                     have h8 : (w9.alloc (.cells #[.string X, .string (putN k)] 28)).heap.size = g := Option.some.inj e
                     simp at h8; omega)
                 clear hO10 hgr10 hloc10))
            clear g1 i1 i2 qc qg t1 i3 HKG9 q0 q1
            go_roundw
            case rel => exact ⟨k + 1, m + 1, by omega, by omega, by go_num, Lib.hid (by rw [HW.out, List.length_append, ← HM.out]; rfl), HO9b, HO10, HNE10, HB10⟩
            case measure => simp [intOf]; omega
        · obtain rfl : lm = k := by omega
          have t1 : ¬ (lm : Int) < (lm : Int) := by omega
          have hM := HM.out
          subst hM
          have h9 := HV9.out
          subst h9
          obtain ⟨a5, c5, e5, hfX⟩ := Flds.of_own HOX.out
          obtain ⟨rfl, rfl⟩ : some ⟨gx, 0, none⟩ = a5 ∧ cx = c5 := by simpa using e5
          obtain ⟨a6, c6, e6, hfW⟩ := Flds.of_own HOW.out
          obtain ⟨rfl, rfl⟩ : aw = a6 ∧ cw = c6 := by simpa using e6
          have hcx := own_cap HOX.out
          obtain ⟨o2, ho2, hfT⟩ : ∃ o2 : Nat, ((cx = 1 ∧ o2 = 0) ∨ (¬ cx = 1 ∧ o2 = 2)) ∧ Flds wr (some ⟨gx, o2, none⟩) lm (behindL ls lm) := by
            by_cases h1 : cx = 1
            · have h0 : lm = 0 := by omega
              subst h0
              exact ⟨0, .inl ⟨h1, rfl⟩, Flds.nil _ _⟩
            · exact ⟨2, .inr ⟨h1, rfl⟩, Flds.tail hfX⟩
          have HO2 := Lib.hid ho2
          clear ho2
          have hwl := wantL_le bs ls ln lm
          have hbl : (behindL ls lm).length = lm := hfT.1
          have hcv := conV_size bs ln
          have hsz : ∀ f ∈ (conN, conV bs ln) :: behindL ls lm, f.1.size ≤ 14 ∧ f.2.size ≤ 101 := by
            intro f hf
            rcases List.mem_cons.1 hf with rfl | hf
            · exact ⟨(by decide : conN.size ≤ 14), by show (conV bs ln).size ≤ 101; omega⟩
            · obtain ⟨i, hi, rfl⟩ := List.mem_map.1 hf
              have h1 := List.mem_range.1 hi
              exact ⟨(al_at _ (by omega)).2, Nat.le_trans (putN_size i (by omega)) (by decide)⟩
          have hr1 : room (find ((conN, conV bs ln) :: behindL ls lm) conN) ≤ 900000000 := by
            have h1 := room_find ((conN, conV bs ln) :: behindL ls lm) conN 101 (fun f hf => (hsz f hf).2)
            rw [List.length_cons, hbl] at h1
            have h2 : (lm + 1) * (101 + 1) ≤ 11 * 102 := Nat.mul_le_mul_right _ (by omega)
            omega
          have hr2 : room (find (behindL ls lm) conN) ≤ 900000000 := by rw [find_behind]; decide
          have hdw : Below wr.heap.size wr (wr.drewN 1) := Base.below_drewN (Below.refl _ _) 1
          have hfX1 := hfX.below hdw; have hfT1 := hfT.below hdw; have hfW1 := hfW.below hdw
          have HS1 : Hid (∀ w1, Below (wr.drewN 1).heap.size (wr.drewN 1) w1 → Calls Tryd.prog 8 #[.slice (some ⟨gx, 0, none⟩) (lm + 1) cx] w1 fun e w2 => ∃ d c, e = .returned (.slice d (wantL bs ls ln lm).length c) ∧ Flds w2 d (wantL bs ls ln lm).length (wantL bs ls ln lm) ∧ Below w1.heap.size w1 w2) := Lib.hid fun w1 hb => by
            have h := strip_any (some ⟨gx, 0, none⟩) (lm + 1) cx _ w1 (hfX1.below hb) (by omega) (fun f hf => Nat.le_trans (hsz f hf).1 (by decide)) hr1
            rw [strip_named] at h
            exact h.mono (by rintro e w2 ⟨d, c, h1, h2, h3, -⟩; exact ⟨d, c, h1, h2, h3⟩)
          have HS2 : Hid (∀ w1, Below (wr.drewN 1).heap.size (wr.drewN 1) w1 → Calls Tryd.prog 8 #[.slice (some ⟨gx, o2, none⟩) lm (cx - 1)] w1 fun e w2 => ∃ d c, e = .returned (.slice d lm c) ∧ Flds w2 d lm (behindL ls lm) ∧ Below w1.heap.size w1 w2) := Lib.hid fun w1 hb => by
            have h := strip_any (some ⟨gx, o2, none⟩) lm (cx - 1) _ w1 (hfT1.below hb) (by omega) (fun f hf => Nat.le_trans (hsz f (by simp [hf])).1 (by decide)) hr2
            rw [strip_behind, hbl] at h
            exact h.mono (by rintro e w2 ⟨d, c, h1, h2, h3, -⟩; exact ⟨d, c, h1, h2, h3⟩)
          have HQ1 : Hid (∀ (w1 : World) (d : Option Addr) (c : Nat), Flds w1 d (wantL bs ls ln lm).length (wantL bs ls ln lm) → Below (wr.drewN 1).heap.size (wr.drewN 1) w1 → Calls Tryd.prog 9 #[.slice d (wantL bs ls ln lm).length c, .slice aw (wantL bs ls ln lm).length cw] w1 fun e w2 => e = .returned (.bool true) ∧ Below w1.heap.size w1 w2) := Lib.hid fun w1 d c h hb => by
            have h := rfields_any d _ c _ aw _ cw _ w1 h (hfW1.below hb) (by omega) (by omega)
            rw [decide_eq_true rfl] at h
            exact h.mono (by rintro e w2 ⟨h1, q, rfl⟩; exact ⟨h1, Base.below_drewN (Below.refl _ _) q⟩)
          have HQ2 : Hid (∀ (w1 : World) (d : Option Addr) (c : Nat), Flds w1 d lm (behindL ls lm) → Below (wr.drewN 1).heap.size (wr.drewN 1) w1 → Calls Tryd.prog 9 #[.slice d lm c, .slice (some ⟨gx, o2, none⟩) lm (cx - 1)] w1 fun e w2 => e = .returned (.bool true) ∧ Below w1.heap.size w1 w2) := Lib.hid fun w1 d c h hb => by
            have h := rfields_any d _ c _ (some ⟨gx, o2, none⟩) _ (cx - 1) _ w1 h (hfT1.below hb) (by omega) (by omega)
            rw [decide_eq_true rfl] at h
            exact h.mono (by rintro e w2 ⟨h1, q, rfl⟩; exact ⟨h1, Base.below_drewN (Below.refl _ _) q⟩)
          have HCX := Lib.hid (show (1 : Int) ≤ ((lm + 1 : Nat) : Int) ∧ ((lm + 1 : Nat) : Int) ≤ (cx : Int) ∧ (1 : Int) ≤ (lm : Int) + 1 ∧ (lm : Int) + 1 ≤ (cx : Int) from ⟨by omega, by omega, by omega, by omega⟩)
          have HBW : Hid (Below w.heap.size w wr) := Lib.hid (Base.below_step HB.out HBR.out)
          clear hr1 hr2 hsz hfX hfT hfW hfX1 hfT1 hfW1 e5 e6 hcx hcv hbl hdw
          go_upto_region 22 with fail
          clear t1
          refine Each.region 12 [111, 112, 113, 114, 115, 116, 117, 118, 119, 120, 121, 122]
              [fun v _ => v = .slice (some ⟨gx, 0, none⟩) (lm + 1) cx,
                fun v w => ∃ d c, v = .slice d (wantL bs ls ln lm).length c ∧ Flds w d (wantL bs ls ln lm).length (wantL bs ls ln lm),
                fun v _ => v = .slice aw (wantL bs ls ln lm).length cw,
                fun v _ => v = .bool true,
                fun v _ => v = .bool true,
                Each.When (true) true (fun v _ => v = .slice (some ⟨gx, 0, none⟩) (lm + 1) cx),
                Each.When (true) true (fun v _ => v = .slice (some ⟨gx, o2, none⟩) lm (cx - 1)),
                Each.When (true) true (fun v w => ∃ d c, v = .slice d lm c ∧ Flds w d lm (behindL ls lm)),
                Each.When (true) true (fun v _ => v = .slice (some ⟨gx, 0, none⟩) (lm + 1) cx),
                Each.When (true) true (fun v _ => v = .slice (some ⟨gx, o2, none⟩) lm (cx - 1)),
                Each.When (true) true (fun v _ => v = .bool true),
                fun v _ => v = .bool true]
              (.quiet 12 .done) (by kernel_rfl) (by kernel_rfl) (by kernel_rfl) (by kernel_rfl) (fun _ _ d _ _ h => by cases d <;> exact h) (by rfl) (by rfl)
              ⟨Each.Lasts.eq _, ((fun _ _ _ hb h => by obtain ⟨d, c, rfl, hF⟩ := h; exact ⟨d, c, rfl, hF.below hb⟩)), Each.Lasts.eq _, Each.Lasts.eq _, Each.Lasts.eq _, Each.Lasts.when (Each.Lasts.eq _), Each.Lasts.when (Each.Lasts.eq _), Each.Lasts.when ((fun _ _ _ hb h => by obtain ⟨d, c, rfl, hF⟩ := h; exact ⟨d, c, rfl, hF.below hb⟩)), Each.Lasts.when (Each.Lasts.eq _), Each.Lasts.when (Each.Lasts.eq _), Each.Lasts.when (Each.Lasts.eq _), Each.Lasts.eq _, trivial⟩ ?_ ?_
          · refine ⟨?_, ?_, ?_, ?_, ?_, ?_, ?_, ?_, ?_, ?_, ?_, ?_, trivial⟩
            · refine Each.fine rfl (fun ev w1 hR hb hh => ?_)
              clear hh
              have e9 := hR.old 9 rfl
              simp only [Array.getD_eq_getD_getElem?, List.getElem?_toArray, List.getElem?_cons_succ, List.getElem?_cons_zero, Option.getD_some] at e9
              refine Each.Goes.same ?_
              go_simp
              try with_reducible rfl
            · refine Each.fine rfl (fun ev w1 hR hb hh => ?_)
              have e111 : (ev (.tmp 111) = .slice (some ⟨gx, 0, none⟩) (lm + 1) cx) := hh.at 0
              clear hh
              have ef := hR.func
              refine Each.Goes.enter 8 #[.slice (some ⟨gx, 0, none⟩) (lm + 1) cx] (by go_simp) ((HS1.out w1 hb).mono ?_)
              rintro e w2 ⟨d, c, rfl, hF, hb2⟩
              exact ⟨_, rfl, hb2, ⟨d, c, rfl, hF⟩⟩
            · refine Each.fine rfl (fun ev w1 hR hb hh => ?_)
              clear hh
              have e10 := hR.old 10 rfl
              simp only [Array.getD_eq_getD_getElem?, List.getElem?_toArray, List.getElem?_cons_succ, List.getElem?_cons_zero, Option.getD_some] at e10
              refine Each.Goes.same ?_
              go_simp
              try with_reducible rfl
            · refine Each.fine rfl (fun ev w1 hR hb hh => ?_)
              have e112 : ((fun v w => ∃ d c, v = .slice d (wantL bs ls ln lm).length c ∧ Flds w d (wantL bs ls ln lm).length (wantL bs ls ln lm)) (ev (.tmp 112)) w1) := hh.at 0
              have e113 : (ev (.tmp 113) = .slice aw (wantL bs ls ln lm).length cw) := hh.at 1
              clear hh
              have ef := hR.func
              obtain ⟨d, c, e9, hF⟩ := e112
              refine Each.Goes.enter 9 #[.slice d (wantL bs ls ln lm).length c, .slice aw (wantL bs ls ln lm).length cw] (by go_simp) ((HQ1.out w1 d c hF hb).mono ?_)
              rintro e w2 ⟨rfl, hb2⟩
              exact ⟨_, rfl, hb2, rfl⟩
            · refine Each.fine rfl (fun ev w1 hR hb hh => ?_)
              have e114 : (ev (.tmp 114) = .bool true) := hh.at 0
              clear hh
              refine Each.Goes.same ?_
              go_simp
              try with_reducible rfl
            · refine Each.fine_when 4 115 rfl rfl (fun ev w1 hh => ?_) (fun hg ev w1 hR hb hh => ?_)
              · exact hh.at 0
              · clear hh
                have e9 := hR.old 9 rfl
                simp only [Array.getD_eq_getD_getElem?, List.getElem?_toArray, List.getElem?_cons_succ, List.getElem?_cons_zero, Option.getD_some] at e9
                refine Each.Goes.same ?_
                go_simp
                try with_reducible rfl
            · refine Each.fine_when 4 115 rfl rfl (fun ev w1 hh => ?_) (fun hg ev w1 hR hb hh => ?_)
              · exact hh.at 1
              · have e116 := (show ((true) = true → ev (.tmp 116) = .slice (some ⟨gx, 0, none⟩) (lm + 1) cx) from hh.at 0) hg
                clear hh
                have ec := hR.const
                obtain ⟨s1, s2, s3, s4⟩ := HCX.out
                refine Each.Goes.same ?_
                rcases HO2.out with ⟨h1, h2⟩ | ⟨h1, h2⟩
                · subst h2; subst h1
                  go_simp
                  all_goals (try with_reducible rfl)
                · subst h2
                  go_simp
                  all_goals (try with_reducible rfl)
            · refine Each.fine_when 4 115 rfl rfl (fun ev w1 hh => ?_) (fun hg ev w1 hR hb hh => ?_)
              · exact hh.at 1
              · have e117 := (show ((true) = true → ev (.tmp 117) = .slice (some ⟨gx, o2, none⟩) lm (cx - 1)) from hh.at 0) hg
                clear hh
                have ef := hR.func
                refine Each.Goes.enter 8 #[.slice (some ⟨gx, o2, none⟩) lm (cx - 1)] (by go_simp) ((HS2.out w1 hb).mono ?_)
                rintro e w2 ⟨d, c, rfl, hF, hb2⟩
                exact ⟨_, rfl, hb2, ⟨d, c, rfl, hF⟩⟩
            · refine Each.fine_when 4 115 rfl rfl (fun ev w1 hh => ?_) (fun hg ev w1 hR hb hh => ?_)
              · exact hh.at 0
              · clear hh
                have e9 := hR.old 9 rfl
                simp only [Array.getD_eq_getD_getElem?, List.getElem?_toArray, List.getElem?_cons_succ, List.getElem?_cons_zero, Option.getD_some] at e9
                refine Each.Goes.same ?_
                go_simp
                try with_reducible rfl
            · refine Each.fine_when 4 115 rfl rfl (fun ev w1 hh => ?_) (fun hg ev w1 hR hb hh => ?_)
              · exact hh.at 1
              · have e119 := (show ((true) = true → ev (.tmp 119) = .slice (some ⟨gx, 0, none⟩) (lm + 1) cx) from hh.at 0) hg
                clear hh
                have ec := hR.const
                obtain ⟨s1, s2, s3, s4⟩ := HCX.out
                refine Each.Goes.same ?_
                rcases HO2.out with ⟨h1, h2⟩ | ⟨h1, h2⟩
                · subst h2; subst h1
                  go_simp
                  all_goals (try with_reducible rfl)
                · subst h2
                  go_simp
                  all_goals (try with_reducible rfl)
            · refine Each.fine_when 4 115 rfl rfl (fun ev w1 hh => ?_) (fun hg ev w1 hR hb hh => ?_)
              · exact hh.at 3
              · have e118 := (show ((true) = true → (fun v w => ∃ d c, v = .slice d lm c ∧ Flds w d lm (behindL ls lm)) (ev (.tmp 118)) w1) from hh.at 0) hg
                have e120 := (show ((true) = true → ev (.tmp 120) = .slice (some ⟨gx, o2, none⟩) lm (cx - 1)) from hh.at 1) hg
                clear hh
                have ef := hR.func
                obtain ⟨d, c, e9, hF⟩ := e118
                refine Each.Goes.enter 9 #[.slice d lm c, .slice (some ⟨gx, o2, none⟩) lm (cx - 1)] (by go_simp) ((HQ2.out w1 d c hF hb).mono ?_)
                rintro e w2 ⟨rfl, hb2⟩
                exact ⟨_, rfl, hb2, rfl⟩
            · refine Each.fine rfl (fun ev w1 hR hb hh => ?_)
              have e115 : (ev (.tmp 115) = .bool true) := hh.at 0
              have h121 : ((true) = true → ev (.tmp 121) = .bool true) := hh.at 1
              clear hh
              have ec := hR.const
              refine Each.Goes.same ?_
              have e121 := h121 rfl
              go_simp
              try with_reducible rfl
          intro ga w5 hb5 hf
          have z122 : (ga 122 = .bool true) := hf.at 11
          clear hf
          simp only [Each.putg, Act.put, List.setIfInBounds_toArray, List.set_cons_zero, List.set_cons_succ]
          rw [z122]
          simp only [Tree.grow, Tree.put1, List.getElem?_cons_zero, List.getElem?_cons_succ]
          refine Tree.assign _ (by rfl) (by rfl) ?_
          simp only [Act.put, Act.eval, Array.getD_eq_getD_getElem?, List.getElem?_toArray, List.getElem?_cons_zero, List.getElem?_cons_succ, Option.getD_some, List.setIfInBounds_toArray, List.set_cons_zero, List.set_cons_succ]
          refine Tree.done ?_
          go_wp2_with fail
          go_ret
          exact ⟨rfl, Base.below_step HBW.out hb5⟩
end code
end Go.Proofs.YtoackhbkngfhkaaDoor.Hop
