/-
  Layer 10 (framing): the walk of FramingTells: it returns true, and writes nothing that was there.
-/
import Derived.Test.YtoakalklbpoknaaDoorFrmKnown
import Derived.Test.YtoakalklbpoknaaDoorFrmSeat
import Derived.Test.YtoakalklbpoknaaDoorFrmRAll
import Derived.Test.YtoakalklbpoknaaDoorHelpFields
import Derived.Test.YtoakalklbpoknaaDoorSeat
import Derived.Deep.CutBlock
import Derived.Deep.DeepCutAuto
namespace Go.Proofs.YtoakalklbpoknaaDoor.Frm
open Go.RowKit Base Txt

theorem cells_lie {w : World} {a : Option Addr} {n : Nat} {fs : List Fld} (h : Flds w a n fs) (hn : 0 < n) : ∃ b off, a = some ⟨b, off, none⟩ ∧ ∀ j u, (cells fs)[j]? = some u → w.cell? ⟨b, off + j, none⟩ = some u := by
  obtain ⟨b, off, rfl, _, hc⟩ := h.2 hn
  refine ⟨b, off, rfl, fun j u hj => ?_⟩
  have hl := h.1
  have hlen : j < (cells fs).length := by
    rcases Nat.lt_or_ge j (cells fs).length with h | h
    · exact h
    · rw [List.getElem?_eq_none h] at hj; cases hj
  rw [cells_length, hl] at hlen
  have hk : j / 2 < n := by omega
  obtain ⟨h0, h1⟩ := hc (j / 2) hk
  obtain ⟨g0, g1⟩ := cells_at fs (j / 2) (by omega)
  rcases Nat.mod_two_eq_zero_or_one j with hm | hm
  · have e : j / 2 * 2 = j := by omega
    rw [e] at h0 g0
    rw [h0, ← hj, g0]
  · have e : j / 2 * 2 + 1 = j := by omega
    rw [show off + j / 2 * 2 + 1 = off + (j / 2 * 2 + 1) by omega, e] at h1
    rw [e] at g1
    rw [h1, ← hj, g1]
theorem cells_all_one (fs : List Fld) : ∀ u ∈ cells fs, u.oneCell' = true := by
  intro u hu
  unfold cells at hu
  obtain ⟨f, _, hf⟩ := List.mem_flatMap.1 hu
  rcases (by simpa using hf : u = .string f.1 ∨ u = .string f.2) with rfl | rfl <;> rfl
theorem u32s_at (w : World) (t : TypeId) (qs : List Nat) (k : Nat) (hk : k < qs.length) : (w.alloc (.cells ((qs.map fun q : Nat => Value.int .u32 (q : Int)).toArray) t)).cell? ⟨w.heap.size, k, none⟩ = some (.int .u32 ((qs[k]?.getD 0 : Nat) : Int)) := by
  rw [cell_of_row (w.alloc _) w.heap.size k _ t (0, 0) (heap_alloc_new w _)]
  simp [List.getElem?_eq_getElem hk]
theorem vals_at (w : World) (t : TypeId) (vs : List Value) (k : Nat) (hk : k < vs.length) : (w.alloc (.cells vs.toArray t)).cell? ⟨w.heap.size, k, none⟩ = some (vs[k]?.getD (.bool false)) := by
  rw [cell_of_row (w.alloc _) w.heap.size k _ t (0, 0) (heap_alloc_new w _)]
  simp [List.getElem?_eq_getElem hk]

section code
set_option maxHeartbeats 8000000
set_option maxRecDepth 100000
attribute [local go_sem] Base.some_undef
theorem framingTells_any (a0 : Option Addr) (n0 cap0 : Nat) (raw : List Fld) (a1 : Option Addr) (n1 cap1 : Nat) (bs : List UInt8) (a k : Nat) (minor : Int) (host : Bool) (w : World)
    (hv0 : Flds w a0 n0 raw) (hn0 : n0 ≤ maxLen) (hz0 : ∀ f ∈ raw, f.1.size ≤ 140737488351232 ∧ f.2.size ≤ 140737488351232) (hv1 : Nums .u8 w a1 n1 (nums bs)) (ha : a < 4294967296) (hk : k < 256) :
    Calls Tryd.prog 3 #[.slice a0 n0 cap0, .slice a1 n1 cap1, .int .u32 a, .int .u8 k, .int .i64 minor, .bool host] w fun e w' => e = .returned (.bool true) ∧ Below w.heap.size w w' := by
  have HV0 := Lib.hid hv0
  have HV1 := Lib.hid hv1
  have HFl := Lib.hid (fun w' hb => Hp.fields_any a0 n0 cap0 raw w' (HV0.out.below (w' := w') hb) hn0 hz0)
  have hF := Hp.fieldsOk_at (fs := raw)
  have HL0 := Lib.hid hv0.1
  clear hv0 hv1 hz0
  generalize Hp.fieldsOk raw = ok at *
  cases ok with
  | false =>
    clear hF hn0
    go_enter Tryd.func3, Tryd.ntmps3
    go_wp2_with (first
      | (go_at_call 9; (with_reducible refine (HFl.out _ HB1.out).mono ?_); rintro e w2 ⟨rfl, m, hw⟩
         have HB2 := Lib.hid (Base.below_drewN HB1.out m)
         rw [← hw] at HB2
         clear hw)
      | (go_at_call 8; (with_reducible refine (known_any _).mono ?_); rintro e w1 ⟨rfl, hb⟩
         have HB1 := Lib.hid hb
         clear hb))
    go_ret
    exact ⟨rfl, HB2.out⟩
  | true =>
  obtain ⟨hF1, hF2⟩ := hF rfl
  rcases Nat.lt_or_ge 6 n1 with c1 | c1
  · have d1 : (6 : Int) < (n1 : Int) := by omega
    clear hF1 hF2 hn0 c1
    go_enter Tryd.func3, Tryd.ntmps3
    go_wp2_with (first
      | (go_at_call 9; (with_reducible refine (HFl.out _ HB1.out).mono ?_); rintro e w2 ⟨rfl, m, hw⟩
         have HB2 := Lib.hid (Base.below_drewN HB1.out m)
         rw [← hw] at HB2
         clear hw)
      | (go_at_call 8; (with_reducible refine (known_any _).mono ?_); rintro e w1 ⟨rfl, hb⟩
         have HB1 := Lib.hid hb
         clear hb))
    go_ret
    exact ⟨rfl, HB2.out⟩
  have d1 : ¬ (6 : Int) < (n1 : Int) := by omega
  rw [HL0.out] at hF1
  have HRZ := Lib.hid (show ∀ f ∈ raw, f.1.size ≤ 10000 ∧ f.2.size ≤ 10000 from fun f hf => by have := hF2 f hf; omega)
  have HPr := Lib.hid (fun w => Seat.profile_any a k ha hk w)
  have hp1 := Seat.seatP_lt a k
  generalize Seat.seatP a k = P1 at *
  have HBo := Lib.hid (fun w => Seat.bounds_any k hk w)
  obtain ⟨x0, x1, x2, x3, x4, x5, x6, x7, ch, od, hx3, hSB⟩ : ∃ (x0 x1 x2 x3 x4 x5 x6 x7 : Int) (ch od : Bool), x3 ≤ 65536 ∧ Seat.seatB k = Bnd.bnd x0 x1 x2 x3 x4 x5 x6 x7 ch od := by
    refine ⟨_, _, _, _, _, _, _, _, _, _, ?_, rfl⟩
    split
    · decide
    · split <;> decide
  rw [hSB] at HBo
  have hm := Seat.mask30 a ha
  obtain ⟨P2, hpp⟩ : ∃ p, a % 1073741824 = p := ⟨_, rfl⟩
  have hp2 : P2 < 4294967296 := by omega
  rw [hpp] at hm
  have HHd := Lib.hid (fun w' hb => head_any a1 n1 cap1 bs w' (HV1.out.below (w' := w') hb) (by omega))
  have HQu := Lib.hid (fun w => quiet_any k w)
  obtain ⟨M0, hM0⟩ : ∃ M, bits .and .i64 minor 1 = M := ⟨_, rfl⟩
  obtain ⟨i0, hi, hz0, hz1, hz2⟩ := info_parts field_info
  have G1 := Lib.hid hi; have G2 := Lib.hid hz0; have G3 := Lib.hid hz1; have G4 := Lib.hid hz2
  clear hi hz0 hz1 hz2 hF2 hSB hpp ha hk hn0
  go_enter Tryd.func3, Tryd.ntmps3
  go_upto_if 43 with (first
    | (go_at_call 12; (with_reducible refine (HHd.out _ HBB.out.b).mono ?_); rintro e w5 ⟨bH, cH, fH, rfl, hfl, hfz, hb⟩
       replace HBB := Lib.hid (HBB.out.step hb)
       have HFH := Lib.hid hfl
       have HFZ := Lib.hid hfz
       clear hfl hfz hb)
    | (go_at_call 11; (with_reducible refine (HBo.out _).mono ?_); rintro e w4 ⟨rfl, hb⟩
       have HBB := Lib.hid (BB.new (Base.below_step HB2.out hb) 30 x0 x1 x2 x3 x4 x5 x6 x7 ch od)
       clear hb)
    | (go_at_call 10; (with_reducible refine (HPr.out _).mono ?_); rintro e w3 ⟨rfl, hb⟩
       replace HB2 := Lib.hid (Base.below_step HB2.out hb)
       clear hb)
    | (go_at_call 9; (with_reducible refine (HFl.out _ HB1.out).mono ?_); rintro e w2 ⟨rfl, m, hw⟩
       have HB2 := Lib.hid (Base.below_drewN HB1.out m)
       rw [← hw] at HB2
       clear hw)
    | (go_at_call 8; (with_reducible refine (known_any _).mono ?_); rintro e w1 ⟨rfl, hb⟩
       have HB1 := Lib.hid hb
       clear hb))
  have HLH := Lib.hid HFH.out.1
  generalize w4.heap.size = gB at *
  go_cut [15] from 26 (fun v wx => ∃ (b2 : Option Addr) (n2 c2 : Nat) (X : List Fld), v = .slice b2 n2 c2 ∧ n2 ≤ 10000 ∧ Hid (Flds wx b2 n2 X) ∧ Hid (∀ f ∈ X, f.1.size ≤ 10000 ∧ f.2.size ≤ 10000) ∧ Hid (BB x0 x1 x2 x3 x4 x5 x6 x7 ch od w gB wx))
  case first =>
    cases host with
    | false =>
      go_wp2_with fail
      go_meet
      case rel => exact ⟨bH, n1, cH, fH, rfl, by omega, HFH, Lib.hid (fun f hf => by have := HFZ.out f hf; omega), HBB⟩
    | true =>
      have HO5 := Lib.hid (World.ownsRow_lit (base := w5.heap.size) (e := 34) (size := 2) w5 #[.string ⟨#[72, 111, 115, 116]⟩, .string ⟨#[104]⟩] 1 (Nat.le_refl _) (by decide) rfl)
      have HCL := Lib.hid (show (cells fH).length = n1 * 2 by rw [cells_length, HLH.out])
      have HFH2 := Lib.hid (HFH.out.below ((Below.refl w5.heap.size w5).alloc (Nat.le_refl _) (.cells #[.string ⟨#[72, 111, 115, 116]⟩, .string ⟨#[104]⟩] 34)))
      have HBB2 := Lib.hid (HBB.out.alloc (.cells #[.string ⟨#[72, 111, 115, 116]⟩, .string ⟨#[104]⟩] 34))
      go_wp2_with (at_builtin; refine App.wpList_append_list _ rfl _ _ 22 rfl w5.heap.size 34 i0 (.agg #[.string ByteArray.empty, .string ByteArray.empty]) 2 32 Tryd.underlying22 G1.out G2.out G3.out G4.out rfl (by decide) _ 1 [.string ⟨#[72, 111, 115, 116]⟩, .string ⟨#[104]⟩] rfl HO5.out bH n1 cH (cells fH) rfl HCL.out (cells_lie HFH2.out) (cells_all_one fH) (by unfold maxLen; omega) (by omega) (by simp) ?_
                   intro v6 w6 hown6 hgr6 hnil6 hloc6
                   have HO6 := Lib.hid (show w6.ownsRow w5.heap.size 34 2 v6 (1 + n1) (cells ((⟨#[72, 111, 115, 116]⟩, ⟨#[104]⟩) :: fH)) from hown6)
                   have HB6 := Lib.hid (((Below.refl w5.heap.size w5).alloc (Nat.le_refl _) (.cells #[.string ⟨#[72, 111, 115, 116]⟩, .string ⟨#[104]⟩] 34)).grown hgr6 (by simp) (own_base HO5.out))
                   obtain ⟨A6, c6, rfl, hA6⟩ := Flds.of_own HO6.out
                   have HA6 := Lib.hid hA6
                   clear hown6 hgr6 hnil6 hloc6 hA6)
      go_meet
      case rel => exact ⟨A6, 1 + n1, c6, _, rfl, by omega, HA6, Lib.hid (fun f hf => by
        rcases List.mem_cons.1 hf with rfl | h
        · exact ⟨by decide, by decide⟩
        · have := HFZ.out f h; omega), Lib.hid (HBB.out.step HB6.out)⟩
  case rest =>
    obtain ⟨b2, n2, c2, X, rfl, hn2, HX, HXZ, HBX⟩ := hcut
    clear HFH HFZ HBB HHd HFl HPr HBo HLH G1 G2 G3 G4 HV1
    have HZ : Hid (∀ q, q < 2 → ∃ (az : Option Addr) (nz cz : Nat) (Z : List Fld), (wc.alloc (.cells #[.slice a0 n0 cap0, .slice b2 n2 c2] 22)).cell? ⟨wc.heap.size, q, none⟩ = some (.slice az nz cz) ∧ nz ≤ 10000 ∧ Flds (wc.alloc (.cells #[.slice a0 n0 cap0, .slice b2 n2 c2] 22)) az nz Z ∧ (∀ f ∈ Z, f.1.size ≤ 10000 ∧ f.2.size ≤ 10000)) := Lib.hid fun q hq => by
      have hb := (Below.refl wc.heap.size wc).alloc (Nat.le_refl _) (.cells #[.slice a0 n0 cap0, .slice b2 n2 c2] 22)
      have hv := vals_at wc 22 [.slice a0 n0 cap0, .slice b2 n2 c2] q hq
      rcases (by omega : q = 0 ∨ q = 1) with rfl | rfl
      · exact ⟨a0, n0, cap0, raw, hv, by omega, (HV0.out.below HBX.out.b).below hb, HRZ.out⟩
      · exact ⟨b2, n2, c2, X, hv, hn2, HX.out.below hb, HXZ.out⟩
    have HBB := Lib.hid (HBX.out.alloc (.cells #[.slice a0 n0 cap0, .slice b2 n2 c2] 22))
    have hg : wc.heap.size < (wc.alloc (.cells #[.slice a0 n0 cap0, .slice b2 n2 c2] 22)).heap.size := by simp
    clear HX HXZ HBX HV0 HRZ hn2 hF1 HL0
    go_wp2_with fail
    generalize wc.alloc (.cells #[.slice a0 n0 cap0, .slice b2 n2 c2] 22) = W at *
    generalize wc.heap.size = g at *
    go_loopw [52] (fun i wq => ∃ q : Nat, q ≤ 2 ∧ i = .int .i64 q ∧ Hid (Below W.heap.size W wq)) (fun i _ => 2 - (intOf i).toNat)
    case atStart => exact ⟨0, Nat.zero_le _, rfl, Lib.hid (Below.refl _ _)⟩
    case round =>
      obtain ⟨q, hq, rfl, hbq⟩ := hrel
      rcases Nat.lt_or_ge q 2 with hlt | hge
      · obtain ⟨az, nz, cz, Z, hcz, hnz, hfz, hzz⟩ := HZ.out q hlt
        have hcq := (hbq.out.cell (p := ⟨g, q, none⟩) hg).trans hcz
        have HFz := Lib.hid (hfz)
        have HZZ := Lib.hid hzz
        have hq2 : (q : Int) < 2 := by omega
        have hq3 : q + 1 ≤ 2 := by omega
        clear hcz hfz hzz hlt
        go_upto_region 13 with (go_at_call 13; (with_reducible refine (HQu.out _).mono ?_); rintro e w7 ⟨P3, rfl, hp3, hb⟩
                                have HB7 := Lib.hid (Base.below_step hbq.out hb)
                                clear hb)
        have HQ : Hid (∀ j, j < 4 → ([0, P1, P2, P3][j]?.getD 0) < 4294967296) := Lib.hid fun j hj => by
          rcases (by omega : j = 0 ∨ j = 1 ∨ j = 2 ∨ j = 3) with rfl | rfl | rfl | rfl
          · show 0 < 4294967296; decide
          · show P1 < 4294967296; omega
          · exact hp2
          · show P3 < 4294967296; omega
        have hps : Hid (∀ j, j < 4 → (w7.alloc (.cells #[.int .u32 0, .int .u32 (P1 : Nat), .int .u32 (P2 : Nat), .int .u32 (P3 : Nat)] 27)).cell? ⟨w7.heap.size, j, none⟩ = some (.int .u32 (([0, P1, P2, P3][j]?.getD 0 : Nat) : Int))) := Lib.hid fun j hj =>
          u32s_at w7 27 [0, P1, P2, P3] j hj
        have hgp : w7.heap.size < (w7.alloc (.cells #[.int .u32 0, .int .u32 (P1 : Nat), .int .u32 (P2 : Nat), .int .u32 (P3 : Nat)] 27)).heap.size := by simp
        have HBJ := Lib.hid (HB7.out.alloc HB7.out.size (.cells #[.int .u32 0, .int .u32 (P1 : Nat), .int .u32 (P2 : Nat), .int .u32 (P3 : Nat)] 27))
        clear hbq hcq hp3 HB7
        generalize w7.alloc (.cells #[.int .u32 0, .int .u32 (P1 : Nat), .int .u32 (P2 : Nat), .int .u32 (P3 : Nat)] 27) = W7 at *
        generalize w7.heap.size = gp at *
        go_loopw [63] (fun i wq => ∃ r : Nat, r ≤ 4 ∧ i = .int .i64 r ∧ Hid (Below W7.heap.size W7 wq)) (fun i _ => 4 - (intOf i).toNat)
        case atStart => exact ⟨0, Nat.zero_le _, rfl, Lib.hid (Below.refl _ _)⟩
        case round =>
          obtain ⟨r, hr, rfl, hbr⟩ := hrel
          rcases Nat.lt_or_ge r 4 with hlr | hgr
          · have hcr := (hbr.out.cell (p := ⟨gp, r, none⟩) hgp).trans (hps.out r hlr)
            have hpr := HQ.out r hlr
            have hr4 : (r : Int) < 4 := by omega
            have hr5 : r + 1 ≤ 4 := by omega
            clear hlr
            generalize [0, P1, P2, P3][r]?.getD 0 = Q at *
            have T1 := Lib.hid (fun ms w' hb => decide_any Q hpr x0 x1 x2 x3 x4 x5 x6 x7 ch od (by omega) ms az nz cz Z w' (HFz.out.below (w' := w') hb) hnz HZZ.out)
            have T2 := Lib.hid (fun ms w' hb => rdecide_any Q hpr x0 x1 x2 x3 x4 x5 x6 x7 ch od (by omega) ms az nz cz Z w' (HFz.out.below (w' := w') hb) hnz HZZ.out)
            have T3 := Lib.hid (fun ms w' hb => hosts_any Q hpr ms az nz cz Z w' (HFz.out.below (w' := w') hb) (by omega) (fun f hf => by have := HZZ.out f hf; omega))
            have T4 := Lib.hid (fun ms w' hb => rhosts_any Q hpr ms az nz cz Z w' (HFz.out.below (w' := w') hb) (by omega) (fun f hf => by have := HZZ.out f hf; omega))
            clear hpr
            go_upto_region 16 with fail
            have hms : Hid (∀ j, j < 3 → (wr.alloc (.cells #[.int .i64 M0, .int .i64 0, .int .i64 1] 3)).cell? ⟨wr.heap.size, j, none⟩ = some (.int .i64 ([M0, 0, 1][j]?.getD 0))) := Lib.hid fun j hj => by
              have h := vals_at wr 3 [.int .i64 M0, .int .i64 0, .int .i64 1] j hj
              rcases (by omega : j = 0 ∨ j = 1 ∨ j = 2) with rfl | rfl | rfl <;> exact h
            have hgm : wr.heap.size < (wr.alloc (.cells #[.int .i64 M0, .int .i64 0, .int .i64 1] 3)).heap.size := by simp
            have HB8 := Lib.hid (hbr.out.alloc hbr.out.size (.cells #[.int .i64 M0, .int .i64 0, .int .i64 1] 3))
            have HB9 := Lib.hid (Base.below_step HBJ.out HB8.out)
            clear hbr hcr
            generalize wr.alloc (.cells #[.int .i64 M0, .int .i64 0, .int .i64 1] 3) = W8 at *
            generalize wr.heap.size = gm at *
            go_loopw [71] (fun i wq => ∃ s : Nat, s ≤ 3 ∧ i = .int .i64 s ∧ Hid (Below W8.heap.size W8 wq)) (fun i _ => 3 - (intOf i).toNat)
            case atStart => exact ⟨0, Nat.zero_le _, rfl, Lib.hid (Below.refl _ _)⟩
            case round =>
              obtain ⟨s, hs, rfl, hbs⟩ := hrel
              rcases Nat.lt_or_ge s 3 with hls | hgs
              · have hcs := (hbs.out.cell (p := ⟨gm, s, none⟩) hgm).trans (hms.out s hls)
                have hs3 : (s : Int) < 3 := by omega
                have hs4 : s + 1 ≤ 3 := by omega
                clear hls
                generalize [M0, 0, 1][s]?.getD 0 = ms at *
                have U1 := Lib.hid (T1.out ms)
                have U2 := Lib.hid (T2.out ms)
                have U3 := Lib.hid (T3.out ms)
                have U4 := Lib.hid (T4.out ms)
                generalize decideV (clOf Q) ch x3 ms Z = DV at *
                generalize hostsV (Qk.has Q 15) (Qk.has Q 16) ms (find Z hostN) = HV at *
                obtain ⟨DK, DL, DE⟩ := DV
                simp only at U1 U2
                have HBr := Lib.hid (Base.below_step HB9.out hbs.out)
                have HBBr := Lib.hid (HBB.out.step HBr.out)
                obtain ⟨⟨q0, q1, q2, q3, q4, q5, q6, q7, q8, q9⟩, hlt9, hb9⟩ := HBBr.out
                clear hlt9 hb9
                go_wp2_with (first
                  | (go_at_call 17; (with_reducible refine (U4.out _ HBr.out).mono ?_); rintro e w12 ⟨rfl, hb⟩
                     replace hbs := Lib.hid (Base.below_step hbs.out hb)
                     clear hb)
                  | (go_at_call 16; (with_reducible refine (U3.out _ (HBr.out.alloc HBr.out.size _)).mono ?_); rintro e w11 ⟨rfl, hb⟩
                     replace hbs := Lib.hid (Base.below_step (hbs.out.alloc hbs.out.size _) hb)
                     replace HBr := Lib.hid (Base.below_step (HBr.out.alloc HBr.out.size _) hb)
                     clear hb)
                  | (go_at_call 15; (with_reducible refine (U2.out _ (HBr.out.alloc HBr.out.size _)).mono ?_); rintro e w10 ⟨rfl, hb⟩
                     clear q0 q1 q2 q3 q4 q5 q6 q7 q8 q9
                     have HG1 := Lib.hid ((GB.new w w9 40 DK DL).step hb)
                     have c0 := fun o => (HG1.out.alloc o).f.c0
                     have c1 := fun o => (HG1.out.alloc o).f.c1
                     replace hbs := Lib.hid (Base.below_step (hbs.out.alloc hbs.out.size (.cells #[.int .i64 DK, .int .i64 DL] 40)) hb)
                     replace HBr := Lib.hid (Base.below_step (HBr.out.alloc HBr.out.size (.cells #[.int .i64 DK, .int .i64 DL] 40)) hb)
                     clear hb)
                  | (go_at_call 14; (with_reducible refine (U1.out _ HBr.out).mono ?_); rintro e w9 ⟨rfl, hb⟩
                     clear q0 q1 q2 q3 q4 q5 q6 q7 q8 q9
                     replace hbs := Lib.hid (Base.below_step hbs.out hb)
                     replace HBr := Lib.hid (Base.below_step HBr.out hb)
                     replace HBBr := Lib.hid (HBBr.out.step hb)
                     have q0 := fun o => (HBBr.out.alloc o).f.q0
                     have q1 := fun o => (HBBr.out.alloc o).f.q1
                     have q2 := fun o => (HBBr.out.alloc o).f.q2
                     have q3 := fun o => (HBBr.out.alloc o).f.q3
                     have q4 := fun o => (HBBr.out.alloc o).f.q4
                     have q5 := fun o => (HBBr.out.alloc o).f.q5
                     have q6 := fun o => (HBBr.out.alloc o).f.q6
                     have q7 := fun o => (HBBr.out.alloc o).f.q7
                     have q8 := fun o => (HBBr.out.alloc o).f.q8
                     have q9 := fun o => (HBBr.out.alloc o).f.q9
                     clear hb))
                go_roundw
                case rel => exact ⟨s + 1, hs4, by go_num, hbs⟩
                case measure => simp [intOf]; omega
              · obtain rfl : s = 3 := by omega
                have H9 := Lib.hid (Base.below_step HB8.out hbs.out)
                clear HB8 HB9 hbs hms
                go_wp2_with fail
                go_roundw
                case rel => exact ⟨r + 1, hr5, by go_num, H9⟩
                case measure => simp [intOf]; omega
          · obtain rfl : r = 4 := by omega
            have H9 := Lib.hid (Base.below_step HBJ.out hbr.out)
            clear HBJ hbr hps
            go_wp2_with fail
            go_roundw
            case rel => exact ⟨q + 1, hq3, by go_num, H9⟩
            case measure => simp [intOf]; omega
      · obtain rfl : q = 2 := by omega
        have H9 := Lib.hid (HBB.out.step hbq.out)
        clear hbq
        go_wp2_with fail
        go_ret
        exact ⟨rfl, H9.out.b⟩
end code
end Go.Proofs.YtoakalklbpoknaaDoor.Frm
