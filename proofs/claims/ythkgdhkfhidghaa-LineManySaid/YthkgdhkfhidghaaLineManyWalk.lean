/-
  Layer 6 (line): the walk of LineMany: it returns true, and writes nothing that was there.
-/
import Derived.Test.YthkgdhkfhidghaaLineMany
import Derived.Test.YthkgdhkfhidghaaLinePlays
import Derived.Test.YthkgdhkfhidghaaLists
import Derived.Lib.AppendStr
import Derived.Deep.CutBlock
import Derived.Deep.DeepCutAuto
namespace Go.Proofs.Ythkgdhkfhidghaa.Ln
open Go.RowKit Base

/-- The lines with their ends, the first k of them. -/
def pairsM (lf cr : Bool) (ls : List (List UInt8)) (es : List UInt8) (k : Nat) : List (List UInt8 × List UInt8) := (List.range k).map fun j => (wordM (ls[j]?.getD []), endM lf cr (es[j]?.getD 0))
theorem pairsM_snoc (lf cr : Bool) (ls : List (List UInt8)) (es : List UInt8) (k : Nat) : pairsM lf cr ls es (k + 1) = pairsM lf cr ls es k ++ [(wordM (ls[k]?.getD []), endM lf cr (es[k]?.getD 0))] := by
  rw [pairsM, List.range_succ, List.map_append]; rfl
theorem pairsM_length (lf cr : Bool) (ls : List (List UInt8)) (es : List UInt8) (k : Nat) : (pairsM lf cr ls es k).length = k := by rw [pairsM, List.length_map, List.length_range]
theorem pairsM_good (lf cr : Bool) (ls : List (List UInt8)) (es : List UInt8) (k : Nat) : ∀ p ∈ pairsM lf cr ls es k, GoodM lf cr p := by
  intro p hp
  obtain ⟨j, _, rfl⟩ := List.mem_map.1 hp
  exact ⟨⟨_, rfl⟩, wordM_plain _, wordM_le _, endM_ok _ _ _⟩
def bodyM (ps : List (List UInt8 × List UInt8)) : List UInt8 := ps.flatMap fun p => p.1 ++ p.2
theorem bodyM_snoc (ps : List (List UInt8 × List UInt8)) (p : List UInt8 × List UInt8) : bodyM (ps ++ [p]) = bodyM ps ++ p.1 ++ p.2 := by
  rw [bodyM, List.flatMap_append, List.flatMap_singleton, ← List.append_assoc]; rfl
theorem strM_body (ps : List (List UInt8 × List UInt8)) : strM ps = bodyM ps ++ [120] := by
  induction ps with
  | nil => rfl
  | cons p ps ih =>
    have e : bodyM (p :: ps) = p.1 ++ p.2 ++ bodyM ps := List.flatMap_cons
    rw [strM, ih, e]; simp only [List.append_assoc]
theorem bodyM_le (lf cr : Bool) (ls : List (List UInt8)) (es : List UInt8) : ∀ k, (bodyM (pairsM lf cr ls es k)).length ≤ 23 * k
  | 0 => by simp [pairsM, bodyM]
  | k + 1 => by
    have ih := bodyM_le lf cr ls es k
    have h1 := wordM_le (ls[k]?.getD [])
    have h2 := endM_le lf cr (es[k]?.getD 0)
    rw [pairsM_snoc, bodyM_snoc, List.length_append, List.length_append]
    simp only
    omega
theorem wordM_snoc (l : List UInt8) (q : Nat) (h : q < l.length) : (l.take (q + 1)).filter plainB = (l.take q).filter plainB ++ (if plainB l[q] = true then [l[q]] else []) := by
  rw [List.take_succ_eq_append_getElem h, List.filter_append]
  congr 1
  by_cases hp : plainB l[q] = true <;> simp [hp]

/-- Two rows that a call owns, of other kinds, lie apart. -/
theorem own_other {w : World} {b b' : Nat} {e e' : TypeId} {s s' : Nat} {v v' : Value} {n n' : Nat} {xs xs' : List Value} (h : w.ownsRow b e s v n xs) (h' : w.ownsRow b' e' s' v' n' xs') (he : e ≠ e') : v.ownBlock = none ∨ v.ownBlock ≠ v'.ownBlock := by
  rcases h.2 with ⟨rfl, _⟩ | ⟨g, cap, cur, rfl, _, hh, _⟩
  · exact .inl rfl
  · rcases h'.2 with ⟨rfl, _⟩ | ⟨g', cap', cur', rfl, _, hh', _⟩
    · exact .inr fun e => by cases e
    · refine .inr fun hg => ?_
      have : g = g' := by simpa [Value.ownBlock] using hg
      subst this
      rw [hh] at hh'
      injection hh' with hx
      injection hx with _ h2 _
      exact he h2
theorem cells_ba (l : List UInt8) : Lib.strCells (ba l) = vals l := rfl
theorem ba_size (l : List UInt8) : (ba l).size = l.length := by
  show l.toArray.size = _
  simp

theorem text_info : (Try.prog.info? 9).map (fun i => (i.zero, i.size, i.bytes)) = some (some (.string ByteArray.empty), 1, 16) := by kernel_rfl
theorem one_byte120 : ∀ u ∈ [byteV 120], u.oneCell' = true := by
  intro u hu
  obtain rfl : u = byteV 120 := by simpa using hu
  rfl
theorem one_string (D : ByteArray) : ∀ u ∈ [Value.string D], u.oneCell' = true := by
  intro u hu
  obtain rfl : u = .string D := by simpa using hu
  rfl
/-- How the law comes to a line's end. -/
theorem end_cases (lf cr : Bool) (e : UInt8) : (lf = false ∧ cr = false ∧ endM lf cr e = [13, 10]) ∨ (lf = true ∧ cr = false ∧ ((e.toNat : Int) % 3 == 1) = true ∧ endM lf cr e = [10]) ∨ (lf = true ∧ cr = false ∧ ((e.toNat : Int) % 3 == 1) = false ∧ endM lf cr e = [13, 10]) ∨
    (lf = false ∧ cr = true ∧ ((e.toNat : Int) % 3 == 2) = true ∧ endM lf cr e = [13]) ∨ (lf = false ∧ cr = true ∧ ((e.toNat : Int) % 3 == 2) = false ∧ endM lf cr e = [13, 10]) ∨
    (lf = true ∧ cr = true ∧ (e.toNat : Int) % 3 = 1 ∧ endM lf cr e = [10]) ∨ (lf = true ∧ cr = true ∧ (e.toNat : Int) % 3 = 2 ∧ endM lf cr e = [13]) ∨ (lf = true ∧ cr = true ∧ (e.toNat : Int) % 3 = 0 ∧ endM lf cr e = [13, 10]) := by
  have h1 : ((e.toNat : Int) % 3 == 1) = (e.toNat % 3 == 1) := by rw [Bool.eq_iff_iff, beq_iff_eq, beq_iff_eq]; omega
  have h2 : ((e.toNat : Int) % 3 == 2) = (e.toNat % 3 == 2) := by rw [Bool.eq_iff_iff, beq_iff_eq, beq_iff_eq]; omega
  have h3 : ((e.toNat : Int) % 3) = ((e.toNat % 3 : Nat) : Int) := by omega
  rw [h1, h2, h3]
  unfold endM
  rcases (by omega : e.toNat % 3 = 0 ∨ e.toNat % 3 = 1 ∨ e.toNat % 3 = 2) with h | h | h <;> rw [h] <;> cases lf <;> cases cr <;> simp

section code
set_option maxHeartbeats 8000000
set_option maxRecDepth 10000
attribute [local go_sem] Base.some_undef
theorem lineMany_any (la : Option Addr) (n cap : Nat) (ls : List (List UInt8)) (lb : Option Addr) (n2 cap2 : Nat) (es : List UInt8) (lf cr : Bool) (w : World) (hv : Txt.Lines w la n ls) (hn : n ≤ maxLen) (hlen : ∀ l ∈ ls, l.length ≤ maxLen)
    (hz : Nums .u8 w lb n2 (Txt.nums es)) (hn2 : n2 ≤ maxLen) :
    Calls Try.prog 4 #[.slice la n cap, .slice lb n2 cap2, .bool lf, .bool cr] w fun e w' => e = .returned (.bool true) ∧ Below w.heap.size w w' := by
  have hl2 : es.length = n2 := by have := hz.1; rwa [Txt.nums, List.length_map] at this
  unfold maxLen at hn hn2 hlen
  have HV := Lib.hid hv; have HLE := Lib.hid hlen; have HL := Lib.hid hv.1
  have HZ := Lib.hid hz; have HL2 := Lib.hid hl2
  clear hv hz hl2 hlen
  rcases (by omega : 10 < n ∨ (n ≤ 10 ∧ n2 < n) ∨ (n ≤ 10 ∧ n ≤ n2)) with h | ⟨h, h'⟩ | ⟨h, h'⟩
  · have hi : (10 : Int) < n := by omega
    go_enter Try.func4, Try.ntmps4
    go_wp2_with (go_at_call 6; with_reducible refine (known_any _).mono ?_; rintro e w1 ⟨rfl, hb⟩)
    go_ret
    exact ⟨rfl, hb⟩
  · have hi : ¬ (10 : Int) < n := by omega
    have hj : (n2 : Int) < n := by omega
    go_enter Try.func4, Try.ntmps4
    go_wp2_with (go_at_call 6; with_reducible refine (known_any _).mono ?_; rintro e w1 ⟨rfl, hb⟩)
    go_ret
    exact ⟨rfl, hb⟩
  have hi : ¬ (10 : Int) < n := by omega
  have hj : ¬ (n2 : Int) < n := by omega
  go_enter Try.func4, Try.ntmps4
  go_upto_if 33 with (first
    | (go_at_call 6; with_reducible refine (known_any _).mono ?_; rintro e w1 ⟨rfl, hb⟩))
  have HB1 := Lib.hid hb
  clear hb
  obtain ⟨p1, hp1⟩ : ∃ p1 : Int, p1 = (if lf then bits .or .u32 0 2 else 0) := ⟨_, rfl⟩
  go_cut [9] from 21 (fun v wx => v = .int .u32 p1 ∧ wx = w1)
  case first =>
    cases lf
    all_goals
      go_wp2_with fail
      go_meet
      case rel => exact ⟨by rw [hp1]; rfl, rfl⟩
  case rest =>
    obtain ⟨rfl, rfl⟩ := hcut
    have HP1 := Lib.hid hp1
    clear hp1
    go_upto_if 36 with fail
    obtain ⟨p2, hp2⟩ : ∃ p2 : Int, p2 = (if cr then bits .or .u32 p1 4 else p1) := ⟨_, rfl⟩
    go_cut [9] from 21 (fun v wx => v = .int .u32 p2 ∧ wx = wc)
    case first =>
      cases cr
      all_goals
        go_wp2_with fail
        go_meet
        case rel => exact ⟨by rw [hp2]; rfl, rfl⟩
    case rest =>
      obtain ⟨rfl, hwc⟩ := hcut
      subst hwc
      have HP2 : Hid (p2 = (two lf cr : Int)) := Lib.hid (by
        rw [hp2, HP1.out, two_bits]
        cases lf <;> cases cr <;> rfl)
      clear hp2 HP1
      have HBW := Lib.hid HB1.out
      generalize hB : wc.heap.size = B at *
      obtain ⟨i0, hi0, hz0, hz1, hz2⟩ := info_parts byte_info
      have G1 := Lib.hid hi0; have G2 := Lib.hid hz0; have G3 := Lib.hid hz1; have G4 := Lib.hid hz2
      clear hi0 hz0 hz1 hz2
      obtain ⟨i1, hi1, hy0, hy1, hy2⟩ := info_parts text_info
      have S1 := Lib.hid hi1; have S2 := Lib.hid hy0; have S3 := Lib.hid hy1; have S4 := Lib.hid hy2
      clear hi1 hy0 hy1 hy2
      go_wp2_with fail
      go_loopw [10, 11, 12] (fun v s i wr => ∃ k : Nat, k ≤ n ∧ i = .int .i64 k ∧ Hid (wr.ownsRow B 5 1 v (bodyM (pairsM lf cr ls es k)).length (vals (bodyM (pairsM lf cr ls es k)))) ∧
        Hid (wr.ownsRow B 9 1 s k (((pairsM lf cr ls es k).map fun p => ba p.1).map Value.string)) ∧ Hid (Below B wc wr)) (fun _ _ i _ => n - (intOf i).toNat)
      case atStart => exact ⟨0, Nat.zero_le _, rfl, Lib.hid ⟨rfl, .inl ⟨rfl, rfl⟩⟩, Lib.hid ⟨rfl, .inl ⟨rfl, rfl⟩⟩, Lib.hid (Below.refl _ _)⟩
      case round =>
        obtain ⟨k, hk, rfl, hS, hT, hbr⟩ := hrel
        have HWR := Lib.hid (HBW.out.trans (hbr.out.mono (by rw [← hB]; exact HBW.out.size)))
        rcases Nat.lt_or_ge k n with hlt | hge
        · obtain ⟨bl, off, rfl, hbl, hc⟩ := (HV.out.below HWR.out).2 (by omega)
          obtain ⟨ak, ck, hck, hnk⟩ := hc k hlt
          obtain ⟨b2, o2, rfl, hb2, hc2⟩ := (HZ.out.below HWR.out).2 (by omega)
          have hce := hc2 k (by omega)
          have hel : k < es.length := by rw [HL2.out]; omega
          rw [Txt.nums_at es k hel] at hce
          have hSN := pairsM_snoc lf cr ls es k
          rw [show es[k]?.getD 0 = es[k] by rw [List.getElem?_eq_getElem hel]; rfl] at hSN
          have hll : (ls[k]?.getD []).length ≤ 9223372036854775807 := by
            have hkl : k < ls.length := by rw [HL.out]; exact hlt
            rw [List.getElem?_eq_getElem hkl]; exact HLE.out _ (List.getElem_mem _)
          have hBL := Lib.hid (bodyM_le lf cr ls es k)
          have hPL := Lib.hid (pairsM_length lf cr ls es k)
          have HSN := Lib.hid hSN
          clear hc hc2 hSN
          generalize es[k] = ev at *
          clear hel
          generalize ls[k]?.getD [] = l at *
          generalize pairsM lf cr ls es k = P at *
          have HN := Lib.hid hnk
          clear hnk
          have t1 : (k : Int) < (n : Int) := by omega
          have t3 : (k : Int) < (n2 : Int) := by omega
          go_wp2_with fail
          go_loopw [13, 14] (fun u j wq => ∃ (q : Nat) (D : ByteArray), q ≤ l.length ∧ q ≤ 20 ∧ j = .int .i64 q ∧ u = .string D ∧ D.size ≤ q + 1 ∧ Hid (D = ba (120 :: (l.take q).filter plainB)) ∧ Hid (Below wr.heap.size wr wq)) (fun _ j _ => l.length - (intOf j).toNat)
          case atStart => exact ⟨0, ⟨#[120]⟩, Nat.zero_le _, Nat.zero_le _, rfl, rfl, Nat.le_refl _, Lib.hid rfl, Lib.hid (Below.refl _ _)⟩
          case round =>
            obtain ⟨q, D, hq, hq20, rfl, rfl, hD, hDw, hbq⟩ := hrel
            have hck' := (hbq.out.cell (p := ⟨bl, off + k, none⟩) hbl).trans hck
            rcases (by omega : (q < l.length ∧ q < 20) ∨ (¬ q < l.length ∨ (q < l.length ∧ ¬ q < 20))) with ⟨hlq, hl20⟩ | hex
            · obtain ⟨b3, o3, rfl, hb3, hcc⟩ := (HN.out.below hbq.out).2 (by omega)
              have hcx := hcc q hlq
              rw [Txt.nums_at l q hlq] at hcx
              have hwq := Lib.hid (wordM_snoc l q hlq)
              have t2 : (q : Int) < (l.length : Int) := by omega
              have t4 : (q : Int) < 20 := by omega
              clear hcc
              generalize l[q] = x at *
              cases hp : plainB x with
              | true =>
                obtain ⟨n1, n2'⟩ := plain_ne hp
                have m1 : ((x.toNat : Int) != 10) = true := by rw [bne, ne10 n1]; rfl
                have m2 : ((x.toNat : Int) != 13) = true := by rw [bne, ne13 n2']; rfl
                have hcv := Txt.conv_str (wr.alloc (.cells #[.int .u8 x.toNat] 5)) (some ⟨wr.heap.size, 0, none⟩) 1 1 [x] (nums_made .u8 wr 5 [(x.toNat : Int)] 1 rfl)
                have hv1 : ¬ 9223372036854775807 < D.size + 1 := by omega
                rw [hp, if_pos rfl] at hwq
                have HN1 := Lib.hid (And.intro n1 n2')
                clear n1 n2'
                go_wp2
                go_roundw
                case rel =>
                  refine ⟨q + 1, D ++ Txt.ba [x], by omega, by omega, by go_num, rfl, ?_, Lib.hid ?_, Lib.hid (hbq.out.alloc hbq.out.size _)⟩
                  · rw [ByteArray.size_append, show (Txt.ba [x]).size = 1 from rfl]; omega
                  · rw [hwq.out, hDw.out]
                    apply Txt.ba_ext
                    simp [Txt.ba]
                case measure => simp [intOf]; omega
              | false =>
                rw [hp, if_neg (by decide), List.append_nil] at hwq
                have hx : x = 10 ∨ x = 13 := by
                  by_cases e : x = 10
                  · exact .inl e
                  · by_cases e' : x = 13
                    · exact .inr e'
                    · rw [plain_of e e'] at hp; cases hp
                rcases hx with rfl | rfl
                all_goals
                  go_wp2
                  go_roundw
                  case rel => exact ⟨q + 1, D, by omega, by omega, by go_num, rfl, by omega, Lib.hid (by rw [hwq.out]; exact hDw.out), hbq⟩
                  case measure => simp [intOf]; omega
            · have hDf : D = ba (wordM l) := by
                rw [hDw.out, wordM]
                rcases hex with hx | ⟨_, hx⟩
                · rw [List.take_of_length_le (by omega), List.take_of_length_le (by omega)]
                · rw [show q = 20 by omega]
              have hce' := (hbq.out.cell (p := ⟨b2, o2 + k, none⟩) hb2).trans hce
              have OS := Lib.hid (Ls.own_below hS.out hbq.out)
              have OT := Lib.hid (Ls.own_below hT.out hbq.out)
              have hBr := Nat.le_trans (Nat.le_trans (Nat.le_of_eq hB.symm) hbr.out.size) hbq.out.size
              have HBR := Lib.hid (hbr.out.trans (hbq.out.mono (Nat.le_trans (Nat.le_of_eq hB.symm) hbr.out.size)))
              have hwl := wordM_le l
              have hDs : D.size = (wordM l).length := by rw [hDf, ba_size]
              have HDF := Lib.hid hDf
              have hSl := hBL.out
              clear hck hce hDw hDf hbq hS hT hbr HN
              have hexI : (¬ (q : Int) < (l.length : Int)) ∨ ((q : Int) < (l.length : Int) ∧ ¬ (q : Int) < 20) := by omega
              clear hex
              rcases end_cases lf cr ev with ⟨rfl, rfl, hE⟩ | ⟨rfl, rfl, hm, hE⟩ | ⟨rfl, rfl, hm, hE⟩ | ⟨rfl, rfl, hm, hE⟩ | ⟨rfl, rfl, hm, hE⟩ | ⟨rfl, rfl, hm, hE⟩ | ⟨rfl, rfl, hm, hE⟩ | ⟨rfl, rfl, hm, hE⟩ <;> rcases hexI with t2 | ⟨t2, t4⟩
              all_goals
                have HE := Lib.hid hE
                clear hE
                go_wp2_with (first
                  | (at_builtin; (refine Lib.wpList_append_own_string _ rfl _ _ 22 9 rfl B 5 i0 Try.underlying22 Try.underlying9 G1.out G2.out G3.out G4.out _ _ _ rfl hO1.out _ rfl (by first | (show _ + D.size + 1 ≤ maxLen; unfold maxLen; omega) | (show _ + D.size + 2 ≤ maxLen; unfold maxLen; omega)) (by first | (show _ + D.size + 1 ≤ _; omega) | (show _ + D.size + 2 ≤ _; omega)) hBr1 ?_)
                     intro v2 w2' hO2' hg2 _
                     have hO2 := Lib.hid hO2'
                     have OT2 := Lib.hid (OT1.out.kept hg2 (own_other OT1.out hO1.out (by decide)))
                     have HB2 := Lib.hid (HX1.out.grown hg2 hBr1 (own_base hO1.out))
                     have hBr2 := Nat.le_trans hBr1 hg2.size
                     clear hO2' hg2 hO1 OT1 HX1 hBr1)
                  | (at_builtin; (refine Lib.wpList_append_own_string _ rfl _ _ 22 9 rfl B 5 i0 Try.underlying22 Try.underlying9 G1.out G2.out G3.out G4.out _ _ _ rfl OS.out D rfl (by unfold maxLen; omega) (by omega) hBr ?_)
                     intro v1 w1' hO1' hg1 _
                     have hO1 := Lib.hid hO1'
                     have OT1 := Lib.hid (OT.out.kept hg1 (own_other OT.out OS.out (by decide)))
                     have HX1 := Lib.hid (HBR.out.grown hg1 hBr (own_base OS.out))
                     have hBr1 := Nat.le_trans hBr hg1.size
                     clear hO1' hg1 OS OT HBR hBr)
                  | (at_builtin; (refine wpList_append_own _ rfl _ _ 40 rfl B 9 i1 (.string ByteArray.empty) 1 16 Try.underlying40 S1.out S2.out S3.out S4.out rfl (by decide) _ _ _ rfl (OT2.out.alloc _) ⟨w2'.heap.size, 0, none⟩ 1 1 [.string D] rfl rfl (news_one w2' _ _) (one_string D) (by unfold maxLen; omega) (by omega) (by simp; omega) ?_)
                     intro v3 w3' hT3' hg3 _
                     have hT3 := Lib.hid hT3'
                     have HS3 := Lib.hid ((hO2.out.alloc _).kept hg3 (own_other hO2.out OT2.out (by decide)))
                     have HB3 := Lib.hid ((HB2.out.alloc hBr2 _).grown hg3 (by simp; omega) (own_base OT2.out))
                     clear hT3' hg3 hO2 OT2 HB2 hBr2))
                go_roundw
                case rel =>
                  refine ⟨k + 1, by omega, by go_num, Lib.hid ?_, Lib.hid ?_, HB3⟩
                  · have h3 := HS3.out
                    rw [HDF.out, cells_ba, ba_size] at h3
                    rw [HSN.out, bodyM_snoc]
                    simp only []
                    rw [HE.out, vals_app, vals_app, List.length_append, List.length_append]
                    exact h3
                  · have h3 := hT3.out
                    rw [HDF.out] at h3
                    rw [HSN.out, List.map_append, List.map_append]
                    exact h3
                case measure => simp [intOf]; omega
        · obtain rfl : k = n := by omega
          have HG := Lib.hid (pairsM_good lf cr ls es k)
          have HPL := Lib.hid (pairsM_length lf cr ls es k)
          have HBL := bodyM_le lf cr ls es k
          have hBr := Nat.le_trans (Nat.le_of_eq hB.symm) hbr.out.size
          obtain ⟨bT, cT, rfl, _, _, _⟩ := own_slice hT.out
          have N1 := Lib.hid (fun w => new_one (two lf cr) (two_lt lf cr) 40 w)
          rw [show (40 : Int) = ((40 : Nat) : Int) from rfl, of_two lf cr 40 (by decide), show ((40 : Nat) : Int) = 40 from rfl, ← HP2.out] at N1
          clear HV HLE HL HZ HL2 HP2 S1 S2 S3 S4
          generalize pairsM lf cr ls es k = P at *
          go_wp2_with (first
            | (at_builtin; (refine wpList_append_own _ rfl _ _ 22 rfl B 5 i0 (.int .u8 0) 1 1 Try.underlying22 G1.out G2.out G3.out G4.out rfl (by decide) _ _ _ rfl (hS.out.alloc _) ⟨wr.heap.size, 0, none⟩ 1 1 [byteV 120] rfl rfl (news_one wr _ _) (one_byte120) (by unfold maxLen; omega) (by omega) (by simp; omega) ?_)
               intro v4 w4 hO4 hg4 _
               have hT4 := (hT.out.alloc _).kept hg4 (own_other hT.out hS.out (by decide))
               have HB4 := Lib.hid ((hbr.out.alloc hBr _).grown hg4 (by simp; omega) (own_base hS.out))
               obtain ⟨A4, c4, rfl, hN4, _⟩ := nums_of_own (bs := bodyM P ++ [120]) (by rw [vals_app]; exact hO4)
               have HN4 := Lib.hid hN4
               have HT4 := Lib.hid hT4
               clear hO4 hg4 hT4 hN4)
            | (go_at_call 8; with_reducible refine (N1.out _).mono ?_; rintro e w5 ⟨rfl, h1, hb5⟩))
          obtain ⟨bT', cT', eT, hStr⟩ := Txt.Strs.of_own (ss := P.map fun p => ba p.1) HT4.out
          obtain ⟨rfl, rfl⟩ : bT = bT' ∧ cT = cT' := by simpa using eT
          have HStr := Lib.hid hStr
          have HB45 := Lib.hid hb5
          have H1 := Lib.hid h1
          have hwl : (P.map (·.1)).length = k := by rw [List.length_map, HPL.out]
          have hss : (P.map fun p => ba p.1) = (P.map (·.1)).map ba := by rw [List.map_map]; rfl
          have HST : Hid (At lf cr (P.map (·.1)) (M.at lf cr 40 []) 0 ((bodyM P ++ [120]).drop 0)) := Lib.hid (by
            rw [List.drop_zero, ← strM_body]
            exact at_start (fun _ => rfl) rfl HG.out)
          have HFIN : Hid (Below w.heap.size w w4) := Lib.hid (HBW.out.trans (HB4.out.mono (by rw [← hB]; exact HBW.out.size)))
          have HG4 : w.heap.size ≤ w4.heap.size := HFIN.out.size
          rw [hss] at HStr
          have hlS : (bodyM P ++ [120]).length = (bodyM P).length + 1 := by rw [List.length_append]; rfl
          generalize hW : P.map (·.1) = want at *
          generalize bodyM P ++ [120] = S at *
          generalize (bodyM P).length = LB at *
          clear hW hss eT HT4 hStr hb5 h1 N1 G1 G2 G3 G4 hS hT HG HPL hbr HB4 HB1 HBW
          generalize hg : w4.heap.size = g at *
          go_loopw [18, 19] (fun kv iv wd => ∃ (x j : Nat) (m : M), x ≤ LB + 1 ∧ iv = .int .i64 x ∧ kv = .int .i64 j ∧ j ≤ k ∧ Hid (One wd g g m) ∧ Hid m.Ok ∧ Hid (At lf cr want m j (S.drop x)) ∧ Hid (Below g w5 wd)) (fun _ iv _ => LB + 1 - (intOf iv).toNat)
          case atStart => exact ⟨0, 0, _, Nat.zero_le _, rfl, rfl, Nat.zero_le _, H1, Lib.hid (at_ok lf cr 40 [] (by decide) (by decide)), HST, Lib.hid (Below.refl _ _)⟩
          case round =>
            obtain ⟨x, j, m, hx, rfl, rfl, hj, hO, hok, hat, hbd⟩ := hrel
            rcases Nat.lt_or_ge x (LB + 1) with hlx | hgx
            · have HBD := Lib.hid (HB45.out.trans hbd.out)
              obtain ⟨b4, o4, rfl, hb4, hc4⟩ := HN4.out.2 (by omega)
              have hxs : x < S.length := by omega
              have hcx := (HBD.out.cell (p := ⟨b4, o4 + x, none⟩) (by rw [← hg]; exact hb4)).trans (hc4 x hlx)
              rw [Txt.nums_at S x hxs] at hcx
              have hdr : S.drop x = S[x] :: S.drop (x + 1) := List.drop_eq_getElem_cons hxs
              have hat' := hat.out
              rw [hdr] at hat'
              have htd := at_told hat'
              have t1 : (x : Int) < ((LB : Int) + 1) := by omega
              have HC4 := Lib.hid hcx
              have b4g : b4 < g := by rw [← hg]; exact hb4
              clear hdr hat' hc4 hat
              generalize S[x] = c at *
              generalize hrs : S.drop (x + 1) = rest at *
              have HRS := Lib.hid hrs
              have OK1 := Lib.hid (hok.out.byte c)
              have OK2 := Lib.hid ((hok.out.byte c).byte c)
              have b1 := fun (w : World) (h : One w g g m) => one_byte c hok.out h
              have b2 := fun (w : World) (h : One w g g (m.byte c)) => one_byte c (hok.out.byte c) h
              have l1 : ∀ (w : World) (n : Nat), One w g g (m.byte c) → Calls Try.prog 12 #[ptr g] (w.drewN n) fun e w' => e = .returned (.string (ba (m.byte c).line)) ∧ w' = w.drewN n := fun w n h => one_line (h.below (Base.below_drewN (Below.refl _ _) n))
              clear hrs
              cases htd with
              | more h0 ha =>
                rw [h0] at b1
                have B1 := Lib.hid b1
                have HA := Lib.hid ha
                clear b1 b2 l1 ha h0
                generalize m.byte c = m1 at *
                go_wp2_with (go_at_call 10; with_reducible refine (B1.out _ hO.out).mono ?_; rintro e w6 ⟨rfl, hO1, hk1⟩)
                go_roundw
                case rel => exact ⟨x + 1, j, m1, by omega, by go_num, rfl, hj, Lib.hid hO1, OK1, Lib.hid (by rw [HRS.out]; exact HA.out), Lib.hid (hbd.out.trans hk1)⟩
                case measure => simp [intOf]; omega
              | done h0 hk hl ha =>
                rw [h0] at b1
                have B1 := Lib.hid b1
                have HA := Lib.hid ha
                have L1 := Lib.hid l1
                obtain ⟨bw, ow, rfl, hbw, hcw⟩ := HStr.out.2 (by omega)
                have hcw1 := (HBD.out.cell (p := ⟨bw, ow + j, none⟩) (by rw [← hg]; exact hbw)).trans (hcw j (by omega))
                have bwg : bw < g := by rw [← hg]; exact hbw
                rw [List.getElem?_map, hl] at hcw1
                have HCW : Hid (wr.cell? ⟨bw, ow + j, none⟩ = some (.string (ba (m.byte c).line))) := Lib.hid hcw1
                clear b1 b2 l1 ha h0 hl hcw hcw1
                generalize ba (m.byte c).line = LL at *
                generalize m.byte c = m1 at *
                have t5 : (j : Int) < (k : Int) := by omega
                have t6 : decide ((k : Int) ≤ (j : Int)) = false := by rw [decide_eq_false_iff_not]; omega
                have t6' : decide (k ≤ j) = false := by rw [decide_eq_false_iff_not]; omega
                have t5' : j < k := by omega
                have t7 : wrap64 ((j : Int) + 1) = ((j + 1 : Nat) : Int) := by unfold wrap64; omega
                have T7 := Lib.hid t7
                clear t7
                go_wp2_with (go_at_call 10; with_reducible refine (B1.out _ hO.out).mono ?_; rintro e w6 ⟨rfl, hO1, hk1⟩
                             have hcw := (hk1.cell (p := ⟨bw, ow + j, none⟩) bwg).trans HCW.out)
                go_quiet (first | (go_at_call 12; exact Calls.quiet_of_same (L1.out _ _ hO1)))
                rename_i nq
                have hO2 := Lib.hid (One.below hO1 (Base.below_drewN (Below.refl _ _) nq))
                have hB2 := Lib.hid (Base.below_drewN (hbd.out.trans hk1) nq)
                clear hcw hO1 hk1
                go_wp2
                go_roundw
                case rel => exact ⟨x + 1, j + 1, m1, by omega, by go_num, by go_num, by omega, hO2, OK1, Lib.hid (by rw [HRS.out]; exact HA.out), hB2⟩
                case measure => simp [intOf]; omega
              | ahead h0 hk hl h2 ha =>
                rw [h0] at b1
                rw [h2] at b2
                have B1 := Lib.hid b1
                have B2 := Lib.hid b2
                have HA := Lib.hid ha
                have L1 := Lib.hid l1
                obtain ⟨bw, ow, rfl, hbw, hcw⟩ := HStr.out.2 (by omega)
                have hcw1 := (HBD.out.cell (p := ⟨bw, ow + j, none⟩) (by rw [← hg]; exact hbw)).trans (hcw j (by omega))
                have bwg : bw < g := by rw [← hg]; exact hbw
                rw [List.getElem?_map, hl] at hcw1
                have HCW : Hid (wr.cell? ⟨bw, ow + j, none⟩ = some (.string (ba (m.byte c).line))) := Lib.hid hcw1
                clear b1 b2 l1 ha h0 h2 hl hcw hcw1
                generalize ba (m.byte c).line = LL at *
                generalize (m.byte c).byte c = m2 at *
                generalize m.byte c = m1 at *
                have t5 : (j : Int) < (k : Int) := by omega
                have t6 : decide ((k : Int) ≤ (j : Int)) = false := by rw [decide_eq_false_iff_not]; omega
                have t6' : decide (k ≤ j) = false := by rw [decide_eq_false_iff_not]; omega
                have t5' : j < k := by omega
                go_wp2_with (go_at_call 10; with_reducible refine (B1.out _ hO.out).mono ?_; rintro e w6 ⟨rfl, hO1, hk1⟩
                             have hcw := (hk1.cell (p := ⟨bw, ow + j, none⟩) bwg).trans HCW.out)
                go_quiet (first | (go_at_call 12; exact Calls.quiet_of_same (L1.out _ _ hO1)))
                rename_i nq
                have hO2 := Lib.hid (One.below hO1 (Base.below_drewN (Below.refl _ _) nq))
                have hB2 := Lib.hid (Base.below_drewN (hbd.out.trans hk1) nq)
                have hcx2 := (Base.below_drewN hk1 nq).cell (p := ⟨b4, o4 + x, none⟩) b4g
                rw [HC4.out] at hcx2
                clear hcw hO1 hk1
                go_wp2_with (go_at_call 10; with_reducible refine (B2.out _ hO2.out).mono ?_; rintro e w7 ⟨rfl, hO3, hk3⟩)
                go_roundw
                case rel => exact ⟨x + 1, j + 1, m2, by omega, by go_num, by go_num, by omega, Lib.hid hO3, OK2, Lib.hid (by rw [HRS.out]; exact HA.out), Lib.hid (hB2.out.trans hk3)⟩
                case measure => simp [intOf]; omega
            · obtain rfl : x = LB + 1 := by omega
              have hat' := hat.out
              rw [List.drop_eq_nil_of_le (by omega)] at hat'
              have hjk : j = k := by
                have := at_end (by rw [hwl]; exact hj) hat'
                rw [this, hwl]
              subst hjk
              have HEND := Lib.hid (HFIN.out.trans ((HB45.out.trans hbd.out).mono HG4))
              clear hat hat' hO hok hbd
              go_wp2
              go_ret
              exact ⟨rfl, HEND.out⟩
end code
end Go.Proofs.Ythkgdhkfhidghaa.Ln
