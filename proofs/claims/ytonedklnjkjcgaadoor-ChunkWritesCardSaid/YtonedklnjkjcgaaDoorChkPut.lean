/-
  Layer 11 (chunk): how bytes in parts are written as chunks: package chunk's Put and the document's Chunks.
-/
import Derived.Test.YtonedklnjkjcgaaDoorChk
import Derived.Lib.AppendStr
import Derived.Maps.AppendAt
import Derived.Laws.OwnMore
namespace Go.Proofs.YtonedklnjkjcgaaDoor.Chk
open Go.RowKit Base Txt

abbrev byteV (c : UInt8) : Value := .int .u8 (c.toNat : Int)
def vals (l : List UInt8) : List Value := l.map byteV
theorem vals_app (a b : List UInt8) : vals (a ++ b) = vals a ++ vals b := List.map_append
theorem vals_length (a : List UInt8) : (vals a).length = a.length := List.length_map _
theorem cells_of (s : ByteArray) : Lib.strCells s = vals s.data.toList := rfl
theorem vals_one (l : List UInt8) : ∀ u ∈ vals l, u.oneCell' = true := by
  intro u hu
  obtain ⟨b, _, rfl⟩ := List.mem_map.1 hu
  rfl
/-- The cells of a slice of bytes. -/
theorem vals_lie {w : World} {a : Option Addr} {n : Nat} {l : List UInt8} (h : Nums .u8 w a n (nums l)) : 0 < n → ∃ b off, a = some ⟨b, off, none⟩ ∧ ∀ j u, (vals l)[j]? = some u → w.cell? ⟨b, off + j, none⟩ = some u := by
  intro hn
  obtain ⟨b, off, rfl, _, hc⟩ := h.2 hn
  refine ⟨b, off, rfl, fun j u hu => ?_⟩
  have hl : l.length = n := by have := h.1; rwa [nums, List.length_map] at this
  have hj : j < l.length := by
    rcases Nat.lt_or_ge j l.length with h | h
    · exact h
    · rw [List.getElem?_eq_none (by rw [vals_length]; exact h)] at hu; cases hu
  rw [hc j (by omega), nums_at l j hj]
  rw [vals, List.getElem?_map, List.getElem?_eq_getElem hj] at hu
  exact hu
theorem nums_of_own {w : World} {base : Nat} {v : Value} {n : Nat} {bs : List UInt8} {e : TypeId} (h : w.ownsRow base e 1 v n (vals bs)) : ∃ A c, v = .slice A n c ∧ Nums .u8 w A n (Txt.nums bs) := by
  have hl : bs.length = n := by simpa [vals_length] using h.1
  rcases h.2 with ⟨rfl, rfl⟩ | ⟨g, cap, cur, rfl, _, hh, _, hc, _, ht⟩
  · obtain rfl : bs = [] := List.length_eq_zero_iff.1 hl
    exact ⟨none, 0, rfl, Nums.nil _ _ _⟩
  · refine ⟨_, _, rfl, ⟨by rw [Txt.nums, List.length_map]; exact hl, fun _ => ⟨g, 0, rfl, ?_, fun k hk => ?_⟩⟩⟩
    · rcases Nat.lt_or_ge g w.heap.size with hlt | hge
      · exact hlt
      · rw [Array.getElem?_eq_none hge] at hh; cases hh
    · rw [Nat.zero_add, cell_of_row w g k cur e (0, 0) hh, Txt.nums_at bs k (by omega)]
      have h1 : (vals bs)[k]? = some (byteV bs[k]) := by
        rw [vals, List.getElem?_map, List.getElem?_eq_getElem (by omega)]; rfl
      rw [← ht, List.getElem?_take_of_lt (by omega)] at h1
      simpa using h1

/-- The first k parts as chunks. -/
def bodyL (ls : List (List UInt8)) (k : Nat) : List UInt8 := (ls.take k).flatMap chunkL
theorem body_snoc (ls : List (List UInt8)) (k : Nat) (h : k < ls.length) : bodyL ls (k + 1) = bodyL ls k ++ chunkL (ls[k]?.getD []) := by
  unfold bodyL
  rw [List.take_succ_eq_append_getElem h, put_snoc, List.getElem?_eq_getElem h]; rfl
theorem body_all (ls : List (List UInt8)) : putL ls = bodyL ls ls.length ++ [48, 13, 10] := by
  unfold bodyL putL
  rw [List.take_length]
theorem body_le (ls : List (List UInt8)) (k : Nat) (h : k < ls.length) : (bodyL ls k).length + (chunkL (ls[k]?.getD [])).length + 3 ≤ (putL ls).length := by
  have h1 := congrArg List.length (body_snoc ls k h)
  rw [List.length_append] at h1
  have h2 : (putL ls).length = (bodyL ls (k + 1)).length + ((ls.drop (k + 1)).flatMap chunkL).length + 3 := by
    unfold putL bodyL
    conv => lhs; rw [← List.take_append_drop (k + 1) ls]
    rw [List.flatMap_append, List.length_append, List.length_append]; rfl
  omega
theorem chunk_of (l : List UInt8) (h : l ≠ []) : chunkL l = Num.spell 16 l.length ++ [13, 10] ++ l ++ [13, 10] := by unfold chunkL; rw [if_neg h]
/-- A row grown by a chunk's four parts. -/
theorem row_chunk {w : World} {B : Nat} {e : TypeId} {v : Value} {P l : List UInt8} {D : ByteArray} (hl : l ≠ []) (hD : D.data.toList = Num.spell 16 l.length) {n : Nat} (hn : n = P.length + D.size + 2 + l.length + 2)
    {xs : List Value} (hx : xs = vals P ++ vals D.data.toList ++ vals [13, 10] ++ vals l ++ vals [13, 10]) (h : w.ownsRow B e 1 v n xs) : w.ownsRow B e 1 v (P ++ chunkL l).length (vals (P ++ chunkL l)) := by
  have hd : D.size = (Num.spell 16 l.length).length := by rw [← hD, len]
  have e1 : vals (P ++ chunkL l) = xs := by
    rw [hx, chunk_of l hl, hD, vals_app, vals_app, vals_app, vals_app]; simp only [List.append_assoc]
  have e2 : (P ++ chunkL l).length = n := by
    rw [hn, hd, chunk_of l hl]; simp only [List.length_append, List.length_cons, List.length_nil]; omega
  rw [e1, e2]; exact h

section code
set_option maxHeartbeats 8000000
set_option maxRecDepth 100000
attribute [local go_sem] Base.some_undef
theorem put_any (a : Option Addr) (n cap : Nat) (ls : List (List UInt8)) (w : World) (hv : Lines w a n ls) (hn : n ≤ maxLen) (hz : (putL ls).length ≤ 1000000000) :
    Calls Tryd.prog 15 #[.slice a n cap] w fun e w' => ∃ A c, e = .returned (.slice A (putL ls).length c) ∧ Nums .u8 w' A (putL ls).length (nums (putL ls)) ∧ Below w.heap.size w w' := by
  unfold maxLen at hn
  have HV := Lib.hid hv
  have HL := Lib.hid hv.1
  have HZ := Lib.hid hz
  clear hv hz
  obtain ⟨i0, hi0, hz0, hz1, hz2⟩ := info_parts Txt.byte_info
  have G1 := Lib.hid hi0; have G2 := Lib.hid hz0; have G3 := Lib.hid hz1; have G4 := Lib.hid hz2
  clear hi0 hz0 hz1 hz2
  go_enter Tryd.func15, Tryd.ntmps15
  go_wp2_with fail
  go_loopw [3, 8] (fun v i wr => ∃ k : Nat, k ≤ n ∧ i = .int .i64 k ∧ Hid (wr.ownsRow w.heap.size 5 1 v (bodyL ls k).length (vals (bodyL ls k))) ∧ Hid (Below w.heap.size w wr)) (fun _ i _ => n - (intOf i).toNat)
  case atStart => exact ⟨0, Nat.zero_le _, rfl, Lib.hid ⟨rfl, .inl ⟨rfl, rfl⟩⟩, Lib.hid (Below.refl _ _)⟩
  case round =>
    obtain ⟨k, hk, rfl, hS, hbr⟩ := hrel
    rcases Nat.lt_or_ge k n with hlt | hge
    · obtain ⟨bl, off, rfl, hbl, hc⟩ := HV.out.2 (by omega)
      obtain ⟨ak, ck, hck, hnk⟩ := hc k hlt
      have qc := (hbr.out.cell (p := ⟨bl, off + k, none⟩) hbl).trans hck
      have hkl : k < ls.length := by rw [HL.out]; exact hlt
      have hle := body_le ls k hkl
      have HSN := Lib.hid (body_snoc ls k hkl)
      have t1 : (k : Int) < (n : Int) := by omega
      clear hc hck hkl
      have hz := HZ.out
      generalize bodyL ls k = P at *
      have HN := Lib.hid hnk
      clear hnk
      generalize ls[k]?.getD [] = l at *
      by_cases h0 : l = []
      · subst h0
        have HSN2 : Hid (bodyL ls (k + 1) = P) := Lib.hid (by rw [HSN.out]; unfold chunkL; rw [if_pos rfl, List.append_nil])
        clear HSN HN hle hz
        have qc2 : wr.cell? ⟨bl, off + k, none⟩ = some (.slice ak 0 ck) := qc
        clear qc
        go_wp2_with fail
        go_roundw
        case rel => exact ⟨k + 1, by omega, by go_num, Lib.hid (by rw [HSN2.out]; exact hS.out), hbr⟩
        case measure => simp [intOf]; omega
      · have hl0 : 0 < l.length := List.length_pos_iff.2 h0
        have t2 : (0 : Int) < (l.length : Int) := by omega
        obtain ⟨D, hD, HP⟩ : ∃ D : ByteArray, D.data.toList = Num.spell 16 l.length ∧ Hid (∀ w, Calls Tryd.prog 27 #[.int .i64 (l.length : Int)] w fun e w' => e = .returned (.string D) ∧ ∃ m, w' = w.drewN m) :=
          ⟨Num.str (Num.spell 16 l.length), rfl, Lib.hid (fun w => by
            have := Num.putHex_any (l.length : Int) w (by rw [chunk_of l h0] at hle; simp only [List.length_append] at hle; omega)
            rwa [Int.toNat_natCast] at this)⟩
        rw [chunk_of l h0, ← hD] at hle
        simp only [List.length_append, List.length_cons, List.length_nil, len] at hle
        have hsum : P.length + D.size + 2 + l.length + 2 ≤ 1000000000 := by omega
        have v1 : ¬ 9223372036854775807 < D.size + 2 := by omega
        have HSUM := Lib.hid hsum
        have HD := Lib.hid hD
        have H0 := Lib.hid h0
        clear hle hz hD hsum h0
        go_wp2_with (first
          | (at_builtin; (refine Lib.wpList_append_own_string _ rfl _ _ 22 9 rfl w.heap.size 5 i0 Tryd.underlying22 Tryd.underlying9 G1.out G2.out G3.out G4.out _ _ _ rfl hO2.out ⟨#[13, 10]⟩ rfl (by have := HSUM.out; show _ + 2 ≤ maxLen; unfold maxLen; omega) (by have := HSUM.out; show _ + 2 ≤ _; omega) HB2.out.size ?_)
             intro v3 w3' hO3' hg3 _
             have hO3 := Lib.hid hO3'
             have HB3 := Lib.hid (HB2.out.grown hg3 HB2.out.size (own_base hO2.out))
             clear hO3' hg3 hO2 HB2)
          | (at_builtin; (refine App.wpList_append_list _ rfl _ _ 22 rfl w.heap.size 5 i0 (.int .u8 0) 1 1 Tryd.underlying22 G1.out G2.out G3.out G4.out rfl (by decide) _ _ _ rfl hO1.out ak l.length ck (vals l) rfl (by rw [vals_length, Nat.mul_one]) (vals_lie (HN.out.below HB1.out)) (vals_one l) (by have := HSUM.out; unfold maxLen; omega) (by have := HSUM.out; omega) HB1.out.size ?_)
             intro v2 w2' hO2' hg2 _ _
             have hO2 := Lib.hid hO2'
             have HB2 := Lib.hid (HB1.out.grown hg2 HB1.out.size (own_base hO1.out))
             clear hO2' hg2 hO1 HB1)
          | (at_builtin; (refine Lib.wpList_append_own_string _ rfl _ _ 22 9 rfl w.heap.size 5 i0 Tryd.underlying22 Tryd.underlying9 G1.out G2.out G3.out G4.out _ _ _ rfl hO0.out (D ++ ⟨#[13, 10]⟩) rfl (by have := HSUM.out; rw [ByteArray.size_append]; show _ + (_ + 2) ≤ maxLen; unfold maxLen; omega) (by have := HSUM.out; rw [ByteArray.size_append]; show _ + (_ + 2) ≤ _; omega) HB0.out.size ?_)
             intro v1 w1' hO1' hg1 _
             have hO1 : Hid (w1'.ownsRow w.heap.size 5 1 v1 (P.length + (D.size + 2)) (vals P ++ Lib.strCells (D ++ ⟨#[13, 10]⟩))) := Lib.hid (by
               have h := hO1'
               rw [ByteArray.size_append] at h
               exact h)
             have HB1 := Lib.hid (HB0.out.grown hg1 HB0.out.size (own_base hO0.out))
             clear hO1' hg1 hO0 HB0)
          | (go_at_call 27; (with_reducible refine (HP.out _).mono ?_); rintro e wp ⟨rfl, m, hw⟩
             have hO0 := Lib.hid (Ls.own_below hS.out (Base.below_drewN (Below.refl _ wr) m))
             have HB0 := Lib.hid (Base.below_drewN hbr.out m)
             rw [← hw] at hO0 HB0
             clear hw))
        go_roundw
        case rel =>
          refine ⟨k + 1, by omega, by go_num, Lib.hid ?_, HB3⟩
          rw [HSN.out]
          refine row_chunk H0.out HD.out ?_ ?_ hO3.out
          · show P.length + (D.size + 2) + l.length + 2 = _; omega
          · rw [cells_of, cells_of]
            have e : (D ++ (⟨#[13, 10]⟩ : ByteArray)).data.toList = D.data.toList ++ [13, 10] := by simp [ByteArray.data_append]
            rw [e, vals_app]
            simp only [List.append_assoc]
        case measure => simp [intOf]; omega
    · obtain rfl : k = n := by omega
      have HA := Lib.hid (body_all ls)
      have hz := HZ.out
      rw [HA.out, List.length_append] at hz
      rw [HL.out] at HA hz
      have hz' : (bodyL ls k).length + 3 ≤ 1000000000 := hz
      have HZ2 := Lib.hid hz'
      clear hz hz'
      go_wp2_with (at_builtin; (refine Lib.wpList_append_own_string _ rfl _ _ 22 9 rfl w.heap.size 5 i0 Tryd.underlying22 Tryd.underlying9 G1.out G2.out G3.out G4.out _ _ _ rfl hS.out ⟨#[48, 13, 10]⟩ rfl (by have := HZ2.out; show _ + 3 ≤ maxLen; unfold maxLen; omega) (by have := HZ2.out; show _ + 3 ≤ _; omega) hbr.out.size ?_)
                   intro v4 w4' hO4' hg4 _
                   have hO4 : w4'.ownsRow w.heap.size 5 1 v4 (putL ls).length (vals (putL ls)) := by
                     rw [HA.out, vals_app, List.length_append]; exact hO4'
                   obtain ⟨A4, c4, rfl, hN4⟩ := nums_of_own hO4
                   have HN4 := Lib.hid hN4
                   have HB4 := Lib.hid (hbr.out.grown hg4 hbr.out.size (own_base hS.out))
                   clear hO4' hO4 hN4 hg4)
      go_ret
      exact ⟨A4, c4, rfl, HN4.out, HB4.out⟩
theorem rput_any (a : Option Addr) (n cap : Nat) (ls : List (List UInt8)) (w : World) (hv : Lines w a n ls) (hn : n ≤ maxLen) (hz : (putL ls).length ≤ 1000000000) :
    Calls Tryd.prog 16 #[.slice a n cap] w fun e w' => ∃ A c, e = .returned (.slice A (putL ls).length c) ∧ Nums .u8 w' A (putL ls).length (nums (putL ls)) ∧ Below w.heap.size w w' := by
  unfold maxLen at hn
  have HV := Lib.hid hv
  have HL := Lib.hid hv.1
  have HZ := Lib.hid hz
  clear hv hz
  obtain ⟨i0, hi0, hz0, hz1, hz2⟩ := info_parts Txt.byte_info
  have G1 := Lib.hid hi0; have G2 := Lib.hid hz0; have G3 := Lib.hid hz1; have G4 := Lib.hid hz2
  clear hi0 hz0 hz1 hz2
  go_enter Tryd.func16, Tryd.ntmps16
  go_wp2_with fail
  go_loopw [3, 4] (fun v i wr => ∃ k : Nat, k ≤ n ∧ i = .int .i64 k ∧ Hid (wr.ownsRow w.heap.size 5 1 v (bodyL ls k).length (vals (bodyL ls k))) ∧ Hid (Below w.heap.size w wr)) (fun _ i _ => n - (intOf i).toNat)
  case atStart => exact ⟨0, Nat.zero_le _, rfl, Lib.hid ⟨rfl, .inl ⟨rfl, rfl⟩⟩, Lib.hid (Below.refl _ _)⟩
  case round =>
    obtain ⟨k, hk, rfl, hS, hbr⟩ := hrel
    rcases Nat.lt_or_ge k n with hlt | hge
    · obtain ⟨bl, off, rfl, hbl, hc⟩ := HV.out.2 (by omega)
      obtain ⟨ak, ck, hck, hnk⟩ := hc k hlt
      have qc := (hbr.out.cell (p := ⟨bl, off + k, none⟩) hbl).trans hck
      have hkl : k < ls.length := by rw [HL.out]; exact hlt
      have hle := body_le ls k hkl
      have HSN := Lib.hid (body_snoc ls k hkl)
      have t1 : (k : Int) < (n : Int) := by omega
      have HCK := Lib.hid hck
      clear hc hck hkl
      have hz := HZ.out
      generalize bodyL ls k = P at *
      have HN := Lib.hid hnk
      clear hnk
      generalize ls[k]?.getD [] = l at *
      by_cases h0 : l = []
      · subst h0
        have HSN2 : Hid (bodyL ls (k + 1) = P) := Lib.hid (by rw [HSN.out]; unfold chunkL; rw [if_pos rfl, List.append_nil])
        clear HSN HN hle hz
        have qc2 : wr.cell? ⟨bl, off + k, none⟩ = some (.slice ak 0 ck) := qc
        clear qc
        go_wp2_with fail
        go_roundw
        case rel => exact ⟨k + 1, by omega, by go_num, Lib.hid (by rw [HSN2.out]; exact hS.out), hbr⟩
        case measure => simp [intOf]; omega
      · have hl0 : 0 < l.length := List.length_pos_iff.2 h0
        have t2 : (0 : Int) < (l.length : Int) := by omega
        obtain ⟨D, hD, HP⟩ : ∃ D : ByteArray, D.data.toList = Num.spell 16 l.length ∧ Hid (∀ w, Calls Tryd.prog 11 #[.int .i64 (l.length : Int)] w fun e w' => e = .returned (.string D) ∧ ∃ m, w' = w.drewN m) :=
          ⟨Num.str (Num.spell 16 l.length), rfl, Lib.hid (fun w => by
            have := Num.rputHex_any (l.length : Int) w (by omega) (by rw [chunk_of l h0] at hle; simp only [List.length_append] at hle; omega)
            rwa [Int.toNat_natCast] at this)⟩
        rw [chunk_of l h0, ← hD] at hle
        simp only [List.length_append, List.length_cons, List.length_nil, len] at hle
        have hsum : P.length + D.size + 2 + l.length + 2 ≤ 1000000000 := by omega
        have v1 : ¬ 9223372036854775807 < D.size + 2 := by omega
        have HSUM := Lib.hid hsum
        have HD := Lib.hid hD
        have H0 := Lib.hid h0
        clear hle hz hD hsum h0
        go_wp2_with (first
          | (at_builtin; (refine Lib.wpList_append_own_string _ rfl _ _ 22 9 rfl w.heap.size 5 i0 Tryd.underlying22 Tryd.underlying9 G1.out G2.out G3.out G4.out _ _ _ rfl hO3.out ⟨#[13, 10]⟩ rfl (by have := HSUM.out; show _ + 2 ≤ maxLen; unfold maxLen; omega) (by have := HSUM.out; show _ + 2 ≤ _; omega) HB3.out.size ?_)
             intro v4 w4' hO4' hg4 _
             have hO4 := Lib.hid hO4'
             have HB4 := Lib.hid (HB3.out.grown hg4 HB3.out.size (own_base hO3.out))
             clear hO4' hg4 hO3 HB3)
          | (at_builtin; (refine App.wpList_append_list _ rfl _ _ 22 rfl w.heap.size 5 i0 (.int .u8 0) 1 1 Tryd.underlying22 G1.out G2.out G3.out G4.out rfl (by decide) _ _ _ rfl hO2.out ak l.length ck (vals l) rfl (by rw [vals_length, Nat.mul_one]) (vals_lie (HN.out.below HB2.out)) (vals_one l) (by have := HSUM.out; unfold maxLen; omega) (by have := HSUM.out; omega) HB2.out.size ?_)
             intro v3 w3' hO3' hg3 _ _
             have hO3 := Lib.hid hO3'
             have HB3 := Lib.hid (HB2.out.grown hg3 HB2.out.size (own_base hO2.out))
             clear hO3' hg3 hO2 HB2)
          | (at_builtin; (refine Lib.wpList_append_own_string _ rfl _ _ 22 9 rfl w.heap.size 5 i0 Tryd.underlying22 Tryd.underlying9 G1.out G2.out G3.out G4.out _ _ _ rfl hO1.out ⟨#[13, 10]⟩ rfl (by have := HSUM.out; show _ + 2 ≤ maxLen; unfold maxLen; omega) (by have := HSUM.out; show _ + 2 ≤ _; omega) HB1.out.size ?_)
             intro v2 w2' hO2' hg2 _
             have hO2 : Hid (w2'.ownsRow w.heap.size 5 1 v2 (P.length + D.size + 2) (vals P ++ Lib.strCells D ++ Lib.strCells ⟨#[13, 10]⟩)) := Lib.hid hO2'
             have HB2 := Lib.hid (HB1.out.grown hg2 HB1.out.size (own_base hO1.out))
             have qc2 := (HB2.out.cell (p := ⟨bl, off + k, none⟩) hbl).trans HCK.out
             clear hO2' hg2 hO1 HB1)
          | (at_builtin; (refine Lib.wpList_append_own_string _ rfl _ _ 22 9 rfl w.heap.size 5 i0 Tryd.underlying22 Tryd.underlying9 G1.out G2.out G3.out G4.out _ _ _ rfl hO0.out D rfl (by have := HSUM.out; unfold maxLen; omega) (by have := HSUM.out; omega) HB0.out.size ?_)
             intro v1 w1' hO1' hg1 _
             have hO1 := Lib.hid hO1'
             have HB1 := Lib.hid (HB0.out.grown hg1 HB0.out.size (own_base hO0.out))
             clear hO1' hg1 hO0 HB0)
          | (go_at_call 11; (with_reducible refine (HP.out _).mono ?_); rintro e wp ⟨rfl, m, hw⟩
             have hO0 := Lib.hid (Ls.own_below hS.out (Base.below_drewN (Below.refl _ wr) m))
             have HB0 := Lib.hid (Base.below_drewN hbr.out m)
             rw [← hw] at hO0 HB0
             clear hw))
        go_roundw
        case rel =>
          refine ⟨k + 1, by omega, by go_num, Lib.hid ?_, HB4⟩
          rw [HSN.out]
          exact row_chunk H0.out HD.out rfl rfl hO4.out
        case measure => simp [intOf]; omega
    · obtain rfl : k = n := by omega
      have HA := Lib.hid (body_all ls)
      have hz := HZ.out
      rw [HA.out, List.length_append] at hz
      rw [HL.out] at HA hz
      have hz' : (bodyL ls k).length + 3 ≤ 1000000000 := hz
      have HZ2 := Lib.hid hz'
      clear hz hz'
      go_wp2_with (at_builtin; (refine Lib.wpList_append_own_string _ rfl _ _ 22 9 rfl w.heap.size 5 i0 Tryd.underlying22 Tryd.underlying9 G1.out G2.out G3.out G4.out _ _ _ rfl hS.out ⟨#[48, 13, 10]⟩ rfl (by have := HZ2.out; show _ + 3 ≤ maxLen; unfold maxLen; omega) (by have := HZ2.out; show _ + 3 ≤ _; omega) hbr.out.size ?_)
                   intro v4 w4' hO4' hg4 _
                   have hO4 : w4'.ownsRow w.heap.size 5 1 v4 (putL ls).length (vals (putL ls)) := by
                     rw [HA.out, vals_app, List.length_append]; exact hO4'
                   obtain ⟨A4, c4, rfl, hN4⟩ := nums_of_own hO4
                   have HN4 := Lib.hid hN4
                   have HB4 := Lib.hid (hbr.out.grown hg4 hbr.out.size (own_base hS.out))
                   clear hO4' hO4 hN4 hg4)
      go_ret
      exact ⟨A4, c4, rfl, HN4.out, HB4.out⟩
end code
end Go.Proofs.YtonedklnjkjcgaaDoor.Chk
