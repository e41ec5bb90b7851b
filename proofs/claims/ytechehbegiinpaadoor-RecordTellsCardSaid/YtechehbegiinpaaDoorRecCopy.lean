/-
  Layer 12 (record): what Copy answers, of records of any size up to a great one: the same, in slices of its own; and All.
-/
import Derived.Test.YtechehbegiinpaaDoorRec
import Derived.Deep.CutBlock
import Derived.Deep.DeepCutAuto
import Derived.OneCell
namespace Go.Proofs.YtechehbegiinpaaDoor.Rec
open Go.RowKit Base Txt

abbrev byteV (c : UInt8) : Value := .int .u8 (c.toNat : Int)
def vals (l : List UInt8) : List Value := l.map byteV
theorem vals_app (a b : List UInt8) : vals (a ++ b) = vals a ++ vals b := List.map_append
theorem vals_length (a : List UInt8) : (vals a).length = a.length := List.length_map _
theorem vals_one (l : List UInt8) : ∀ u ∈ vals l, u.oneCell' = true := by
  intro u hu
  obtain ⟨b, _, rfl⟩ := List.mem_map.1 hu
  rfl
/-- The cells of a slice of bytes. -/
theorem vals_lie {w : World} {a : Option Addr} {n : Nat} {l : List UInt8} (h : Nums .u8 w a n (nums l)) : 0 < n → ∃ b off, a = some ⟨b, off, none⟩ ∧ ∀ j u, (vals l)[j]? = some u → w.cell? ⟨b, off + j, none⟩ = some u := by
  intro hn
  obtain ⟨b, off, rfl, _, hc⟩ := h.2 hn
  refine ⟨b, off, rfl, fun j u hu => ?_⟩
  have hl : l.length = n := by have := h.1; rwa [nums, List.length_map] at this
  have hj : j < l.length := by
    rcases Nat.lt_or_ge j l.length with h | h
    · exact h
    · rw [List.getElem?_eq_none (by rw [vals_length]; exact h)] at hu; cases hu
  rw [hc j (by omega), nums_at l j hj]
  rw [vals, List.getElem?_map, List.getElem?_eq_getElem hj] at hu
  exact hu
theorem nums_of_own {w : World} {base : Nat} {v : Value} {n : Nat} {bs : List UInt8} {e : TypeId} (h : w.ownsRow base e 1 v n (vals bs)) : ∃ A c, v = .slice A n c ∧ Nums .u8 w A n (Txt.nums bs) := by
  have hl : bs.length = n := by simpa [vals_length] using h.1
  rcases h.2 with ⟨rfl, rfl⟩ | ⟨g, cap, cur, rfl, _, hh, _, hc, _, ht⟩
  · obtain rfl : bs = [] := List.length_eq_zero_iff.1 hl
    exact ⟨none, 0, rfl, Nums.nil _ _ _⟩
  · refine ⟨_, _, rfl, ⟨by rw [Txt.nums, List.length_map]; exact hl, fun _ => ⟨g, 0, rfl, ?_, fun k hk => ?_⟩⟩⟩
    · rcases Nat.lt_or_ge g w.heap.size with hlt | hge
      · exact hlt
      · rw [Array.getElem?_eq_none hge] at hh; cases hh
    · rw [Nat.zero_add, cell_of_row w g k cur e (0, 0) hh, Txt.nums_at bs k (by omega)]
      have h1 : (vals bs)[k]? = some (byteV bs[k]) := by
        rw [vals, List.getElem?_map, List.getElem?_eq_getElem (by omega)]; rfl
      rw [← ht, List.getElem?_take_of_lt (by omega)] at h1
      simpa using h1

theorem cells_lie {w : World} {a : Option Addr} {n : Nat} {fs : List Fld} (h : Flds w a n fs) (hn : 0 < n) : ∃ b off, a = some ⟨b, off, none⟩ ∧ ∀ j u, (cells fs)[j]? = some u → w.cell? ⟨b, off + j, none⟩ = some u := by
  obtain ⟨b, off, rfl, _, hc⟩ := h.2 hn
  refine ⟨b, off, rfl, fun j u hj => ?_⟩
  have hl := h.1
  have hlen : j < (cells fs).length := by
    rcases Nat.lt_or_ge j (cells fs).length with h | h
    · exact h
    · rw [List.getElem?_eq_none h] at hj; cases hj
  rw [cells_length, hl] at hlen
  have hk : j / 2 < n := by omega
  obtain ⟨h0, h1⟩ := hc (j / 2) hk
  obtain ⟨g0, g1⟩ := cells_at fs (j / 2) (by omega)
  rcases Nat.mod_two_eq_zero_or_one j with hm | hm
  · have e : j / 2 * 2 = j := by omega
    rw [e] at h0 g0
    rw [h0, ← hj, g0]
  · have e : j / 2 * 2 + 1 = j := by omega
    rw [show off + j / 2 * 2 + 1 = off + (j / 2 * 2 + 1) by omega, e] at h1
    rw [e] at g1
    rw [h1, ← hj, g1]
theorem cells_all_one (fs : List Fld) : ∀ u ∈ cells fs, u.oneCell' = true := by
  intro u hu
  unfold cells at hu
  obtain ⟨f, _, hf⟩ := List.mem_flatMap.1 hu
  rcases (by simpa using hf : u = .string f.1 ∨ u = .string f.2) with rfl | rfl <;> rfl
theorem own_slice {w : World} {B : Nat} {e : TypeId} {size : Nat} {v : Value} {n : Nat} {xs : List Value} (hv : w.ownsRow B e size v n xs) : ∃ b cap, v = .slice b n cap := by
  rcases hv.2 with ⟨rfl, rfl⟩ | ⟨b', cap', cur, rfl, hb, hg, hn, hc, hs, ht⟩
  · exact ⟨none, 0, rfl⟩
  · exact ⟨_, cap', rfl⟩

theorem own_lt {w : World} {base : Nat} {e : TypeId} {size : Nat} {v : Value} {n : Nat} {xs : List Value} (h : w.ownsRow base e size v n xs) (g : Nat) (hg : v.ownBlock = some g) : g < w.heap.size := by
  rcases h.2 with ⟨rfl, _⟩ | ⟨g', cap, cur, rfl, hb, hh, _⟩
  · simp [Value.ownBlock] at hg
  · simp [Value.ownBlock] at hg
    subst hg
    rcases Nat.lt_or_ge g' w.heap.size with hlt | hge
    · exact hlt
    · rw [Array.getElem?_eq_none hge] at hh; cases hh

/-- A record stored into a block that the call made. -/
theorem put7 {w0 w : World} {B g : Nat} {zs : List Value} (hZ : Bk w g zs) (hl : zs.length = 7) (hb : Below B w0 w) (hg : B ≤ g) (v0 v1 v2 v3 v4 v5 v6 : Value) :
    ∃ W, ((((((w.setCell ⟨g, 0, none⟩ v0).setCell ⟨g, 1, none⟩ v1).setCell ⟨g, 2, none⟩ v2).setCell ⟨g, 3, none⟩ v3).setCell ⟨g, 4, none⟩ v4).setCell ⟨g, 5, none⟩ v5).setCell ⟨g, 6, none⟩ v6 = W ∧ Bk W g [v0, v1, v2, v3, v4, v5, v6] ∧ Below B w0 W ∧ W.heap.size = w.heap.size ∧
      (∀ (base : Nat) (e : TypeId) (size : Nat) (v : Value) (n : Nat) (xs : List Value), w.ownsRow base e size v n xs → v.ownBlock ≠ some g → W.ownsRow base e size v n xs) ∧ ∀ (g' : Nat) (vs : List Value), ¬ g' = g → Bk w g' vs → Bk W g' vs := by
  obtain ⟨z0, z1, z2, z3, z4, z5, z6, rfl⟩ : ∃ z0 z1 z2 z3 z4 z5 z6, zs = [z0, z1, z2, z3, z4, z5, z6] := by
    match zs, hl with
    | [a, b, c, d, e, f, g], _ => exact ⟨a, b, c, d, e, f, g, rfl⟩
  refine ⟨_, rfl, ?_, ((((((hb.setCell hg _).setCell hg _).setCell hg _).setCell hg _).setCell hg _).setCell hg _).setCell hg _, by simp, ?_, ?_⟩
  · exact ((((((hZ.set 0 v0 (by simp)).set 1 v1 (by simp)).set 2 v2 (by simp)).set 3 v3 (by simp)).set 4 v4 (by simp)).set 5 v5 (by simp)).set 6 v6 (by simp)
  · intro base e size v n xs h hne
    exact ownsRow_setCell_other (ownsRow_setCell_other (ownsRow_setCell_other (ownsRow_setCell_other (ownsRow_setCell_other (ownsRow_setCell_other (ownsRow_setCell_other h hne _) hne _) hne _) hne _) hne _) hne _) hne _
  · intro g' vs hne h
    have hne' : ¬ g = g' := fun e => hne e.symm
    exact ((((((h.other g 0 v0 hne').other g 1 v1 hne').other g 2 v2 hne').other g 3 v3 hne').other g 4 v4 hne').other g 5 v5 hne').other g 6 v6 hne'

/-- A record's slices are the call's own, each for itself. -/
structure Owns (w : World) (B : Nat) (fa : Option Addr) (fc : Nat) (ba : Option Addr) (bc : Nat) (ta : Option Addr) (tc : Nat) (r : R) : Prop where
  f : w.ownsRow B 31 2 (.slice fa r.fs.length fc) r.fs.length (cells r.fs)
  b : w.ownsRow B 5 1 (.slice ba r.body.length bc) r.body.length (vals r.body)
  t : w.ownsRow B 31 2 (.slice ta r.ts.length tc) r.ts.length (cells r.ts)
  fb : ∀ g, (Value.slice fa r.fs.length fc).ownBlock = some g → (Value.slice ba r.body.length bc).ownBlock ≠ some g
  ft : ∀ g, (Value.slice fa r.fs.length fc).ownBlock = some g → (Value.slice ta r.ts.length tc).ownBlock ≠ some g
  bt : ∀ g, (Value.slice ba r.body.length bc).ownBlock = some g → (Value.slice ta r.ts.length tc).ownBlock ≠ some g
theorem Owns.reads {w : World} {B : Nat} {fa : Option Addr} {fc : Nat} {ba : Option Addr} {bc : Nat} {ta : Option Addr} {tc : Nat} {r : R} (h : Owns w B fa fc ba bc ta tc r) :
    Reads w (.agg #[.string r.m, .string r.x, .int .i64 r.k, .slice fa r.fs.length fc, .bool r.ch, .slice ba r.body.length bc, .slice ta r.ts.length tc]) r := by
  obtain ⟨A1, c1, e1, h1⟩ := Flds.of_own h.f
  obtain ⟨A2, c2, e2, h2⟩ := nums_of_own h.b
  obtain ⟨A3, c3, e3, h3⟩ := Flds.of_own h.t
  simp only [Value.slice.injEq, true_and] at e1 e2 e3
  obtain ⟨rfl, rfl⟩ := e1
  obtain ⟨rfl, rfl⟩ := e2
  obtain ⟨rfl, rfl⟩ := e3
  exact ⟨_, _, _, _, _, _, rfl, h1, h2, h3⟩
theorem Owns.below {w w' : World} {B : Nat} {fa : Option Addr} {fc : Nat} {ba : Option Addr} {bc : Nat} {ta : Option Addr} {tc : Nat} {r : R} (h : Owns w B fa fc ba bc ta tc r) (hb : Below w.heap.size w w') : Owns w' B fa fc ba bc ta tc r :=
  ⟨own_below h.f hb, own_below h.b hb, own_below h.t hb, h.fb, h.ft, h.bt⟩

section code
set_option maxHeartbeats 1000000
theorem copy_any (V : Value) (r : R) (w : World) (h : Reads w V r) (hf : Fit r) : Calls Tryd.prog 18 #[V] w fun e w' =>
    ∃ fa fc ba bc ta tc, e = .returned (.agg #[.string r.m, .string r.x, .int .i64 r.k, .slice fa r.fs.length fc, .bool r.ch, .slice ba r.body.length bc, .slice ta r.ts.length tc]) ∧ Owns w' w.heap.size fa fc ba bc ta tc r ∧ Below w.heap.size w w' := by
  have HF := Lib.hid hf
  obtain ⟨fa, fc, ba, bc, ta, tc, rfl, h1, h2, h3⟩ := h
  obtain ⟨iF, hi, hz0, hz1, hz2⟩ := info_parts field_info
  obtain ⟨iB, hj, hy0, hy1, hy2⟩ := info_parts byte_info
  have G1 := Lib.hid hi; have G2 := Lib.hid hz0; have G3 := Lib.hid hz1; have G4 := Lib.hid hz2
  have K1 := Lib.hid hj; have K2 := Lib.hid hy0; have K3 := Lib.hid hy1; have K4 := Lib.hid hy2
  have H1 := Lib.hid h1; have H2 := Lib.hid h2; have H3 := Lib.hid h3
  clear hi hz0 hz1 hz2 hj hy0 hy1 hy2 h1 h2 h3 hf
  have hb0 := Lib.hid (((Below.refl _ _).alloc (Nat.le_refl _) (.cells #[.string r.m, .string r.x, .int .i64 r.k, .slice fa r.fs.length fc, .bool r.ch, .slice ba r.body.length bc, .slice ta r.ts.length tc] 25)).alloc (by simp) (.cells #[.string ⟨#[]⟩, .string ⟨#[]⟩, .int .i64 0, .slice none 0 0, .bool false, .slice none 0 0, .slice none 0 0] 25) : Below w.heap.size w _)
  have HA := Lib.hid ((Bk.new w w.heap.size rfl 25 [.string r.m, .string r.x, .int .i64 r.k, .slice fa r.fs.length fc, .bool r.ch, .slice ba r.body.length bc, .slice ta r.ts.length tc]).alloc (.cells #[.string ⟨#[]⟩, .string ⟨#[]⟩, .int .i64 0, .slice none 0 0, .bool false, .slice none 0 0, .slice none 0 0] 25))
  have HZ := Lib.hid (Bk.new (w.alloc (.cells #[.string r.m, .string r.x, .int .i64 r.k, .slice fa r.fs.length fc, .bool r.ch, .slice ba r.body.length bc, .slice ta r.ts.length tc] 25)) (w.heap.size + 1) (by simp) 25 [.string ⟨#[]⟩, .string ⟨#[]⟩, .int .i64 0, .slice none 0 0, .bool false, .slice none 0 0, .slice none 0 0])
  go_enter Tryd.func18, Tryd.ntmps18
  go_upto_region 1 with fail
  generalize (w.alloc (.cells #[.string r.m, .string r.x, .int .i64 r.k, .slice fa r.fs.length fc, .bool r.ch, .slice ba r.body.length bc, .slice ta r.ts.length tc] 25)).alloc (.cells #[.string ⟨#[]⟩, .string ⟨#[]⟩, .int .i64 0, .slice none 0 0, .bool false, .slice none 0 0, .slice none 0 0] 25) = W at *
  have HB0 := hb0
  have HA0 := HA
  have HZ0 := HZ
  clear HA HZ hb0
  have q0 := HA0.out.c 3 _ rfl
  have z0 := HA0.out.z 3 (by simp)
  go_upto_region 2 with
    (at_builtin; refine App.wpList_append_list _ rfl _ _ 22 rfl w.heap.size 31 iF (.agg #[.string ByteArray.empty, .string ByteArray.empty]) 2 32 Tryd.underlying22 G1.out G2.out G3.out G4.out rfl (by decide) _ 0 [] rfl (World.ownsRow_nil _ _ _ _) fa r.fs.length fc (cells r.fs) rfl (cells_length _) (cells_lie (H1.out.below HB0.out)) (cells_all_one _) (by have := HF.out.fs; unfold maxLen; omega) (by have := HF.out.fs; omega) HB0.out.size ?_
     intro v1 w1 hO1 hgr1 _ hor1
     replace hor1 : v1.ownBlock = none ∨ v1.ownBlock = some W.heap.size := hor1
     have hb1 : Below W.heap.size W w1 := below_of_grown hgr1
     rw [Nat.zero_add, List.nil_append] at hO1
     obtain ⟨b1, c1, rfl⟩ := own_slice hO1
     have HO1 := Lib.hid hO1; have HR1 := Lib.hid hor1; have HX1 := Lib.hid hb1
     have HA1 := Lib.hid (HA0.out.below hb1); have HZ1 := Lib.hid (HZ0.out.below hb1)
     have q := HA1.out.c 3 _ rfl; have z := HA1.out.z 3 (by simp)
     clear hO1 hgr1 hor1 hb1 q0 z0)
  have hW1 := Lib.hid (show W.heap.size ≤ w1.heap.size from HX1.out.size)
  replace HA1 := Lib.hid (HA1.out.set 3 (.slice b1 r.fs.length c1) (by simp))
  replace HZ1 := Lib.hid (HZ1.out.other w.heap.size 3 (.slice b1 r.fs.length c1) (by omega))
  have HB1 := Lib.hid (show Below w.heap.size w (w1.setCell ⟨w.heap.size, 3, none⟩ (.slice b1 r.fs.length c1)) from (Base.below_step HB0.out HX1.out).setCell (Nat.le_refl _) _)
  have hg1 := Lib.hid (show ∀ g, (Value.slice b1 r.fs.length c1).ownBlock = some g → w.heap.size + 1 < g ∧ W.heap.size ≤ g ∧ g < w1.heap.size from fun g hg => by
    have := HZ0.out.lt
    have h2 := own_lt HO1.out g hg
    rcases HR1.out with h | h
    · rw [h] at hg; cases hg
    · rw [h] at hg; cases hg; exact ⟨by omega, Nat.le_refl _, h2⟩)
  replace HO1 := Lib.hid (ownsRow_setCell_other HO1.out (a := ⟨w.heap.size, 3, none⟩) (fun e => by have := hg1.out _ e; simp only at this; omega) (.slice b1 r.fs.length c1))
  have hs1 := Lib.hid (show w1.heap.size = (w1.setCell ⟨w.heap.size, 3, none⟩ (.slice b1 r.fs.length c1)).heap.size from by simp)
  clear q z
  generalize w1.setCell ⟨w.heap.size, 3, none⟩ (.slice b1 r.fs.length c1) = W1 at *
  have q0 := HA1.out.c 5 _ rfl
  have z0 := HA1.out.z 5 (by simp)
  go_upto_region 3 with
    (at_builtin; refine App.wpList_append_list _ rfl _ _ 23 rfl w.heap.size 5 iB (.int .u8 0) 1 1 Tryd.underlying23 K1.out K2.out K3.out K4.out rfl (by decide) _ 0 [] rfl (World.ownsRow_nil _ _ _ _) ba r.body.length bc (vals r.body) rfl (by rw [vals_length, Nat.mul_one]) (vals_lie (H2.out.below HB1.out)) (vals_one _) (by have := HF.out.body; unfold maxLen; omega) (by have := HF.out.body; omega) HB1.out.size ?_
     intro v2 w2 hO2 hgr2 _ hor2
     replace hor2 : v2.ownBlock = none ∨ v2.ownBlock = some W1.heap.size := hor2
     have hb2 : Below W1.heap.size W1 w2 := below_of_grown hgr2
     rw [Nat.zero_add, List.nil_append] at hO2
     obtain ⟨b2, c2, rfl⟩ := own_slice hO2
     have HO2 := Lib.hid hO2; have HR2 := Lib.hid hor2; have HX2 := Lib.hid hb2
     have HA2 := Lib.hid (HA1.out.below hb2); have HZ2 := Lib.hid (HZ1.out.below hb2)
     have q := HA2.out.c 5 _ rfl; have z := HA2.out.z 5 (by simp)
     clear hO2 hgr2 hor2 hb2 q0 z0)
  have hW2 := Lib.hid (show W1.heap.size ≤ w2.heap.size from HX2.out.size)
  replace HA2 := Lib.hid (HA2.out.set 5 (.slice b2 r.body.length c2) (by simp))
  replace HZ2 := Lib.hid (HZ2.out.other w.heap.size 5 (.slice b2 r.body.length c2) (by omega))
  have HB2 := Lib.hid (show Below w.heap.size w (w2.setCell ⟨w.heap.size, 5, none⟩ (.slice b2 r.body.length c2)) from (Base.below_step HB1.out HX2.out).setCell (Nat.le_refl _) _)
  have hg2 := Lib.hid (show ∀ g, (Value.slice b2 r.body.length c2).ownBlock = some g → w.heap.size + 1 < g ∧ W1.heap.size ≤ g ∧ g < w2.heap.size from fun g hg => by
    have := HZ1.out.lt
    have h2 := own_lt HO2.out g hg
    rcases HR2.out with h | h
    · rw [h] at hg; cases hg
    · rw [h] at hg; cases hg; exact ⟨by omega, Nat.le_refl _, h2⟩)
  replace HO2 := Lib.hid (ownsRow_setCell_other HO2.out (a := ⟨w.heap.size, 5, none⟩) (fun e => by have := hg2.out _ e; simp only at this; omega) (.slice b2 r.body.length c2))
  replace HO1 := Lib.hid (ownsRow_setCell_other (own_below HO1.out HX2.out) (a := ⟨w.heap.size, 5, none⟩) (fun e => by have := hg1.out _ e; simp only at this; omega) (.slice b2 r.body.length c2))
  have hs2 := Lib.hid (show w2.heap.size = (w2.setCell ⟨w.heap.size, 5, none⟩ (.slice b2 r.body.length c2)).heap.size from by simp)
  clear q z
  generalize w2.setCell ⟨w.heap.size, 5, none⟩ (.slice b2 r.body.length c2) = W2 at *
  have q0 := HA2.out.c 6 _ rfl
  have z0 := HA2.out.z 6 (by simp)
  go_upto_region 4 with
    (at_builtin; refine App.wpList_append_list _ rfl _ _ 22 rfl w.heap.size 31 iF (.agg #[.string ByteArray.empty, .string ByteArray.empty]) 2 32 Tryd.underlying22 G1.out G2.out G3.out G4.out rfl (by decide) _ 0 [] rfl (World.ownsRow_nil _ _ _ _) ta r.ts.length tc (cells r.ts) rfl (cells_length _) (cells_lie (H3.out.below HB2.out)) (cells_all_one _) (by have := HF.out.ts; unfold maxLen; omega) (by have := HF.out.ts; omega) HB2.out.size ?_
     intro v3 w3 hO3 hgr3 _ hor3
     replace hor3 : v3.ownBlock = none ∨ v3.ownBlock = some W2.heap.size := hor3
     have hb3 : Below W2.heap.size W2 w3 := below_of_grown hgr3
     rw [Nat.zero_add, List.nil_append] at hO3
     obtain ⟨b3, c3, rfl⟩ := own_slice hO3
     have HO3 := Lib.hid hO3; have HR3 := Lib.hid hor3; have HX3 := Lib.hid hb3
     have HA3 := Lib.hid (HA2.out.below hb3); have HZ3 := Lib.hid (HZ2.out.below hb3)
     have q := HA3.out.c 6 _ rfl; have z := HA3.out.z 6 (by simp)
     clear hO3 hgr3 hor3 hb3 q0 z0)
  have hW3 := Lib.hid (show W2.heap.size ≤ w3.heap.size from HX3.out.size)
  replace HA3 := Lib.hid (HA3.out.set 6 (.slice b3 r.ts.length c3) (by simp))
  replace HZ3 := Lib.hid (HZ3.out.other w.heap.size 6 (.slice b3 r.ts.length c3) (by omega))
  have HB3 := Lib.hid (show Below w.heap.size w (w3.setCell ⟨w.heap.size, 6, none⟩ (.slice b3 r.ts.length c3)) from (Base.below_step HB2.out HX3.out).setCell (Nat.le_refl _) _)
  have hg3 := Lib.hid (show ∀ g, (Value.slice b3 r.ts.length c3).ownBlock = some g → w.heap.size + 1 < g ∧ W2.heap.size ≤ g ∧ g < w3.heap.size from fun g hg => by
    have := HZ2.out.lt
    have h2 := own_lt HO3.out g hg
    rcases HR3.out with h | h
    · rw [h] at hg; cases hg
    · rw [h] at hg; cases hg; exact ⟨by omega, Nat.le_refl _, h2⟩)
  replace HO3 := Lib.hid (ownsRow_setCell_other HO3.out (a := ⟨w.heap.size, 6, none⟩) (fun e => by have := hg3.out _ e; simp only at this; omega) (.slice b3 r.ts.length c3))
  replace HO1 := Lib.hid (ownsRow_setCell_other (own_below HO1.out HX3.out) (a := ⟨w.heap.size, 6, none⟩) (fun e => by have := hg1.out _ e; simp only at this; omega) (.slice b3 r.ts.length c3))
  replace HO2 := Lib.hid (ownsRow_setCell_other (own_below HO2.out HX3.out) (a := ⟨w.heap.size, 6, none⟩) (fun e => by have := hg2.out _ e; simp only at this; omega) (.slice b3 r.ts.length c3))
  have hs3 := Lib.hid (show w3.heap.size = (w3.setCell ⟨w.heap.size, 6, none⟩ (.slice b3 r.ts.length c3)).heap.size from by simp)
  clear q z
  generalize w3.setCell ⟨w.heap.size, 6, none⟩ (.slice b3 r.ts.length c3) = W3 at *
  have q0 := HA3.out.c 0 _ rfl; have q1 := HA3.out.c 1 _ rfl; have q2 := HA3.out.c 2 _ rfl; have q3 := HA3.out.c 3 _ rfl; have q4 := HA3.out.c 4 _ rfl; have q5 := HA3.out.c 5 _ rfl; have q6 := HA3.out.c 6 _ rfl
  have p0 := HZ3.out.z 0 (by simp); have p1 := HZ3.out.z 1 (by simp); have p2 := HZ3.out.z 2 (by simp); have p3 := HZ3.out.z 3 (by simp); have p4 := HZ3.out.z 4 (by simp); have p5 := HZ3.out.z 5 (by simp); have p6 := HZ3.out.z 6 (by simp)
  have y0 := HZ3.out.c 0 _ rfl; have y1 := HZ3.out.c 1 _ rfl; have y2 := HZ3.out.c 2 _ rfl; have y3 := HZ3.out.c 3 _ rfl; have y4 := HZ3.out.c 4 _ rfl; have y5 := HZ3.out.c 5 _ rfl; have y6 := HZ3.out.c 6 _ rfl
  go_wp2_with fail
  obtain ⟨X, hX, hBX, hbX, hsX, hoX, -⟩ := put7 HZ3.out (by simp) HB3.out (Nat.le_succ _) (.string r.m) (.string r.x) (.int .i64 r.k) (.slice b1 r.fs.length c1) (.bool r.ch) (.slice b2 r.body.length c2) (.slice b3 r.ts.length c3)
  rw [hX]
  have d0 := hBX.c 0 _ rfl; have d1 := hBX.c 1 _ rfl; have d2 := hBX.c 2 _ rfl; have d3 := hBX.c 3 _ rfl; have d4 := hBX.c 4 _ rfl; have d5 := hBX.c 5 _ rfl; have d6 := hBX.c 6 _ rfl
  refine bodyPost_ret (v := .agg #[.string r.m, .string r.x, .int .i64 r.k, .slice b1 r.fs.length c1, .bool r.ch, .slice b2 r.body.length c2, .slice b3 r.ts.length c3]) (by simp [results, Tryd.results18, go_sem, d0, d1, d2, d3, d4, d5, d6]) rfl ⟨b1, c1, b2, c2, b3, c3, rfl, ⟨?_, ?_, ?_, ?_, ?_, ?_⟩, hbX⟩
  · exact hoX _ _ _ _ _ _ HO1.out (fun e => by have := hg1.out _ e; omega)
  · exact hoX _ _ _ _ _ _ HO2.out (fun e => by have := hg2.out _ e; omega)
  · exact hoX _ _ _ _ _ _ HO3.out (fun e => by have := hg3.out _ e; omega)
  · intro g h1 h2
    have := hg1.out _ h1; have := hg2.out _ h2; have := hs1.out; omega
  · intro g h1 h2
    have := hg1.out _ h1; have := hg3.out _ h2; have := hs1.out; have := hs2.out; have := hW2.out; omega
  · intro g h1 h2
    have := hg2.out _ h1; have := hg3.out _ h2; have := hs2.out; omega
end code
end Go.Proofs.YtechehbegiinpaaDoor.Rec
