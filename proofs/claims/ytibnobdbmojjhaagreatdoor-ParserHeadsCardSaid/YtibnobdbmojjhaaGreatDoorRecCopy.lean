/-
  Layer 12 (record): what Copy answers, of records of any size up to a great one: the same, in slices of its own; and All.
-/
import Derived.Test.YtibnobdbmojjhaaGreatDoorRec
import Derived.Deep.CutBlock
import Derived.Deep.DeepCutAuto
import Derived.OneCell
namespace Go.Proofs.YtibnobdbmojjhaaGreatDoor.Rec
open Go.RowKit Base Txt

abbrev byteV (c : UInt8) : Value := .int .u8 (c.toNat : Int)
def vals (l : List UInt8) : List Value := l.map byteV
theorem vals_app (a b : List UInt8) : vals (a ++ b) = vals a ++ vals b := List.map_append
theorem vals_length (a : List UInt8) : (vals a).length = a.length := List.length_map _
theorem vals_one (l : List UInt8) : ∀ u ∈ vals l, u.oneCell' = true := by
  intro u hu
  obtain ⟨b, _, rfl⟩ := List.mem_map.1 hu
  rfl
/-- The cells of a slice of bytes. -/
theorem vals_lie {w : World} {a : Option Addr} {n : Nat} {l : List UInt8} (h : Nums .u8 w a n (nums l)) : 0 < n → ∃ b off, a = some ⟨b, off, none⟩ ∧ ∀ j u, (vals l)[j]? = some u → w.cell? ⟨b, off + j, none⟩ = some u := by
  intro hn
  obtain ⟨b, off, rfl, _, hc⟩ := h.2 hn
  refine ⟨b, off, rfl, fun j u hu => ?_⟩
  have hl : l.length = n := by have := h.1; rwa [nums, List.length_map] at this
  have hj : j < l.length := by
    rcases Nat.lt_or_ge j l.length with h | h
    · exact h
    · rw [List.getElem?_eq_none (by rw [vals_length]; exact h)] at hu; cases hu
  rw [hc j (by omega), nums_at l j hj]
  rw [vals, List.getElem?_map, List.getElem?_eq_getElem hj] at hu
  exact hu
theorem nums_of_own {w : World} {base : Nat} {v : Value} {n : Nat} {bs : List UInt8} {e : TypeId} (h : w.ownsRow base e 1 v n (vals bs)) : ∃ A c, v = .slice A n c ∧ Nums .u8 w A n (Txt.nums bs) := by
  have hl : bs.length = n := by simpa [vals_length] using h.1
  rcases h.2 with ⟨rfl, rfl⟩ | ⟨g, cap, cur, rfl, _, hh, _, hc, _, ht⟩
  · obtain rfl : bs = [] := List.length_eq_zero_iff.1 hl
    exact ⟨none, 0, rfl, Nums.nil _ _ _⟩
  · refine ⟨_, _, rfl, ⟨by rw [Txt.nums, List.length_map]; exact hl, fun _ => ⟨g, 0, rfl, ?_, fun k hk => ?_⟩⟩⟩
    · rcases Nat.lt_or_ge g w.heap.size with hlt | hge
      · exact hlt
      · rw [Array.getElem?_eq_none hge] at hh; cases hh
    · rw [Nat.zero_add, cell_of_row w g k cur e (0, 0) hh, Txt.nums_at bs k (by omega)]
      have h1 : (vals bs)[k]? = some (byteV bs[k]) := by
        rw [vals, List.getElem?_map, List.getElem?_eq_getElem (by omega)]; rfl
      rw [← ht, List.getElem?_take_of_lt (by omega)] at h1
      simpa using h1

theorem cells_lie {w : World} {a : Option Addr} {n : Nat} {fs : List Fld} (h : Flds w a n fs) (hn : 0 < n) : ∃ b off, a = some ⟨b, off, none⟩ ∧ ∀ j u, (cells fs)[j]? = some u → w.cell? ⟨b, off + j, none⟩ = some u := by
  obtain ⟨b, off, rfl, _, hc⟩ := h.2 hn
  refine ⟨b, off, rfl, fun j u hj => ?_⟩
  have hl := h.1
  have hlen : j < (cells fs).length := by
    rcases Nat.lt_or_ge j (cells fs).length with h | h
    · exact h
    · rw [List.getElem?_eq_none h] at hj; cases hj
  rw [cells_length, hl] at hlen
  have hk : j / 2 < n := by omega
  obtain ⟨h0, h1⟩ := hc (j / 2) hk
  obtain ⟨g0, g1⟩ := cells_at fs (j / 2) (by omega)
  rcases Nat.mod_two_eq_zero_or_one j with hm | hm
  · have e : j / 2 * 2 = j := by omega
    rw [e] at h0 g0
    rw [h0, ← hj, g0]
  · have e : j / 2 * 2 + 1 = j := by omega
    rw [show off + j / 2 * 2 + 1 = off + (j / 2 * 2 + 1) by omega, e] at h1
    rw [e] at g1
    rw [h1, ← hj, g1]
theorem cells_all_one (fs : List Fld) : ∀ u ∈ cells fs, u.oneCell' = true := by
  intro u hu
  unfold cells at hu
  obtain ⟨f, _, hf⟩ := List.mem_flatMap.1 hu
  rcases (by simpa using hf : u = .string f.1 ∨ u = .string f.2) with rfl | rfl <;> rfl
theorem own_slice {w : World} {B : Nat} {e : TypeId} {size : Nat} {v : Value} {n : Nat} {xs : List Value} (hv : w.ownsRow B e size v n xs) : ∃ b cap, v = .slice b n cap := by
  rcases hv.2 with ⟨rfl, rfl⟩ | ⟨b', cap', cur, rfl, hb, hg, hn, hc, hs, ht⟩
  · exact ⟨none, 0, rfl⟩
  · exact ⟨_, cap', rfl⟩

theorem own_lt {w : World} {base : Nat} {e : TypeId} {size : Nat} {v : Value} {n : Nat} {xs : List Value} (h : w.ownsRow base e size v n xs) (g : Nat) (hg : v.ownBlock = some g) : g < w.heap.size := by
  rcases h.2 with ⟨rfl, _⟩ | ⟨g', cap, cur, rfl, hb, hh, _⟩
  · simp [Value.ownBlock] at hg
  · simp [Value.ownBlock] at hg
    subst hg
    rcases Nat.lt_or_ge g' w.heap.size with hlt | hge
    · exact hlt
    · rw [Array.getElem?_eq_none hge] at hh; cases hh

/-- A record stored into a block that the call made. -/
theorem put7 {w0 w : World} {B g : Nat} {zs : List Value} (hZ : Bk w g zs) (hl : zs.length = 7) (hb : Below B w0 w) (hg : B ≤ g) (v0 v1 v2 v3 v4 v5 v6 : Value) :
    ∃ W, ((((((w.setCell ⟨g, 0, none⟩ v0).setCell ⟨g, 1, none⟩ v1).setCell ⟨g, 2, none⟩ v2).setCell ⟨g, 3, none⟩ v3).setCell ⟨g, 4, none⟩ v4).setCell ⟨g, 5, none⟩ v5).setCell ⟨g, 6, none⟩ v6 = W ∧ Bk W g [v0, v1, v2, v3, v4, v5, v6] ∧ Below B w0 W ∧ W.heap.size = w.heap.size ∧
      (∀ (base : Nat) (e : TypeId) (size : Nat) (v : Value) (n : Nat) (xs : List Value), w.ownsRow base e size v n xs → v.ownBlock ≠ some g → W.ownsRow base e size v n xs) ∧ ∀ (g' : Nat) (vs : List Value), ¬ g' = g → Bk w g' vs → Bk W g' vs := by
  obtain ⟨z0, z1, z2, z3, z4, z5, z6, rfl⟩ : ∃ z0 z1 z2 z3 z4 z5 z6, zs = [z0, z1, z2, z3, z4, z5, z6] := by
    match zs, hl with
    | [a, b, c, d, e, f, g], _ => exact ⟨a, b, c, d, e, f, g, rfl⟩
  refine ⟨_, rfl, ?_, ((((((hb.setCell hg _).setCell hg _).setCell hg _).setCell hg _).setCell hg _).setCell hg _).setCell hg _, by simp, ?_, ?_⟩
  · exact ((((((hZ.set 0 v0 (by simp)).set 1 v1 (by simp)).set 2 v2 (by simp)).set 3 v3 (by simp)).set 4 v4 (by simp)).set 5 v5 (by simp)).set 6 v6 (by simp)
  · intro base e size v n xs h hne
    exact ownsRow_setCell_other (ownsRow_setCell_other (ownsRow_setCell_other (ownsRow_setCell_other (ownsRow_setCell_other (ownsRow_setCell_other (ownsRow_setCell_other h hne _) hne _) hne _) hne _) hne _) hne _) hne _
  · intro g' vs hne h
    have hne' : ¬ g = g' := fun e => hne e.symm
    exact ((((((h.other g 0 v0 hne').other g 1 v1 hne').other g 2 v2 hne').other g 3 v3 hne').other g 4 v4 hne').other g 5 v5 hne').other g 6 v6 hne'

/-- A record's slices are the call's own, each for itself. -/
structure Owns (w : World) (B : Nat) (fa : Option Addr) (fc : Nat) (ba : Option Addr) (bc : Nat) (ta : Option Addr) (tc : Nat) (r : R) : Prop where
  f : w.ownsRow B 83 2 (.slice fa r.fs.length fc) r.fs.length (cells r.fs)
  b : w.ownsRow B 5 1 (.slice ba r.body.length bc) r.body.length (vals r.body)
  t : w.ownsRow B 83 2 (.slice ta r.ts.length tc) r.ts.length (cells r.ts)
  fb : ∀ g, (Value.slice fa r.fs.length fc).ownBlock = some g → (Value.slice ba r.body.length bc).ownBlock ≠ some g
  ft : ∀ g, (Value.slice fa r.fs.length fc).ownBlock = some g → (Value.slice ta r.ts.length tc).ownBlock ≠ some g
  bt : ∀ g, (Value.slice ba r.body.length bc).ownBlock = some g → (Value.slice ta r.ts.length tc).ownBlock ≠ some g
theorem Owns.reads {w : World} {B : Nat} {fa : Option Addr} {fc : Nat} {ba : Option Addr} {bc : Nat} {ta : Option Addr} {tc : Nat} {r : R} (h : Owns w B fa fc ba bc ta tc r) :
    Reads w (.agg #[.string r.m, .string r.x, .int .i64 r.k, .slice fa r.fs.length fc, .bool r.ch, .slice ba r.body.length bc, .slice ta r.ts.length tc]) r := by
  obtain ⟨A1, c1, e1, h1⟩ := Flds.of_own h.f
  obtain ⟨A2, c2, e2, h2⟩ := nums_of_own h.b
  obtain ⟨A3, c3, e3, h3⟩ := Flds.of_own h.t
  simp only [Value.slice.injEq, true_and] at e1 e2 e3
  obtain ⟨rfl, rfl⟩ := e1
  obtain ⟨rfl, rfl⟩ := e2
  obtain ⟨rfl, rfl⟩ := e3
  exact ⟨_, _, _, _, _, _, rfl, h1, h2, h3⟩
theorem Owns.below {w w' : World} {B : Nat} {fa : Option Addr} {fc : Nat} {ba : Option Addr} {bc : Nat} {ta : Option Addr} {tc : Nat} {r : R} (h : Owns w B fa fc ba bc ta tc r) (hb : Below w.heap.size w w') : Owns w' B fa fc ba bc ta tc r :=
  ⟨own_below h.f hb, own_below h.b hb, own_below h.t hb, h.fb, h.ft, h.bt⟩

section code
set_option maxHeartbeats 1000000
end code
end Go.Proofs.YtibnobdbmojjhaaGreatDoor.Rec
