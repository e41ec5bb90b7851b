/-
  A slice of pairs of bytes ([][2]uint8): as words; and one that came in, nil or not.
-/
import Derived.Test.YtmbjnolikofaoaaFrameText
import Derived.Deep.SlicePairs
import Derived.OpenShut
namespace Go.Proofs.Ytmbjnolikofaoaa.Txt
open Go.RowKit

/-- A slice of pairs of bytes. -/
def Pairs (w : World) (a : Option Addr) (n : Nat) (ps : List (Nat × Nat)) : Prop :=
  ps.length = n ∧ (0 < n → ∃ b off, a = some ⟨b, off, none⟩ ∧ b < w.heap.size ∧ ∀ k, k < n → w.cell? ⟨b, off + k * 2, none⟩ = some (.int .u8 ((ps[k]?.getD (0, 0)).1 : Nat)) ∧ w.cell? ⟨b, off + k * 2 + 1, none⟩ = some (.int .u8 ((ps[k]?.getD (0, 0)).2 : Nat)))
theorem Pairs.nil (w : World) (a : Option Addr) : Pairs w a 0 [] := ⟨rfl, fun h => absurd h (by omega)⟩
theorem Pairs.below {w w' : World} {a : Option Addr} {n : Nat} {ps : List (Nat × Nat)} (h : Pairs w a n ps) (hb : Below w.heap.size w w') : Pairs w' a n ps := by
  refine ⟨h.1, fun hn => ?_⟩
  obtain ⟨b, off, e, hlt, hc⟩ := h.2 hn
  exact ⟨b, off, e, Nat.lt_of_lt_of_le hlt hb.size, fun k hk => ⟨(hb.cell (p := ⟨b, off + k * 2, none⟩) hlt).trans (hc k hk).1, (hb.cell (p := ⟨b, off + k * 2 + 1, none⟩) hlt).trans (hc k hk).2⟩⟩
end Go.Proofs.Ytmbjnolikofaoaa.Txt

namespace Go.Proofs.Ytmbjnolikofaoaa.Frame
open Go.ChangeShapes Go.WideShapes Go.ChangeAt Go.RowKit Go.Deep

section
variable {H : Type} {enc : TypeId × Value → H} {P : Program}
def natOf : Value → Nat
  | .int _ n => n.toNat
  | _ => 0
theorem open_pairs_slice {t e u : TypeId} {W : World} {v : Value} {d : DataW H} {ps : List MemPlace} (ht : P.underlying t = some (.slice e)) (he : P.underlying e = some (.array 2 u)) (hu : P.underlying u = some (.int .u8))
    (ce : P.cellsOf e = 2) (cu : P.cellsOf u = 1) {base : Nat} (hok : Value.okWide P W .any base t v) (h : DataW.Trod enc P W 0 (fun _ => true) true t v d ps) :
    ∃ a len cap qs, v = .slice a len cap ∧ Txt.Pairs W a len qs ∧ len ≤ maxLen ∧ cap ≤ maxLen ∧ len ≤ cap ∧ ∀ q ∈ qs, q.1 < 256 ∧ q.2 < 256 := by
  obtain ⟨a, len, cap, rfl⟩ := okWide_slice ht hok
  obtain ⟨fuel, hf⟩ := h
  rcases Go.Deep.open_slice ht hf with ⟨hcs, _⟩ | ⟨x, l, c, m, n, D, Pl, hcs, _, hl, hm, hz, _, hx⟩
  · simp [Value.cells] at hcs
    obtain ⟨rfl, rfl, rfl⟩ := hcs
    exact ⟨none, 0, 0, [], rfl, Txt.Pairs.nil _ _, by decide, by decide, Nat.le_refl _, by simp⟩
  · simp [Value.cells] at hcs
    obtain ⟨rfl, rfl, rfl⟩ := hcs
    simp at hz
    subst hz
    have each : ∀ i, i < m → ∃ v0 v1 : Value, W.cell? (x.add (i * 2)) = some v0 ∧ W.cell? (x.add (i * 2 + 1)) = some v1 ∧ (∃ p : Nat, v0 = .int .u8 (p : Nat) ∧ p < 256) ∧ ∃ q : Nat, v1 = .int .u8 (q : Nat) ∧ q < 256 := fun i hi => by
      obtain ⟨cs', h1, h2⟩ := hx i hi
      rw [ce] at h1
      obtain ⟨_, hlen, hcell⟩ := World.cells?_some h1
      obtain ⟨xs, k, _, _, _, hxl, hf⟩ := DataW.trod_array he h2
      rw [cu] at hf
      match xs, hxl, cs', hlen with
      | [y0, y1], _, [v0, v1], _ =>
        have g0 := hf 0 (by decide)
        have g1 := hf 1 (by decide)
        simp at g0 g1
        have e0 := hcell 0 (by omega)
        have e1 := hcell 1 (by omega)
        rw [add_add] at e0 e1
        obtain ⟨p0, a0, _, a2⟩ := DataW.trod_int hu g0
        obtain ⟨p1, b0, _, b2⟩ := DataW.trod_int hu g1
        have c0 := bounds_u8 a2
        have c1 := bounds_u8 b2
        have d0 : v0 = .int .u8 p0 := by simpa using a0
        have d1 : v1 = .int .u8 p1 := by simpa using b0
        refine ⟨v0, v1, by simpa using e0, by simpa using e1, ⟨p0.toNat, ?_, by omega⟩, p1.toNat, ?_, by omega⟩
        · rw [d0, Int.toNat_of_nonneg c0.1]
        · rw [d1, Int.toNat_of_nonneg c1.1]
    obtain ⟨V0, hV0⟩ : ∃ V0 : Nat → Value, ∀ i, i < m → W.cell? (x.add (i * 2)) = some (V0 i) := ⟨fun i => (W.cell? (x.add (i * 2))).getD undef, fun i hi => by
      obtain ⟨v0, _, h0, _⟩ := each i hi
      show _ = some ((W.cell? (x.add (i * 2))).getD undef)
      rw [h0]; rfl⟩
    obtain ⟨V1, hV1⟩ : ∃ V1 : Nat → Value, ∀ i, i < m → W.cell? (x.add (i * 2 + 1)) = some (V1 i) := ⟨fun i => (W.cell? (x.add (i * 2 + 1))).getD undef, fun i hi => by
      obtain ⟨_, v1, _, h1, _⟩ := each i hi
      show _ = some ((W.cell? (x.add (i * 2 + 1))).getD undef)
      rw [h1]; rfl⟩
    have hval : ∀ i, i < m → (V0 i = .int .u8 (natOf (V0 i) : Nat) ∧ natOf (V0 i) < 256) ∧ (V1 i = .int .u8 (natOf (V1 i) : Nat) ∧ natOf (V1 i) < 256) := fun i hi => by
      obtain ⟨v0, v1, h0, h1, ⟨p, hp, hp2⟩, q, hq, hq2⟩ := each i hi
      obtain rfl : v0 = V0 i := Option.some.inj (h0.symm.trans (hV0 i hi))
      obtain rfl : v1 = V1 i := Option.some.inj (h1.symm.trans (hV1 i hi))
      rw [hp, hq]
      exact ⟨⟨by simp [natOf], by simpa [natOf] using hp2⟩, by simp [natOf], by simpa [natOf] using hq2⟩
    have hlen : ((List.range len).map fun i => (natOf (V0 i), natOf (V1 i))).length = len := by rw [List.length_map, List.length_range]
    have hget : ∀ k, k < len → ((List.range len).map fun i => (natOf (V0 i), natOf (V1 i)))[k]?.getD (0, 0) = (natOf (V0 k), natOf (V1 k)) := fun k hk => by
      rw [List.getElem?_map, List.getElem?_range hk]; rfl
    refine ⟨some x, len, m, (List.range len).map fun i => (natOf (V0 i), natOf (V1 i)), rfl, ⟨hlen, fun h0 => ?_⟩, by omega, hm, hl, fun f hf => ?_⟩
    · obtain ⟨b, off, spot⟩ := x
      have c0 := hV0 0 (by omega)
      have hspot : spot = none := by simpa [Addr.add] using World.cell?_spot c0
      subst hspot
      refine ⟨b, off, rfl, ?_, fun k hk => ?_⟩
      · rw [addr_add] at c0; exact block_lt c0
      · have g0 := hV0 k (by omega)
        have g1 := hV1 k (by omega)
        obtain ⟨⟨e0, _⟩, e1, _⟩ := hval k (by omega)
        rw [hget k hk]
        rw [addr_add, e0] at g0
        rw [addr_add, e1] at g1
        exact ⟨g0, by rw [show off + k * 2 + 1 = off + (k * 2 + 1) by omega]; exact g1⟩
    · obtain ⟨i, hi, rfl⟩ := List.mem_map.1 hf
      have hil : i < len := List.mem_range.1 hi
      obtain ⟨⟨_, e0⟩, _, e1⟩ := hval i (by omega)
      exact ⟨e0, e1⟩
end
end Go.Proofs.Ytmbjnolikofaoaa.Frame
