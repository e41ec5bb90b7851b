/-
  Arguments that hold texts: slices of texts, of fields, of slices of bytes, that came in: what they read as.
-/
import Derived.Test.YtojjhknejkhdhaaDoorFrame
import Derived.Test.YtojjhknejkhdhaaDoorTextWords
import Derived.SliceStrings
import Derived.Deep.SlicePairs
namespace Go.Proofs.YtojjhknejkhdhaaDoor.Frame
open Go.ChangeShapes Go.WideShapes Go.ChangeAt Go.RowKit
open Go.ChangeMaps (open_string shut_string)

section
variable {H : Type} {enc : TypeId × Value → H} {P : Program}

theorem addr_add (b off k : Nat) : Addr.add ⟨b, off, none⟩ k = ⟨b, off + k, none⟩ := by
  unfold Addr.add
  by_cases h : k = 0 <;> simp [h]
theorem block_lt {W : World} {b off : Nat} {u : Value} (h : W.cell? ⟨b, off, none⟩ = some u) : b < W.heap.size := by
  rcases Nat.lt_or_ge b W.heap.size with hb | hb
  · exact hb
  · simp [World.cell?, Array.getElem?_eq_none hb] at h

/-- A slice of texts that came in: nil or not. -/
theorem open_text_slice {t e : TypeId} {W : World} {v : Value} {d : DataW H} {ps : List MemPlace} (ht : P.underlying t = some (.slice e)) (he : P.underlying e = some .string) (hc : P.cellsOf e = 1) {base : Nat}
    (hok : Value.okWide P W .any base t v) (h : DataW.Trod enc P W 0 (fun _ => true) true t v d ps) :
    ∃ a len cap ss, v = .slice a len cap ∧ Txt.Strs W a len ss ∧ len ≤ maxLen ∧ cap ≤ maxLen ∧ len ≤ cap ∧ ∀ s ∈ ss, s.size ≤ maxLen := by
  obtain ⟨a, len, cap, rfl⟩ := okWide_slice ht hok
  obtain ⟨fuel, hf⟩ := h
  rcases open_strings ht he hc hf with ⟨hcs, _⟩ | ⟨x, l, c, ss, hcs, _, hl, hm, hz, hx, hcell, hwz⟩
  · simp [Value.cells] at hcs
    obtain ⟨rfl, rfl, rfl⟩ := hcs
    exact ⟨none, 0, 0, [], rfl, Txt.Strs.nil _ _, by decide, by decide, Nat.le_refl _, by simp⟩
  · simp [Value.cells] at hcs
    obtain ⟨rfl, rfl, rfl⟩ := hcs
    simp at hz
    refine ⟨some x, len, cap, ss.take len, rfl, ⟨by simp; omega, fun h0 => ?_⟩, by omega, hm, hl, fun s hs => hwz s (List.mem_of_mem_take hs)⟩
    obtain ⟨b, off, spot⟩ := x
    have c0 := hcell 0 (by omega)
    have hspot : spot = none := by simpa [Addr.add] using World.cell?_spot c0
    subst hspot
    refine ⟨b, off, rfl, ?_, fun k hk => ?_⟩
    · rw [addr_add] at c0; exact block_lt c0
    · have := hcell k (by omega)
      rw [List.getElem?_take_of_lt hk]
      rw [addr_add] at this
      simpa using this

theorem sized_arg {ts : List TypeId} {ds : List (DataW H)} (h : (DataW.weightsEach P ts ds).all (· ≤ reachBytes) = true) {j : Nat} {t : TypeId} {d : DataW H} (ht : ts[j]? = some t) (hd : ds[j]? = some d) : (DataW.weights P t d).all (· ≤ reachBytes) = true :=
  List.all_eq_true.2 fun q hq => List.all_eq_true.1 h q (DataW.weights_mem_each ht hd q hq)
def textOf : Value → ByteArray
  | .string s => s
  | _ => ByteArray.empty
theorem weightsAll_mem {e : TypeId} : ∀ {l : List (DataW H)} {d : DataW H}, d ∈ l → ∀ n ∈ d.weights P e, n ∈ DataW.weightsAll P e l
  | x :: l, d, h, n, hn => by
    rw [DataW.weightsAll]
    rcases List.mem_cons.1 h with rfl | h
    · exact List.mem_append_left _ hn
    · exact List.mem_append_right _ (weightsAll_mem h n hn)
/-- A slice of fields that came in: nil or not; each text's size by the reach. -/
theorem open_field_slice {t e : TypeId} {f0 f1 : Field} {W : World} {v : Value} {d : DataW H} {ps : List MemPlace} (ht : P.underlying t = some (.slice e)) (he : P.underlying e = some (.struct #[f0, f1]))
    (ce : P.cellsOf e = 2) (o0 : f0.offset = 0) (o1 : f1.offset = 1) (c0 : P.cellsOf f0.type = 1) (c1 : P.cellsOf f1.type = 1) (u0 : P.underlying f0.type = some .string) (u1 : P.underlying f1.type = some .string) {base : Nat}
    (hok : Value.okWide P W .any base t v) (h : DataW.Trod enc P W 0 (fun _ => true) true t v d ps) (hsz : (DataW.weights P t d).all (· ≤ reachBytes) = true) :
    ∃ a len cap fs, v = .slice a len cap ∧ Txt.Flds W a len fs ∧ len ≤ maxLen ∧ cap ≤ maxLen ∧ len ≤ cap ∧ ∀ f ∈ fs, f.1.size ≤ 140737488351232 ∧ f.2.size ≤ 140737488351232 := by
  obtain ⟨a, len, cap, rfl⟩ := okWide_slice ht hok
  obtain ⟨fuel, hf⟩ := h
  rcases Go.Deep.open_slice_pairs ht he ce o0 o1 c0 c1 hf with ⟨hcs, _⟩ | ⟨x, l, c, m, n, V0, V1, D0, D1, P0, P1, hcs, _, hl, hm, hz, hx, hcell⟩
  · simp [Value.cells] at hcs
    obtain ⟨rfl, rfl, rfl⟩ := hcs
    exact ⟨none, 0, 0, [], rfl, Txt.Flds.nil _ _, by decide, by decide, Nat.le_refl _, by simp⟩
  · simp [Value.cells] at hcs
    obtain ⟨rfl, rfl, rfl⟩ := hcs
    simp at hz
    subst hz
    simp only [Prod.mk.injEq] at hx
    obtain ⟨rfl, _⟩ := hx
    have each : ∀ i, i < m → ∃ s0 s1 : ByteArray, V0 i = .string s0 ∧ V1 i = .string s1 ∧ D0 i = .lit (.string s0.data.toList) ∧ D1 i = .lit (.string s1.data.toList) := fun i hi => by
      obtain ⟨_, _, g0, g1⟩ := hcell i hi
      obtain ⟨s0, e0, x0, _⟩ := DataW.trod_string u0 g0
      obtain ⟨s1, e1, x1, _⟩ := DataW.trod_string u1 g1
      exact ⟨s0, s1, by simpa using e0, by simpa using e1, congrArg Prod.fst x0, congrArg Prod.fst x1⟩
    have hlen : ((List.range len).map fun i => (textOf (V0 i), textOf (V1 i))).length = len := by rw [List.length_map, List.length_range]
    have hget : ∀ k, k < len → ((List.range len).map fun i => (textOf (V0 i), textOf (V1 i)))[k]?.getD Txt.dflt = (textOf (V0 k), textOf (V1 k)) := fun k hk => by
      rw [List.getElem?_map, List.getElem?_range hk]; rfl
    refine ⟨some x, len, m, (List.range len).map fun i => (textOf (V0 i), textOf (V1 i)), rfl, ⟨hlen, fun h0 => ?_⟩, by omega, hm, hl, fun f hf => ?_⟩
    · obtain ⟨b, off, spot⟩ := x
      have c0 := (hcell 0 (by omega)).1
      have hspot : spot = none := by simpa [Addr.add] using World.cell?_spot c0
      subst hspot
      refine ⟨b, off, rfl, ?_, fun k hk => ?_⟩
      · rw [addr_add] at c0; exact block_lt c0
      · obtain ⟨g0, g1, _, _⟩ := hcell k (by omega)
        obtain ⟨s0, s1, e0, e1, _, _⟩ := each k (by omega)
        rw [hget k hk, e0, e1]
        rw [addr_add, e0] at g0
        rw [addr_add, e1] at g1
        exact ⟨g0, by rw [show off + k * 2 + 1 = off + (k * 2 + 1) by omega]; exact g1⟩
    · obtain ⟨i, hi, rfl⟩ := List.mem_map.1 hf
      have hil : i < len := List.mem_range.1 hi
      obtain ⟨s0, s1, e0, e1, x0, x1⟩ := each i (by omega)
      have hmem : DataW.agg [D0 i, D1 i] ∈ (List.range len).map fun i => DataW.agg [D0 i, D1 i] := List.mem_map.2 ⟨i, hi, rfl⟩
      have hw : ∀ q, q ∈ DataW.weights P e (DataW.agg [D0 i, D1 i]) → q ≤ reachBytes := fun q hq => by
        have := List.all_eq_true.1 hsz q (by
          simp only [DataW.weights, ht]
          exact List.mem_cons_of_mem _ (List.mem_append_left _ (weightsAll_mem hmem q hq)))
        simpa using this
      have hr : reachBytes ≤ 140737488351232 := by decide
      have h0 := hw s0.data.toList.length (by simp only [DataW.weights, he, x0]; simp [DataW.weightsEach, DataW.weights])
      have h1 := hw s1.data.toList.length (by simp only [DataW.weights, he, x1]; simp [DataW.weightsEach, DataW.weights])
      rw [Txt.len] at h0 h1
      rw [e0, e1]
      exact ⟨Nat.le_trans h0 hr, Nat.le_trans h1 hr⟩
end
end Go.Proofs.YtojjhknejkhdhaaDoor.Frame
