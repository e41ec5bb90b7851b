/-
  An argument that is a slice of slices of bytes: what it reads as.
-/
import Derived.Test.YtechehbegiinpaaDoorFrameText
import Derived.Test.YtechehbegiinpaaDoorTextWords
import Derived.Deep.Slices
namespace Go.Proofs.YtechehbegiinpaaDoor.Frame
open Go.ChangeShapes Go.WideShapes Go.ChangeAt Go.RowKit Go.Deep

section
variable {H : Type} {enc : TypeId × Value → H} {P : Program}

theorem line_of {e e2 : TypeId} {W : World} {fuel : Nat} {V : Value} {x : DataW H × List MemPlace} (he : P.underlying e = some (.slice e2)) (h2 : P.underlying e2 = some (.int .u8)) (hc2 : P.cellsOf e2 = 1)
    (h : DataW.trod enc P W 0 (fun _ => true) true fuel e [V] = some x) : ∃ l : List UInt8, ∃ ak ck, V = .slice ak l.length ck ∧ Base.Nums .u8 W ak l.length (Txt.nums l) ∧ l.length ≤ maxLen := by
  rcases open_ints he h2 hc2 h with ⟨hcs, _⟩ | ⟨y, l, c, zs, hcs, _, hl, hm, hz, _, hcell, hwz⟩
  · obtain rfl : V = .slice none 0 0 := by simpa using hcs
    exact ⟨[], none, 0, rfl, Base.Nums.nil _ _ _, by decide⟩
  · obtain rfl : V = .slice (some y) l c := by simpa using hcs
    simp at hz
    obtain ⟨bs, hbs⟩ := Txt.bytes_of (zs.take l) (fun n hn => bounds_u8 (hwz n (List.mem_of_mem_take hn)))
    have hlen : bs.length = l := by
      have := congrArg List.length hbs
      rw [List.length_take, Txt.nums, List.length_map] at this
      omega
    refine ⟨bs, some y, c, by rw [hlen], ⟨by rw [Txt.nums, List.length_map], fun h0 => ?_⟩, by omega⟩
    obtain ⟨b, off, spot⟩ := y
    have c0 := hcell 0 (by omega)
    have hspot : spot = none := by simpa [Addr.add] using World.cell?_spot c0
    subst hspot
    refine ⟨b, off, rfl, ?_, fun k hk => ?_⟩
    · rw [addr_add] at c0; exact block_lt c0
    · have := hcell k (by omega)
      rw [addr_add] at this
      rw [← hbs, List.getElem?_take_of_lt (by omega)]
      simpa using this

/-- A slice of slices of bytes that came in: nil or not. -/
theorem open_lines_slice {t e e2 : TypeId} {W : World} {v : Value} {d : DataW H} {ps : List MemPlace} (ht : P.underlying t = some (.slice e)) (he : P.underlying e = some (.slice e2)) (h2 : P.underlying e2 = some (.int .u8))
    (hc : P.cellsOf e = 1) (hc2 : P.cellsOf e2 = 1) {base : Nat}
    (hok : Value.okWide P W .any base t v) (h : DataW.Trod enc P W 0 (fun _ => true) true t v d ps) :
    ∃ a len cap ls, v = .slice a len cap ∧ Txt.Lines W a len ls ∧ len ≤ maxLen ∧ cap ≤ maxLen ∧ ∀ l ∈ ls, l.length ≤ maxLen := by
  obtain ⟨a, len, cap, rfl⟩ := okWide_slice ht hok
  obtain ⟨fuel, hf⟩ := h
  rcases Go.Deep.open_slice1 ht hc hf with ⟨hcs, _⟩ | ⟨x, l, c, m, n, V, D, Pl, hcs, _, hl, hm, hz, _, hcell⟩
  · simp [Value.cells] at hcs
    obtain ⟨rfl, rfl, rfl⟩ := hcs
    exact ⟨none, 0, 0, [], rfl, ⟨rfl, fun h => absurd h (by omega)⟩, by decide, by decide, by simp⟩
  · simp [Value.cells] at hcs
    obtain ⟨rfl, rfl, rfl⟩ := hcs
    simp at hz
    subst hz
    obtain ⟨q, hq⟩ := choose_lt (fun i hi => line_of he h2 hc2 (hcell i hi).2)
    have hlen : ((List.range len).map q).length = len := by rw [List.length_map, List.length_range]
    have hget : ∀ k, k < len → ((List.range len).map q)[k]?.getD [] = q k := fun k hk => by rw [List.getElem?_map, List.getElem?_range hk]; rfl
    refine ⟨some x, len, m, (List.range len).map q, rfl, ⟨hlen, fun h0 => ?_⟩, by omega, hm, fun s hs => ?_⟩
    · obtain ⟨b, off, spot⟩ := x
      have c0 := (hcell 0 (by omega)).1
      have hspot : spot = none := by simpa [Addr.add] using World.cell?_spot c0
      subst hspot
      refine ⟨b, off, rfl, ?_, fun k hk => ?_⟩
      · rw [addr_add] at c0; exact block_lt c0
      · have g0 := (hcell k (by omega)).1
        obtain ⟨ak, ck, e1, e2', _⟩ := hq k (by omega)
        rw [hget k hk]
        rw [addr_add, e1] at g0
        exact ⟨ak, ck, g0, e2'⟩
    · obtain ⟨i, hi, rfl⟩ := List.mem_map.1 hs
      obtain ⟨_, _, _, _, h3⟩ := hq i (by have := List.mem_range.1 hi; omega)
      exact h3
end
end Go.Proofs.YtechehbegiinpaaDoor.Frame
