import Derived.Test.YtimoakmcelocfaaGreatAwg
namespace Go.Proofs.YtimoakmcelocfaaGreat.Frame
open Go.ChangeShapes Go.WideShapes Go.ChangeAt Go.RowKit
open Go.ChangeMaps (open_string shut_string)
section
variable {H : Type} {enc : TypeId × Value → H} {P : Program}
theorem open_num_slice {kd : IntKind} {t e : TypeId} {W : World} {v : Value} {d : DataW H} {ps : List MemPlace} (ht : P.underlying t = some (.slice e)) (he : P.underlying e = some (.int kd)) (hc : P.cellsOf e = 1) {base : Nat}
    (hok : Value.okWide P W .any base t v) (h : DataW.Trod enc P W 0 (fun _ => true) true t v d ps) :
    ∃ a len cap zs, v = .slice a len cap ∧ Base.Nums kd W a len zs ∧ len ≤ maxLen ∧ cap ≤ maxLen ∧ len ≤ cap ∧ ∀ n ∈ zs, (Lit.int kd n).wf = true := by
  obtain ⟨a, len, cap, rfl⟩ := okWide_slice ht hok
  obtain ⟨fuel, hf⟩ := h
  rcases open_ints ht he hc hf with ⟨hcs, _⟩ | ⟨x, l, c, zs, hcs, _, hl, hm, hz, hx, hcell, hwz⟩
  · simp [Value.cells] at hcs
    obtain ⟨rfl, rfl, rfl⟩ := hcs
    exact ⟨none, 0, 0, [], rfl, Base.Nums.nil _ _ _, by decide, by decide, Nat.le_refl _, by simp⟩
  · simp [Value.cells] at hcs
    obtain ⟨rfl, rfl, rfl⟩ := hcs
    simp at hz
    refine ⟨some x, len, cap, zs.take len, rfl, ⟨by simp; omega, fun h0 => ?_⟩, by omega, hm, hl, fun n hn => hwz n (List.mem_of_mem_take hn)⟩
    obtain ⟨b, off, spot⟩ := x
    have c0 := hcell 0 (by omega)
    have hspot : spot = none := by simpa [Addr.add] using World.cell?_spot c0
    subst hspot
    refine ⟨b, off, rfl, ?_, fun k hk => ?_⟩
    · rcases Nat.lt_or_ge b W.heap.size with hb | hb
      · exact hb
      · exfalso
        have : W.heap[b]? = none := Array.getElem?_eq_none hb
        simp [World.cell?, Addr.add, this] at c0
    · have := hcell k (by omega)
      rw [List.getElem?_take_of_lt hk]
      have e2 : Addr.add ⟨b, off, none⟩ k = ⟨b, off + k, none⟩ := by
        unfold Addr.add
        by_cases h : k = 0 <;> simp [h]
      rw [e2] at this
      simpa using this
end
end Go.Proofs.YtimoakmcelocfaaGreat.Frame
