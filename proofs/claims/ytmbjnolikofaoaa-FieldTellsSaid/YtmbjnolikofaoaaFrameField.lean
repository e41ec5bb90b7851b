/-
  A struct of two texts that came in by value: what its texts are, and how long they may be.
-/
import Derived.Test.YtmbjnolikofaoaaFrameText
import Derived.Lib.SmallJoins
namespace Go.Proofs.Ytmbjnolikofaoaa.Frame
open Go.ChangeShapes Go.WideShapes Go.ChangeAt Go.RowKit Go.Joins Go.WideElems Go.Maps Go.Deep

section
variable {H : Type} {enc : TypeId × Value → H} {P : Program}
theorem open_field_arg {t : TypeId} {f0 f1 : Field} {W : World} {v : Value} {d : DataW H} {ps : List MemPlace} (ht : P.underlying t = some (.struct #[f0, f1])) (hone : oneCellFields P #[f0, f1] = true) (hC : P.cellsOf t = 2)
    (u0 : P.underlying f0.type = some .string) (u1 : P.underlying f1.type = some .string) {base : Nat}
    (hok : Value.okWide P W .any base t v) (h : DataW.Trod enc P W 0 (fun _ => true) true t v d ps) (hsz : (DataW.weights P t d).all (· ≤ reachBytes) = true) :
    ∃ n x : ByteArray, v = .agg #[.string n, .string x] ∧ n.size ≤ 140737488351232 ∧ x.size ≤ 140737488351232 := by
  obtain ⟨v0, v1, y0, y1, m, rfl, rfl, rfl, g0, g1⟩ := open_agg2 ht hone hC hok h
  obtain ⟨s0, e0, x0, _⟩ := DataW.trod_string u0 g0
  obtain ⟨s1, e1, x1, _⟩ := DataW.trod_string u1 g1
  obtain rfl : v0 = .string s0 := by simpa using e0
  obtain rfl : v1 = .string s1 := by simpa using e1
  have a0 : y0.1 = .lit (.string s0.data.toList) := congrArg Prod.fst x0
  have a1 : y1.1 = .lit (.string s1.data.toList) := congrArg Prod.fst x1
  have hr : reachBytes ≤ 140737488351232 := by decide
  have hw : ∀ q, q ∈ DataW.weights P t (DataW.agg [y0.1, y1.1]) → q ≤ reachBytes := fun q hq => by
    have := List.all_eq_true.1 hsz q hq
    simpa using this
  have h0 := hw s0.data.toList.length (by simp only [DataW.weights, ht, a0]; simp [DataW.weightsEach, DataW.weights])
  have h1 := hw s1.data.toList.length (by simp only [DataW.weights, ht, a1]; simp [DataW.weightsEach, DataW.weights])
  rw [Txt.len] at h0 h1
  exact ⟨s0, s1, rfl, Nat.le_trans h0 hr, Nat.le_trans h1 hr⟩
end
end Go.Proofs.Ytmbjnolikofaoaa.Frame
