/-
  A package-level table of texts that a row lists: from the row's condition to the cells that a walk reads. No program is spoken of.
-/
import Derived.Test.YtlignmlkoahbmaaGreatDoorBase
import Derived.LaidLaws
import Derived.OpenShut
import Derived.ChangeArms
import Derived.ChangeKeysEq
namespace Go.Proofs.YtlignmlkoahbmaaGreatDoor.Table
open Go.RowKit Base

/-- An array of texts that reads as a table: its cell number i is the table's text number i. -/
theorem text_at {H : Type} {enc : TypeId × Value → H} {P : Program} {w : World} {base : Nat} {sp : Nat → Bool} {held : Bool} {fuel : Nat} {t e : TypeId} {n : Nat} {cs : List Value} {zs : List (List UInt8)} {p : List MemPlace}
    (ht : P.underlying t = some (.array n e)) (he : P.underlying e = some .string) (hce : P.cellsOf e = 1)
    (h : DataW.trod enc P w base sp held fuel t cs = some (.agg (zs.map fun z => .lit (.string z)), p)) (i : Nat) (hi : i < zs.length) : cs[i]? = some (.string ⟨(zs[i]?.getD []).toArray⟩) := by
  obtain ⟨xs, m, rfl, hx, _, hn, hel⟩ := DataW.trod_array ht h
  have hz : zs.map (fun z => (DataW.lit (.string z) : DataW H)) = xs.map (·.1) := by simpa using congrArg Prod.fst hx
  have hl : zs.length = xs.length := by simpa using congrArg List.length hz
  have h1 := hel i (by omega)
  rw [List.getElem?_eq_getElem (by omega), hce, Nat.mul_one] at h1
  obtain ⟨s, hs, hs2, _⟩ := DataW.trod_string he h1
  have h2 := congrArg (·[i]?) hz
  simp only [List.getElem?_map, List.getElem?_eq_getElem hi, List.getElem?_eq_getElem (hl ▸ hi), Option.map_some, hs2, Option.some.injEq, DataW.lit.injEq, Lit.string.injEq] at h2
  have h3 := congrArg (·[0]?) hs
  simp only [List.getElem?_take, List.getElem?_drop, Nat.add_zero, Nat.zero_lt_one, if_true, List.getElem?_cons_zero] at h3
  rw [h3, List.getElem?_eq_getElem hi, Option.getD_some, h2]

/-- The cells of a listed table of texts that stands first on the list. -/
theorem texts_of_head {P : Program} {W : World} {name : String} {zs : List (List UInt8)} {rest : List (String × DataW Unit)} {g : Nat} {t e : TypeId} {n : Nat}
    (hg : P.globalNamed name = some g) (hty : (P.globals[g]?).map (·.type) = some t) (ht : P.underlying t = some (.array n e)) (he : P.underlying e = some .string) (hce : P.cellsOf e = 1)
    (h : laidMet P ((name, .agg (zs.map fun z => .lit (.string z))) :: rest) W) : ∀ i, i < zs.length → W.cell? ⟨g, i, none⟩ = some (.string ⟨(zs[i]?.getD []).toArray⟩) := by
  obtain ⟨ps, ⟨g', t', cs, fuel, p, q, hg', ht', hvar, hd, _, _⟩, _⟩ := h
  obtain rfl := Option.some.inj (hg.symm.trans hg')
  obtain rfl := Option.some.inj (hty.symm.trans ht')
  intro i hi
  rw [World.var?_cell hg hvar i]
  simpa using text_at ht he hce hd i hi

/-- An array of texts by value, indexed. -/
theorem run_index_text {P : Program} {t e : TypeId} {n : Nat} {cs : Array Value} {ti : TypeInfo} (h : P.underlying t = some (.array n e)) (he : P.underlying e = some .string) (hi : P.info? e = some ti) (hs : P.cellsOf e = 1)
    (k : IntKind) (i : Nat) (hlt : i < n) (v : Value) (hv : cs[i]? = some v) (w : World) : (Instr.index t (.agg cs) (.int k i)).run P w = .ok v w := by
  simp [Instr.index, run_underlying h, asIntOf, hlt, run_sizeOf w hi, hs, part, isAgg, run_underlying he, hv, go_sem]
/-- The whole array of a listed table of texts. -/
theorem row_of_head {P : Program} {W : World} {name : String} {zs : List (List UInt8)} {rest : List (String × DataW Unit)} {g : Nat} {t e : TypeId} {n : Nat}
    (hg : P.globalNamed name = some g) (hty : (P.globals[g]?).map (·.type) = some t) (ht : P.underlying t = some (.array n e)) (he : P.underlying e = some .string) (hce : P.cellsOf e = 1) (hct : P.cellsOf t = n)
    (h : laidMet P ((name, .agg (zs.map fun z => .lit (.string z))) :: rest) W) : ∃ cs ty fr, W.heap[g]? = some (.cells cs ty fr) ∧ cs.size = n ∧ zs.length = n ∧ ∀ i, i < zs.length → cs[i]? = some (.string ⟨(zs[i]?.getD []).toArray⟩) := by
  obtain ⟨ps, ⟨g', t', cs, fuel, p, q, hg', ht', hvar, hd, _, _⟩, _⟩ := h
  obtain rfl := Option.some.inj (hg.symm.trans hg')
  obtain rfl := Option.some.inj (hty.symm.trans ht')
  have hv2 := hvar
  unfold World.var? at hv2
  rw [hg', Option.bind_some] at hv2
  split at hv2
  · rename_i c ty fr hh
    obtain rfl := Option.some.inj hv2
    have hd2 := hd
    obtain ⟨xs, m, rfl, hx, hl, hn, _⟩ := DataW.trod_array ht hd2
    have hz : zs.map (fun z => (DataW.lit (.string z) : DataW Unit)) = xs.map (·.1) := by simpa using congrArg Prod.fst hx
    have hzl : zs.length = xs.length := by simpa using congrArg List.length hz
    exact ⟨c, ty, fr, hh, by simpa [hct] using hl, by omega, fun i hi => by simpa using text_at ht he hce hd i hi⟩
  · cases hv2
end Go.Proofs.YtlignmlkoahbmaaGreatDoor.Table
