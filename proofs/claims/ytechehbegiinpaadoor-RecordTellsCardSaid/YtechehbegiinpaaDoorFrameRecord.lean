/-
  A struct that came in by value, of two texts, a number, a slice of structs of two texts, a bool, a slice of bytes and another slice of structs of two texts: what it reads as, and how long its texts may be.
-/
import Derived.Test.YtechehbegiinpaaDoorFrameText
import Derived.Test.YtechehbegiinpaaDoorFrameLines
import Derived.Lib.SmallJoins
namespace Go.Proofs.YtechehbegiinpaaDoor.Frame
open Go.ChangeShapes Go.WideShapes Go.ChangeAt Go.RowKit Go.Joins Go.WideElems Go.Maps Go.Deep

theorem array7 {α : Type} {cs : Array α} (h : cs.size = 7) : ∃ c0 c1 c2 c3 c4 c5 c6, cs = #[c0, c1, c2, c3, c4, c5, c6] := by
  obtain ⟨l⟩ := cs
  match l, h with
  | [c0, c1, c2, c3, c4, c5, c6], _ => exact ⟨c0, c1, c2, c3, c4, c5, c6, rfl⟩
section
variable {H : Type} {enc : TypeId × Value → H} {P : Program}
theorem trod_struct7 {W : World} {base : Nat} {spare : Nat → Bool} {held : Bool} {t : TypeId} {f0 f1 f2 f3 f4 f5 f6 : Field} {fuel : Nat} {cs : List Value} {x : DataW H × List MemPlace} (ht : P.underlying t = some (.struct #[f0, f1, f2, f3, f4, f5, f6]))
    (h : DataW.trod enc P W base spare held fuel t cs = some x) :
    ∃ y0 y1 y2 y3 y4 y5 y6 n, x.1 = .agg [y0.1, y1.1, y2.1, y3.1, y4.1, y5.1, y6.1] ∧ DataW.trod enc P W base spare held n f0.type ((cs.drop f0.offset).take (P.cellsOf f0.type)) = some y0 ∧
      DataW.trod enc P W base spare held n f1.type ((cs.drop f1.offset).take (P.cellsOf f1.type)) = some y1 ∧ DataW.trod enc P W base spare held n f2.type ((cs.drop f2.offset).take (P.cellsOf f2.type)) = some y2 ∧
      DataW.trod enc P W base spare held n f3.type ((cs.drop f3.offset).take (P.cellsOf f3.type)) = some y3 ∧ DataW.trod enc P W base spare held n f4.type ((cs.drop f4.offset).take (P.cellsOf f4.type)) = some y4 ∧
      DataW.trod enc P W base spare held n f5.type ((cs.drop f5.offset).take (P.cellsOf f5.type)) = some y5 ∧ DataW.trod enc P W base spare held n f6.type ((cs.drop f6.offset).take (P.cellsOf f6.type)) = some y6 := by
  obtain ⟨xs, n, _, rfl, hl, hlen, hf⟩ := DataW.trod_struct ht h
  match xs, hlen with
  | [y0, y1, y2, y3, y4, y5, y6], _ => exact ⟨y0, y1, y2, y3, y4, y5, y6, n, by simp, by simpa using hf 0 f0 rfl, by simpa using hf 1 f1 rfl, by simpa using hf 2 f2 rfl, by simpa using hf 3 f3 rfl, by simpa using hf 4 f4 rfl, by simpa using hf 5 f5 rfl, by simpa using hf 6 f6 rfl⟩
/-- What a struct's field weighs, the struct weighs. -/
theorem sized_field {t : TypeId} {fs : Array Field} {xs : List (DataW H)} (ht : P.underlying t = some (.struct fs)) (hsz : (DataW.weights P t (.agg xs)).all (· ≤ reachBytes) = true) {j : Nat} {f : Field} {x : DataW H} (hf : fs[j]? = some f) (hx : xs[j]? = some x) :
    (DataW.weights P f.type x).all (· ≤ reachBytes) = true := by
  refine List.all_eq_true.2 fun q hq => List.all_eq_true.1 hsz q ?_
  simp only [DataW.weights, ht]
  exact DataW.weights_mem_each (j := j) (t := f.type) (by rw [List.getElem?_map, Array.getElem?_toList, hf]; rfl) hx q hq
theorem text_of {W : World} {u : TypeId} {n : Nat} {v : Value} {y : DataW H × List MemPlace} (hu : P.underlying u = some .string) (h : DataW.trod enc P W 0 (fun _ => true) true n u [v] = some y) (hsz : (DataW.weights P u y.1).all (· ≤ reachBytes) = true) :
    ∃ s : ByteArray, v = .string s ∧ s.size ≤ 140737488351232 := by
  obtain ⟨s, e, x, _⟩ := DataW.trod_string hu h
  obtain rfl : v = .string s := by simpa using e
  have a : y.1 = .lit (.string s.data.toList) := congrArg Prod.fst x
  have hr : reachBytes ≤ 140737488351232 := by decide
  have hw := List.all_eq_true.1 hsz s.data.toList.length (by rw [a]; simp [DataW.weights])
  rw [Txt.len] at hw
  exact ⟨s, rfl, Nat.le_trans (by simpa using hw) hr⟩
theorem flds_of {W : World} {t e : TypeId} {f0 f1 : Field} {n : Nat} {v : Value} {y : DataW H × List MemPlace} (ht : P.underlying t = some (.slice e)) (he : P.underlying e = some (.struct #[f0, f1]))
    (ce : P.cellsOf e = 2) (o0 : f0.offset = 0) (o1 : f1.offset = 1) (c0 : P.cellsOf f0.type = 1) (c1 : P.cellsOf f1.type = 1) (u0 : P.underlying f0.type = some .string) (u1 : P.underlying f1.type = some .string)
    (h : DataW.trod enc P W 0 (fun _ => true) true n t [v] = some y) (hsz : (DataW.weights P t y.1).all (· ≤ reachBytes) = true) :
    ∃ a len cap fs, v = .slice a len cap ∧ Txt.Flds W a len fs ∧ len ≤ maxLen ∧ cap ≤ maxLen ∧ len ≤ cap ∧ ∀ f ∈ fs, f.1.size ≤ 140737488351232 ∧ f.2.size ≤ 140737488351232 := by
  obtain ⟨a, len, cap, hv⟩ := slice_form ht h
  obtain rfl : v = .slice a len cap := by simpa using hv
  obtain ⟨d, ps⟩ := y
  have hf : DataW.trod enc P W 0 (fun _ => true) true n t (Value.slice a len cap).cells.toList = some (d, ps) := by simpa [Value.cells] using h
  rcases Go.Deep.open_slice_pairs ht he ce o0 o1 c0 c1 hf with ⟨hcs, _⟩ | ⟨x, l, c, m, n, V0, V1, D0, D1, P0, P1, hcs, _, hl, hm, hz, hx, hcell⟩
  · simp [Value.cells] at hcs
    obtain ⟨rfl, rfl, rfl⟩ := hcs
    exact ⟨none, 0, 0, [], rfl, Txt.Flds.nil _ _, by decide, by decide, Nat.le_refl _, by simp⟩
  · simp [Value.cells] at hcs
    obtain ⟨rfl, rfl, rfl⟩ := hcs
    simp at hz
    subst hz
    simp only [Prod.mk.injEq] at hx
    obtain ⟨rfl, _⟩ := hx
    have each : ∀ i, i < m → ∃ s0 s1 : ByteArray, V0 i = .string s0 ∧ V1 i = .string s1 ∧ D0 i = .lit (.string s0.data.toList) ∧ D1 i = .lit (.string s1.data.toList) := fun i hi => by
      obtain ⟨_, _, g0, g1⟩ := hcell i hi
      obtain ⟨s0, e0, x0, _⟩ := DataW.trod_string u0 g0
      obtain ⟨s1, e1, x1, _⟩ := DataW.trod_string u1 g1
      exact ⟨s0, s1, by simpa using e0, by simpa using e1, congrArg Prod.fst x0, congrArg Prod.fst x1⟩
    have hlen : ((List.range len).map fun i => (textOf (V0 i), textOf (V1 i))).length = len := by rw [List.length_map, List.length_range]
    have hget : ∀ k, k < len → ((List.range len).map fun i => (textOf (V0 i), textOf (V1 i)))[k]?.getD Txt.dflt = (textOf (V0 k), textOf (V1 k)) := fun k hk => by
      rw [List.getElem?_map, List.getElem?_range hk]; rfl
    refine ⟨some x, len, m, (List.range len).map fun i => (textOf (V0 i), textOf (V1 i)), rfl, ⟨hlen, fun h0 => ?_⟩, by omega, hm, hl, fun f hf => ?_⟩
    · obtain ⟨b, off, spot⟩ := x
      have c0 := (hcell 0 (by omega)).1
      have hspot : spot = none := by simpa [Addr.add] using World.cell?_spot c0
      subst hspot
      refine ⟨b, off, rfl, ?_, fun k hk => ?_⟩
      · rw [addr_add] at c0; exact block_lt c0
      · obtain ⟨g0, g1, _, _⟩ := hcell k (by omega)
        obtain ⟨s0, s1, e0, e1, _, _⟩ := each k (by omega)
        rw [hget k hk, e0, e1]
        rw [addr_add, e0] at g0
        rw [addr_add, e1] at g1
        exact ⟨g0, by rw [show off + k * 2 + 1 = off + (k * 2 + 1) by omega]; exact g1⟩
    · obtain ⟨i, hi, rfl⟩ := List.mem_map.1 hf
      have hil : i < len := List.mem_range.1 hi
      obtain ⟨s0, s1, e0, e1, x0, x1⟩ := each i (by omega)
      have hmem : DataW.agg [D0 i, D1 i] ∈ (List.range len).map fun i => DataW.agg [D0 i, D1 i] := List.mem_map.2 ⟨i, hi, rfl⟩
      have hw : ∀ q, q ∈ DataW.weights P e (DataW.agg [D0 i, D1 i]) → q ≤ reachBytes := fun q hq => by
        have := List.all_eq_true.1 hsz q (by
          simp only [DataW.weights, ht]
          exact List.mem_cons_of_mem _ (List.mem_append_left _ (weightsAll_mem hmem q hq)))
        simpa using this
      have hr : reachBytes ≤ 140737488351232 := by decide
      have h0 := hw s0.data.toList.length (by simp only [DataW.weights, he, x0]; simp [DataW.weightsEach, DataW.weights])
      have h1 := hw s1.data.toList.length (by simp only [DataW.weights, he, x1]; simp [DataW.weightsEach, DataW.weights])
      rw [Txt.len] at h0 h1
      rw [e0, e1]
      exact ⟨Nat.le_trans h0 hr, Nat.le_trans h1 hr⟩
/-- A slice of bytes that is no longer than memory goes. -/
theorem line_sized {e e2 : TypeId} {W : World} {fuel : Nat} {V : Value} {x : DataW H × List MemPlace} (he : P.underlying e = some (.slice e2)) (h2 : P.underlying e2 = some (.int .u8)) (hc2 : P.cellsOf e2 = 1) (hb2 : P.bytesOf e2 = 1)
    (h : DataW.trod enc P W 0 (fun _ => true) true fuel e [V] = some x) (hsz : (DataW.weights P e x.1).all (· ≤ reachBytes) = true) : ∃ l : List UInt8, ∃ ak ck, V = .slice ak l.length ck ∧ Base.Nums .u8 W ak l.length (Txt.nums l) ∧ l.length ≤ 140737488351232 := by
  obtain ⟨l, ak, ck, rfl, hn, hm⟩ := line_of he h2 hc2 h
  refine ⟨l, ak, ck, rfl, hn, ?_⟩
  rcases open_ints he h2 hc2 h with ⟨hcs, _⟩ | ⟨y, len, c, zs, hcs, _, hl, _, hz, hx, _⟩
  · have : l.length = 0 := by simp at hcs; exact by have := hcs.2.1; simpa using this
    omega
  · have e1 : l.length = len := by simp at hcs; exact hcs.2.1
    simp at hz
    have hr : reachBytes ≤ 140737488351232 := by decide
    have hw := List.all_eq_true.1 hsz (((lits .u8 (zs.take len)).length + (lits .u8 (zs.drop len)).length) * 1) (by rw [hx]; simp only [DataW.weights, he, hb2]; exact List.mem_cons_self ..)
    have hw := of_decide_eq_true hw
    have e2 : (lits (H := H) .u8 (zs.take len)).length = (zs.take len).length := by simp [lits]
    rw [e2, List.length_take] at hw
    omega
theorem open_record_arg {t : TypeId} {f0 f1 f2 f3 f4 f5 f6 g0 g1 : Field} {e5 e36 : TypeId} {W : World} {v : Value} {d : DataW H} {ps : List MemPlace} (ht : P.underlying t = some (.struct #[f0, f1, f2, f3, f4, f5, f6])) (hone : oneCellFields P #[f0, f1, f2, f3, f4, f5, f6] = true) (hC : P.cellsOf t = 7)
    (u0 : P.underlying f0.type = some .string) (u1 : P.underlying f1.type = some .string) (u2 : P.underlying f2.type = some (.int .i64)) (u3 : P.underlying f3.type = some (.slice e36)) (u4 : P.underlying f4.type = some .bool)
    (u5 : P.underlying f5.type = some (.slice e5)) (ue5 : P.underlying e5 = some (.int .u8)) (ce5 : P.cellsOf e5 = 1) (be5 : P.bytesOf e5 = 1) (u6 : P.underlying f6.type = some (.slice e36))
    (he : P.underlying e36 = some (.struct #[g0, g1])) (ce : P.cellsOf e36 = 2) (o0 : g0.offset = 0) (o1 : g1.offset = 1) (c0 : P.cellsOf g0.type = 1) (c1 : P.cellsOf g1.type = 1) (w0 : P.underlying g0.type = some .string) (w1 : P.underlying g1.type = some .string) {base : Nat}
    (hok : Value.okWide P W .any base t v) (h : DataW.Trod enc P W 0 (fun _ => true) true t v d ps) (hsz : (DataW.weights P t d).all (· ≤ reachBytes) = true) :
    ∃ (m x : ByteArray) (k : Int) (fa : Option Addr) (fl fc : Nat) (fs : List Txt.Fld) (ch : Bool) (ba : Option Addr) (bc : Nat) (body : List UInt8) (ta : Option Addr) (tl tc : Nat) (ts : List Txt.Fld),
      v = .agg #[.string m, .string x, .int .i64 k, .slice fa fl fc, .bool ch, .slice ba body.length bc, .slice ta tl tc] ∧ m.size ≤ 140737488351232 ∧ x.size ≤ 140737488351232 ∧ (Lit.int .i64 k).wf = true ∧
      Txt.Flds W fa fl fs ∧ fl ≤ maxLen ∧ (∀ f ∈ fs, f.1.size ≤ 140737488351232 ∧ f.2.size ≤ 140737488351232) ∧ Base.Nums .u8 W ba body.length (Txt.nums body) ∧ body.length ≤ 140737488351232 ∧
      Txt.Flds W ta tl ts ∧ tl ≤ maxLen ∧ ∀ f ∈ ts, f.1.size ≤ 140737488351232 ∧ f.2.size ≤ 140737488351232 := by
  obtain ⟨cs, rfl, hcs⟩ := okWide_struct ht hok
  obtain ⟨c0', c1', c2', c3', c4', c5', c6', rfl⟩ := array7 (hcs.trans hC)
  obtain ⟨fuel, hf⟩ := h
  obtain ⟨y0, y1, y2, y3, y4, y5, y6, n, hx, h0, h1, h2, h3, h4, h5, h6⟩ := trod_struct7 ht hf
  have hd : d = .agg [y0.1, y1.1, y2.1, y3.1, y4.1, y5.1, y6.1] := hx
  subst hd
  obtain ⟨p0, k0⟩ := hone_of hone 0 f0 rfl
  obtain ⟨p1, k1⟩ := hone_of hone 1 f1 rfl
  obtain ⟨p2, k2⟩ := hone_of hone 2 f2 rfl
  obtain ⟨p3, k3⟩ := hone_of hone 3 f3 rfl
  obtain ⟨p4, k4⟩ := hone_of hone 4 f4 rfl
  obtain ⟨p5, k5⟩ := hone_of hone 5 f5 rfl
  obtain ⟨p6, k6⟩ := hone_of hone 6 f6 rfl
  simp only [Value.cells, p0, k0, p1, k1, p2, k2, p3, k3, p4, k4, p5, k5, p6, k6, List.drop_zero, List.drop_succ_cons, List.take_succ_cons, List.take_zero] at h0 h1 h2 h3 h4 h5 h6
  obtain ⟨m, rfl, hm⟩ := text_of u0 h0 (sized_field ht hsz (j := 0) rfl rfl)
  obtain ⟨x, rfl, hxs⟩ := text_of u1 h1 (sized_field ht hsz (j := 1) rfl rfl)
  obtain ⟨k, a2, _, b2⟩ := DataW.trod_int u2 h2
  obtain rfl : c2' = .int .i64 k := by simpa using a2
  obtain ⟨fa, fl, fc, fs, rfl, hfs, hfl, _, _, hfz⟩ := flds_of u3 he ce o0 o1 c0 c1 w0 w1 h3 (sized_field ht hsz (j := 3) rfl rfl)
  obtain ⟨ch, a4, _⟩ := DataW.trod_bool u4 h4
  obtain rfl : c4' = .bool ch := by simpa using a4
  obtain ⟨body, ba, bc, rfl, hbn, hbl⟩ := line_sized u5 ue5 ce5 be5 h5 (sized_field ht hsz (j := 5) rfl rfl)
  obtain ⟨ta, tl, tc, ts, rfl, hts, htl, _, _, htz⟩ := flds_of u6 he ce o0 o1 c0 c1 w0 w1 h6 (sized_field ht hsz (j := 6) rfl rfl)
  exact ⟨m, x, k, fa, fl, fc, fs, ch, ba, bc, body, ta, tl, tc, ts, rfl, hm, hxs, b2, hfs, hfl, hfz, hbn, hbl, hts, htl, htz⟩
end
end Go.Proofs.YtechehbegiinpaaDoor.Frame
