/-
  'parallax/parallaxlaw16.AnalyseDecides' returns true for every input, and every argument reads behind the call as it read before. No condition of its own.
-/
import Derived.Test.YtimoakmcelocfaaGreatAyw
namespace Go.Proofs.YtimoakmcelocfaaGreat.analyseDecides
open Go.ChangeShapes Go.WideShapes Go.ChangeAt Go.RowKit Base
open Go.ChangeMaps (open_string shut_string)
set_option linter.unusedVariables false

set_option maxRecDepth 100000 in
theorem flat2 {W : World} {base : Nat} {v : Value} (h : Value.okWide Tryz.prog W .any base 24 v) : ∃ (x0 : Int) (x1 : Int) (x2 : Int) (x3 : Int) (x4 : Int) (x5 : Int) (x6 : Int) (x7 : Int) (x8 : Bool) (x9 : Bool), v = .agg #[.int .i64 x0, .int .i64 x1, .int .i64 x2, .int .i64 x3, .int .i64 x4, .int .i64 x5, .int .i64 x6, .int .i64 x7, .bool x8, .bool x9] ∧ IntKind.i64.has x0 ∧ IntKind.i64.has x1 ∧ IntKind.i64.has x2 ∧ IntKind.i64.has x3 ∧ IntKind.i64.has x4 ∧ IntKind.i64.has x5 ∧ IntKind.i64.has x6 ∧ IntKind.i64.has x7 := by
  obtain ⟨cs, rfl, hs, hc⟩ := Frame.flat_cells Tryz.underlying24 (ts := [3, 3, 3, 3, 3, 3, 3, 3, 4, 4]) (by kernel_rfl) (by kernel_rfl) h
  have hs : cs.size = 10 := hs
  obtain ⟨c0, c1, c2, c3, c4, c5, c6, c7, c8, c9, rfl⟩ : ∃ c0 c1 c2 c3 c4 c5 c6 c7 c8 c9, cs = #[c0, c1, c2, c3, c4, c5, c6, c7, c8, c9] := by
    refine ⟨cs[0], cs[1], cs[2], cs[3], cs[4], cs[5], cs[6], cs[7], cs[8], cs[9], Array.ext (by simp [hs]) fun i hi hi' => ?_⟩
    have : i < 10 := by omega
    rcases (by omega : i = 0 ∨ i = 1 ∨ i = 2 ∨ i = 3 ∨ i = 4 ∨ i = 5 ∨ i = 6 ∨ i = 7 ∨ i = 8 ∨ i = 9) with rfl | rfl | rfl | rfl | rfl | rfl | rfl | rfl | rfl | rfl <;> rfl
  obtain ⟨x0, rfl, k0⟩ := Frame.cell_int Tryz.underlying3 (hc 0 _ _ rfl rfl)
  obtain ⟨x1, rfl, k1⟩ := Frame.cell_int Tryz.underlying3 (hc 1 _ _ rfl rfl)
  obtain ⟨x2, rfl, k2⟩ := Frame.cell_int Tryz.underlying3 (hc 2 _ _ rfl rfl)
  obtain ⟨x3, rfl, k3⟩ := Frame.cell_int Tryz.underlying3 (hc 3 _ _ rfl rfl)
  obtain ⟨x4, rfl, k4⟩ := Frame.cell_int Tryz.underlying3 (hc 4 _ _ rfl rfl)
  obtain ⟨x5, rfl, k5⟩ := Frame.cell_int Tryz.underlying3 (hc 5 _ _ rfl rfl)
  obtain ⟨x6, rfl, k6⟩ := Frame.cell_int Tryz.underlying3 (hc 6 _ _ rfl rfl)
  obtain ⟨x7, rfl, k7⟩ := Frame.cell_int Tryz.underlying3 (hc 7 _ _ rfl rfl)
  obtain ⟨x8, rfl⟩ := Frame.cell_bool Tryz.underlying4 (hc 8 _ _ rfl rfl)
  obtain ⟨x9, rfl⟩ := Frame.cell_bool Tryz.underlying4 (hc 9 _ _ rfl rfl)
  exact ⟨x0, x1, x2, x3, x4, x5, x6, x7, x8, x9, rfl, k0, k1, k2, k3, k4, k5, k6, k7⟩
set_option maxRecDepth 100000 in
theorem lifted (os : Os) (started : os.Started) (H : Type) (enc : TypeId × Value → H) :
    ReturnsInHanded {} Tryz.checked os 3 .any (Rows.analyseDecidesSpec.pre6 enc Tryz.prog Tryz.f3 Rows.analyseDecidesRow.domain false) (Rows.analyseDecidesSpec.post enc Tryz.prog Tryz.f3 false true false false) := by
  refine returnsInHanded_of_change_sized (C := Tryz.checked) Frame.own started (by kernel_rfl) Tryz.func3
    (ChangeSpec.witness6 (enc := enc) (C := Tryz.checked) false ⟨#[], #[.int .u32 0, .int .u8 0, .agg #[.int .i64 0, .int .i64 0, .int .i64 0, .int .i64 0, .int .i64 0, .int .i64 0, .int .i64 0, .int .i64 0, .bool false, .bool false]], []⟩ 8 (by kernel_rfl) (by kernel_rfl) (by kernel_rfl) (by kernel_rfl)) ?_
  intro W base args ds gs before hval0 hW hcnd hsz0 _
  have hsz : (DataW.weightsEach Tryz.prog (Tryz.f3.params.toList ++ Rows.analyseDecidesSpec.plain.varTypes Tryz.prog) (ds ++ gs)).all (· ≤ reachBytes) = true := hsz0
  clear hsz0
  have hval : ∀ (j : Nat) t v, Tryz.f3.params[j]? = some t → args[j]? = some v → Value.okWide Tryz.prog W .any base t v := hval0
  have hW' := hW
  obtain ⟨p, q, hA0, hV, rfl, hfz, hnd⟩ := hW
  have hA : DataW.TrodAll enc Tryz.prog W 0 (fun _ => true) true Tryz.f3.params.toList args.toList ds p := hA0
  rw [Tryz.params3] at hA hval hsz
  obtain ⟨v0, vs0, d0, ds0, p0, q0, hargs, rfl, rfl, h0, r0⟩ := trodAll_cons hA
  obtain ⟨v1, vs1, d1, ds1, p1, q1, rfl, rfl, rfl, h1, r1⟩ := trodAll_cons r0
  obtain ⟨v2, vs2, d2, ds2, p2, q2, rfl, rfl, rfl, h2, r2⟩ := trodAll_cons r1
  obtain ⟨rfl, rfl, rfl⟩ := trodAll_nil r2
  obtain rfl : args = #[v0, v1, v2] := by cases args; simp_all
  obtain ⟨rfl, rfl⟩ := trodVars_none hV
  obtain ⟨a0, rfl, rfl, rfl, w0⟩ := open_int Tryz.underlying22 (hval 0 22 v0 rfl rfl) h0
  have b0 := bounds_u32 w0
  obtain ⟨a1, rfl, rfl, rfl, w1⟩ := open_int Tryz.underlying5 (hval 1 5 v1 rfl rfl) h1
  have b1 := bounds_u8 w1
  obtain ⟨a2_0, a2_1, a2_2, a2_3, a2_4, a2_5, a2_6, a2_7, a2_8, a2_9, rfl, w2_0, w2_1, w2_2, w2_3, w2_4, w2_5, w2_6, w2_7⟩ := flat2 (hval 2 24 v2 rfl rfl)
  clear hA0 hval0
  refine (An.analyseDecides_law a0 a1 a2_0 a2_1 a2_2 a2_3 a2_4 a2_5 a2_6 a2_7 a2_8 a2_9 W b0 b1).mono fun e W' ⟨he, bel⟩ => ?_
  subst he
  exact ⟨_, rfl, Frame.law_post (bt := 4) Frame.laidOut rfl (by kernel_rfl) rfl Tryz.underlying4 rfl hW' bel⟩

theorem proved : Rows.AnalyseDecidesSaid :=
  OpenClaim.holds_of_wide 3 Tryz.f3 rfl rfl rfl rfl rfl rfl rfl ⟨rfl, rfl, rfl, rfl, rfl⟩ rfl rfl rfl rfl rfl (by kernel_rfl) Tryz.func3 (by kernel_rfl)
    (of_decide_eq_true (by kernel_rfl)) (by unfold Func.isWrapper; rw [if_neg (by decide +kernel)]; exact ⟨rfl, rfl⟩)
    (fun os started H enc _ => lifted os started H enc)
#print axioms proved
end Go.Proofs.YtimoakmcelocfaaGreat.analyseDecides
