/- 'ParserForms': its tied card. -/
import Derived.Test.YtldhlecknfomjaaGreatDoorCards
import Derived.Test.YtldhlecknfomjaaGreatDoorTie
import Derived.LaidMore
import Derived.Lay
import Derived.SevenTiedAt
import Derived.Stop.Joined
import Derived.Test.YtldhlecknfomjaaGreatDoorFni
namespace Go.Proofs.YtldhlecknfomjaaGreatDoor.parserForms
open Go.ChangeShapes Go.WideShapes Go.ChangeAt Go.RowKit Base
set_option linter.unusedVariables false
set_option maxRecDepth 100000
theorem flat0 {W : World} {base : Nat} {v : Value} (h : Value.okWide Tryz.prog W .any base 29 v) : ∃ x0 x1 x2 x3 x4 x5 x6 x7 x8 x9, v = .agg #[.int .i64 x0, .int .i64 x1, .int .i64 x2, .int .i64 x3, .int .i64 x4, .int .i64 x5, .int .i64 x6, .int .i64 x7, .bool x8, .bool x9] ∧ IntKind.i64.has x0 ∧ IntKind.i64.has x1 ∧ IntKind.i64.has x2 ∧ IntKind.i64.has x3 ∧ IntKind.i64.has x4 ∧ IntKind.i64.has x5 ∧ IntKind.i64.has x6 ∧ IntKind.i64.has x7 := by
  obtain ⟨cs, rfl, hs, hc⟩ := Frame.flat_cells Tryz.underlying29 (ts := [3,3,3,3,3,3,3,3,4,4]) (by kernel_rfl) (by kernel_rfl) h
  have hs : cs.size = 10 := hs
  obtain ⟨c0,c1,c2,c3,c4,c5,c6,c7,c8,c9, rfl⟩ : ∃ c0 c1 c2 c3 c4 c5 c6 c7 c8 c9, cs = #[c0,c1,c2,c3,c4,c5,c6,c7,c8,c9] := by
    refine ⟨cs[0],cs[1],cs[2],cs[3],cs[4],cs[5],cs[6],cs[7],cs[8],cs[9], Array.ext (by simp [hs]) fun i hi hi' => ?_⟩
    have : i < 10 := by omega
    rcases (by omega : i=0∨i=1∨i=2∨i=3∨i=4∨i=5∨i=6∨i=7∨i=8∨i=9) with rfl|rfl|rfl|rfl|rfl|rfl|rfl|rfl|rfl|rfl <;> rfl
  obtain ⟨x0, rfl, k0⟩ := Frame.cell_int Tryz.underlying3 (hc 0 _ _ rfl rfl)
  obtain ⟨x1, rfl, k1⟩ := Frame.cell_int Tryz.underlying3 (hc 1 _ _ rfl rfl)
  obtain ⟨x2, rfl, k2⟩ := Frame.cell_int Tryz.underlying3 (hc 2 _ _ rfl rfl)
  obtain ⟨x3, rfl, k3⟩ := Frame.cell_int Tryz.underlying3 (hc 3 _ _ rfl rfl)
  obtain ⟨x4, rfl, k4⟩ := Frame.cell_int Tryz.underlying3 (hc 4 _ _ rfl rfl)
  obtain ⟨x5, rfl, k5⟩ := Frame.cell_int Tryz.underlying3 (hc 5 _ _ rfl rfl)
  obtain ⟨x6, rfl, k6⟩ := Frame.cell_int Tryz.underlying3 (hc 6 _ _ rfl rfl)
  obtain ⟨x7, rfl, k7⟩ := Frame.cell_int Tryz.underlying3 (hc 7 _ _ rfl rfl)
  obtain ⟨x8, rfl⟩ := Frame.cell_bool Tryz.underlying4 (hc 8 _ _ rfl rfl)
  obtain ⟨x9, rfl⟩ := Frame.cell_bool Tryz.underlying4 (hc 9 _ _ rfl rfl)
  exact ⟨x0, x1, x2, x3, x4, x5, x6, x7, x8, x9, rfl, k0, k1, k2, k3, k4, k5, k6, k7⟩
theorem lifted (os : Os) (started : os.Started) (H : Type) (enc : TypeId × Value → H) :
    ReturnsInHanded {} Tryz.checked os 9 .any (fun w args => (Rows.parserFormsSpec.pre enc Tryz.prog Tryz.f9 Rows.parserFormsRow.domain false w args ∧ laidMetH Tryz.prog Rows.parserFormsRow.laid w) ∧ sizedMet enc Tryz.prog Tryz.f9 (OpenSpec.ofChange Rows.parserFormsSpec) false w args)
      (Rows.parserFormsSpec.post enc Tryz.prog Tryz.f9 false true false false) := by
  refine returnsInHanded_of_change_and (C := Tryz.checked) (X := fun w _ => laidMetH Tryz.prog Rows.parserFormsRow.laid w) (fun _ _ _ hh h => h.of_heap hh) Frame.own started (by kernel_rfl) Tryz.func9
    (ChangeSpec.witness_shaped (enc := enc) (C := Tryz.checked) (os := os) (X := fun w _ => laidMetH Tryz.prog Rows.parserFormsRow.laid w) false (World.laidAll Tryz.prog os Rows.parserFormsRow.laid) #[.agg #[.int .i64 0,.int .i64 0,.int .i64 0,.int .i64 0,.int .i64 0,.int .i64 0,.int .i64 0,.int .i64 0, .bool false, .bool false], .int .u32 0, .slice none 0 0] 8 (World.laidAll_os _ _ _)
      (World.shaped_of_ZipB (by kernel_rfl) (by kernel_rfl)) (by kernel_rfl) (by kernel_rfl) (by kernel_rfl)
      (by rw [MakeChecks.laidMetH_plain _ _ _ (by kernel_rfl)]; exact laidMet_laidAll _ (by kernel_rfl) (by kernel_rfl))) ?_
  intro W base args ds gs before hval0 hW hcnd hsz0 hL _
  have hsz : (DataW.weightsEach Tryz.prog (Tryz.f9.params.toList ++ Rows.parserFormsSpec.plain.varTypes Tryz.prog) (ds ++ gs)).all (· ≤ reachBytes) = true := hsz0
  clear hsz0
  have hval : ∀ (j : Nat) t v, Tryz.f9.params[j]? = some t → args[j]? = some v → Value.okWide Tryz.prog W .any base t v := hval0
  have hW' := hW
  obtain ⟨p, q, hA0, hV, rfl, hfz, hnd⟩ := hW
  have hA : DataW.TrodAll enc Tryz.prog W 0 (fun _ => true) true Tryz.f9.params.toList args.toList ds p := hA0
  rw [Tryz.params9] at hA hval hsz
  obtain ⟨v0, vs0, d0, ds0, p0, q0, hargs, rfl, rfl, h0, r0⟩ := trodAll_cons hA
  obtain ⟨v1, vs1, d1, ds1, p1, q1, rfl, rfl, rfl, h1, r1⟩ := trodAll_cons r0
  obtain ⟨v2, vs2, d2, ds2, p2, q2, rfl, rfl, rfl, h2, r2⟩ := trodAll_cons r1
  obtain ⟨rfl, rfl, rfl⟩ := trodAll_nil r2
  obtain rfl : args = #[v0, v1, v2] := by cases args; simp_all
  obtain ⟨rfl, rfl⟩ := trodVars_none hV
  obtain ⟨z0, z1, z2, z3, z4, z5, z6, z7, z8, z9, rfl, y0, y1, y2, y3, y4, y5, y6, y7⟩ := flat0 (hval 0 29 v0 rfl rfl)
  obtain ⟨a1, rfl, rfl, rfl, w1⟩ := open_int Tryz.underlying35 (hval 1 35 v1 rfl rfl) h1
  have b1 := bounds_u32 w1
  obtain ⟨a2, l2,c2, n2, rfl, i2, m2, mc2, lc2, w2⟩ := Frame.open_num_slice Tryz.underlying23 Tryz.underlying5 (by kernel_rfl) (hval 2 23 v2 rfl rfl) h2
  clear hA0 hval0
  refine (Pg.parserForms_law z0 z1 z2 z3 z4 z5 z6 z7 z8 z9 a1 b1 a2 l2 c2 n2 W i2 m2 lc2).mono fun e W' ⟨he, bel⟩ => ?_
  subst he
  exact ⟨_, rfl, Frame.law_post (bt := 4) Frame.laidOut rfl (by kernel_rfl) rfl Tryz.underlying4 rfl hW' bel⟩
set_option maxHeartbeats 0 in
theorem closed : joinedFacts Tryz.prog 9 Tryz.f9 Rows.parserFormsSpec Rows.parserFormsRow = true := by
  simp only [joinedFacts, Bool.and_eq_true]
  repeat' apply And.intro
  all_goals (as_aux_lemma => kernel_rfl)
theorem holds : Rows.ParserFormsSaid :=
  OpenClaim.holds_of_wide 9 Tryz.f9 rfl rfl rfl rfl rfl rfl rfl ⟨rfl, rfl, rfl, rfl, rfl⟩ rfl rfl rfl rfl rfl (by kernel_rfl) Tryz.func9 closed
    (of_decide_eq_true (by kernel_rfl)) (by unfold Func.isWrapper; rw [if_neg (by decide +kernel)]; exact ⟨rfl, rfl⟩)
    (fun os started H enc _ => lifted os started H enc)
set_option maxHeartbeats 8000000 in
theorem proved : Rows.ParserFormsCardSaid :=
  Claim7.holds_tied_plain_at .later [] [.data, .pinned] true (true, "2301442503751d38575375871b1b2c0c8b7467f0bd68d7349b36cb881ec55015") false holds (fun _ h => by cases h) (by as_aux_lemma => kernel_rfl) (fun _ h => by cases h) parserForms_row_tie rfl ⟨rfl, rfl⟩ (by as_aux_lemma => kernel_rfl) rfl
    (fun f fn hf hfn => by
      obtain rfl : f = 9 := Option.some.inj ((show Tryz.prog.funcNamed "parallax/parallaxlaw13.ParserForms" = some 9 by as_aux_lemma => kernel_rfl).symm.trans hf) |>.symm
      obtain rfl : fn = Tryz.f9 := (Option.some.inj (Tryz.func9.symm.trans hfn)).symm
      exact ⟨by as_aux_lemma => kernel_rfl, fun j t ht => by
        rw [Tryz.params9] at ht
        have hm : t ∈ [29, 35, 23] := by simpa using Array.mem_of_getElem? ht
        have hall : ([29, 35, 23].all fun u => !Tryz.prog.wantsStandIn u) = true := by as_aux_lemma => kernel_rfl
        exact (show Tryz.prog.wantsStandIn t = false by simpa using List.all_eq_true.1 hall t hm)⟩)
    (by as_aux_lemma => kernel_rfl)
#print axioms proved
end Go.Proofs.YtldhlecknfomjaaGreatDoor.parserForms
