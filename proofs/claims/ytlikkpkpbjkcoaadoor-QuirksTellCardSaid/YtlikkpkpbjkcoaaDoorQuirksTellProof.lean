/-
  'parallax/parallaxlaw5.QuirksTell' returns true for every input, and every argument reads behind the call as it read before. Its tied card: the listed package-level variables start as the program's text lays them. No condition of its own.
-/
import Derived.Test.YtlikkpkpbjkcoaaDoorFrame
import Derived.Test.YtlikkpkpbjkcoaaDoorCards
import Derived.Test.YtlikkpkpbjkcoaaDoorTie
import Derived.LaidMore
import Derived.Lay
import Derived.SevenTiedAt
import Derived.Stop.Joined
import Derived.Test.YtlikkpkpbjkcoaaDoorQuirkSaid4
import Derived.Test.YtlikkpkpbjkcoaaDoorFrameFlat
namespace Go.Proofs.YtlikkpkpbjkcoaaDoor.quirksTell
open Go.ChangeShapes Go.WideShapes Go.ChangeAt Go.RowKit Base
open Go.ChangeMaps (open_string shut_string)
set_option linter.unusedVariables false

theorem flat5 {W : World} {base : Nat} {v : Value} (h : Value.okWide Tryd.prog W .any base 25 v) : ∃ (x0 : Int) (x1 : Int) (x2 : Int) (x3 : Int) (x4 : Int) (x5 : Int) (x6 : Int) (x7 : Int) (x8 : Bool) (x9 : Bool), v = .agg #[.int .i64 x0, .int .i64 x1, .int .i64 x2, .int .i64 x3, .int .i64 x4, .int .i64 x5, .int .i64 x6, .int .i64 x7, .bool x8, .bool x9] ∧ IntKind.i64.has x0 ∧ IntKind.i64.has x1 ∧ IntKind.i64.has x2 ∧ IntKind.i64.has x3 ∧ IntKind.i64.has x4 ∧ IntKind.i64.has x5 ∧ IntKind.i64.has x6 ∧ IntKind.i64.has x7 := by
  obtain ⟨cs, rfl, hs, hc⟩ := Frame.flat_cells Tryd.underlying25 (ts := [3, 3, 3, 3, 3, 3, 3, 3, 4, 4]) (by kernel_rfl) (by kernel_rfl) h
  have hs : cs.size = 10 := hs
  obtain ⟨c0, c1, c2, c3, c4, c5, c6, c7, c8, c9, rfl⟩ : ∃ c0 c1 c2 c3 c4 c5 c6 c7 c8 c9, cs = #[c0, c1, c2, c3, c4, c5, c6, c7, c8, c9] := by
    refine ⟨cs[0], cs[1], cs[2], cs[3], cs[4], cs[5], cs[6], cs[7], cs[8], cs[9], Array.ext (by simp [hs]) fun i hi hi' => ?_⟩
    have : i < 10 := by omega
    rcases (by omega : i = 0 ∨ i = 1 ∨ i = 2 ∨ i = 3 ∨ i = 4 ∨ i = 5 ∨ i = 6 ∨ i = 7 ∨ i = 8 ∨ i = 9) with rfl | rfl | rfl | rfl | rfl | rfl | rfl | rfl | rfl | rfl <;> rfl
  obtain ⟨x0, rfl, k0⟩ := Frame.cell_int Tryd.underlying3 (hc 0 _ _ rfl rfl)
  obtain ⟨x1, rfl, k1⟩ := Frame.cell_int Tryd.underlying3 (hc 1 _ _ rfl rfl)
  obtain ⟨x2, rfl, k2⟩ := Frame.cell_int Tryd.underlying3 (hc 2 _ _ rfl rfl)
  obtain ⟨x3, rfl, k3⟩ := Frame.cell_int Tryd.underlying3 (hc 3 _ _ rfl rfl)
  obtain ⟨x4, rfl, k4⟩ := Frame.cell_int Tryd.underlying3 (hc 4 _ _ rfl rfl)
  obtain ⟨x5, rfl, k5⟩ := Frame.cell_int Tryd.underlying3 (hc 5 _ _ rfl rfl)
  obtain ⟨x6, rfl, k6⟩ := Frame.cell_int Tryd.underlying3 (hc 6 _ _ rfl rfl)
  obtain ⟨x7, rfl, k7⟩ := Frame.cell_int Tryd.underlying3 (hc 7 _ _ rfl rfl)
  obtain ⟨x8, rfl⟩ := Frame.cell_bool Tryd.underlying4 (hc 8 _ _ rfl rfl)
  obtain ⟨x9, rfl⟩ := Frame.cell_bool Tryd.underlying4 (hc 9 _ _ rfl rfl)
  exact ⟨x0, x1, x2, x3, x4, x5, x6, x7, x8, x9, rfl, k0, k1, k2, k3, k4, k5, k6, k7⟩
set_option maxRecDepth 100000 in
theorem lifted (os : Os) (started : os.Started) (H : Type) (enc : TypeId × Value → H) :
    ReturnsInHanded {} Tryd.checked os 3 .any (fun w args => (Rows.quirksTellSpec.pre enc Tryd.prog Tryd.f3 Rows.quirksTellRow.domain false w args ∧ laidMetH Tryd.prog Rows.quirksTellRow.laid w) ∧ sizedMet enc Tryd.prog Tryd.f3 (OpenSpec.ofChange Rows.quirksTellSpec) false w args)
      (Rows.quirksTellSpec.post enc Tryd.prog Tryd.f3 false true false false) := by
  refine returnsInHanded_of_change_and (C := Tryd.checked) (X := fun w _ => laidMetH Tryd.prog Rows.quirksTellRow.laid w) (fun _ _ _ hh h => h.of_heap hh) Frame.own started (by kernel_rfl) Tryd.func3
    (ChangeSpec.witness_shaped (enc := enc) (C := Tryd.checked) (os := os) (X := fun w _ => laidMetH Tryd.prog Rows.quirksTellRow.laid w) false (World.laidAll Tryd.prog os Rows.quirksTellRow.laid) #[.int .u32 0, .int .u8 0, .int .i64 0, .slice none 0 0, .string ByteArray.empty, .agg #[.int .i64 0, .int .i64 0, .int .i64 0, .int .i64 0, .int .i64 0, .int .i64 0, .int .i64 0, .int .i64 0, .bool false, .bool false]] 8 (World.laidAll_os _ _ _)
      (World.shaped_of_ZipB (by kernel_rfl) (by kernel_rfl)) (by kernel_rfl) (by kernel_rfl) (by kernel_rfl)
      (by rw [MakeChecks.laidMetH_plain _ _ _ (by kernel_rfl)]; exact laidMet_laidAll _ (by kernel_rfl) (by kernel_rfl))) ?_
  intro W base args ds gs before hval0 hW hcnd hsz0 hL _
  have hsz : (DataW.weightsEach Tryd.prog (Tryd.f3.params.toList ++ Rows.quirksTellSpec.plain.varTypes Tryd.prog) (ds ++ gs)).all (· ≤ reachBytes) = true := hsz0
  clear hsz0
  have hval : ∀ (j : Nat) t v, Tryd.f3.params[j]? = some t → args[j]? = some v → Value.okWide Tryd.prog W .any base t v := hval0
  have hW' := hW
  obtain ⟨p, q, hA0, hV, rfl, hfz, hnd⟩ := hW
  have hA : DataW.TrodAll enc Tryd.prog W 0 (fun _ => true) true Tryd.f3.params.toList args.toList ds p := hA0
  rw [Tryd.params3] at hA hval hsz
  obtain ⟨v0, vs0, d0, ds0, p0, q0, hargs, rfl, rfl, h0, r0⟩ := trodAll_cons hA
  obtain ⟨v1, vs1, d1, ds1, p1, q1, rfl, rfl, rfl, h1, r1⟩ := trodAll_cons r0
  obtain ⟨v2, vs2, d2, ds2, p2, q2, rfl, rfl, rfl, h2, r2⟩ := trodAll_cons r1
  obtain ⟨v3, vs3, d3, ds3, p3, q3, rfl, rfl, rfl, h3, r3⟩ := trodAll_cons r2
  obtain ⟨v4, vs4, d4, ds4, p4, q4, rfl, rfl, rfl, h4, r4⟩ := trodAll_cons r3
  obtain ⟨v5, vs5, d5, ds5, p5, q5, rfl, rfl, rfl, h5, r5⟩ := trodAll_cons r4
  obtain ⟨rfl, rfl, rfl⟩ := trodAll_nil r5
  obtain rfl : args = #[v0, v1, v2, v3, v4, v5] := by cases args; simp_all
  obtain ⟨rfl, rfl⟩ := trodVars_none hV
  obtain ⟨a0, rfl, rfl, rfl, w0⟩ := open_int Tryd.underlying22 (hval 0 22 v0 rfl rfl) h0
  have b0 := bounds_u32 w0
  obtain ⟨a1, rfl, rfl, rfl, w1⟩ := open_int Tryd.underlying5 (hval 1 5 v1 rfl rfl) h1
  have b1 := bounds_u8 w1
  obtain ⟨a2, rfl, rfl, rfl, w2⟩ := open_int Tryd.underlying3 (hval 2 3 v2 rfl rfl) h2
  have b2 := bounds_i64 w2
  obtain ⟨a3, l3, c3, n3, rfl, i3, m3, mc3, lc3, w3⟩ := Frame.open_int_slice Tryd.underlying23 Tryd.underlying3 (by kernel_rfl) (hval 3 23 v3 rfl rfl) h3
  obtain ⟨a4, rfl, rfl, rfl, _⟩ := open_string Tryd.underlying9 (hval 4 9 v4 rfl rfl) h4
  have z4 : a4.size ≤ 140737488351232 := by
    have := sized_string hsz (j := 4) (t := 9) rfl rfl
    simpa [reachBytes] using this
  obtain ⟨a5_0, a5_1, a5_2, a5_3, a5_4, a5_5, a5_6, a5_7, a5_8, a5_9, rfl, w5_0, w5_1, w5_2, w5_3, w5_4, w5_5, w5_6, w5_7⟩ := flat5 (hval 5 25 v5 rfl rfl)
  clear hA0 hval0
  refine (Qk.quirksTell_law a0 a1 a2 a3 l3 c3 n3 a4 a5_0 a5_1 a5_2 a5_3 a5_4 a5_5 a5_6 a5_7 a5_8 a5_9 W b0 b1 i3 m3 z4 hL).mono fun e W' ⟨he, bel⟩ => ?_
  subst he
  exact ⟨_, rfl, Frame.law_post (bt := 4) Frame.laidOut rfl (by kernel_rfl) rfl Tryd.underlying4 rfl hW' bel⟩

theorem holds : Rows.QuirksTellSaid :=
  OpenClaim.holds_of_wide 3 Tryd.f3 rfl rfl rfl rfl rfl rfl rfl ⟨rfl, rfl, rfl, rfl, rfl⟩ rfl rfl rfl rfl rfl (by kernel_rfl) Tryd.func3 (by kernel_rfl)
    (of_decide_eq_true (by kernel_rfl)) (by unfold Func.isWrapper; rw [if_neg (by decide +kernel)]; exact ⟨rfl, rfl⟩)
    (fun os started H enc _ => lifted os started H enc)
theorem proved : Rows.QuirksTellCardSaid :=
  Claim7.holds_tied_plain_at .later [] [.data] true (true, "f5673e8d8de4a852055e0d151f65857bb67771ab1c11b44169d062ce7080eeaf") false holds (fun _ h => by cases h) (by kernel_rfl) (fun _ h => by cases h) quirksTell_row_tie rfl ⟨rfl, rfl⟩ (by kernel_rfl) rfl
    (fun f fn hf hfn => by
      obtain rfl : f = 3 := Option.some.inj ((show Tryd.prog.funcNamed "parallax/parallaxlaw5.QuirksTell" = some 3 by kernel_rfl).symm.trans hf) |>.symm
      obtain rfl : fn = Tryd.f3 := (Option.some.inj (Tryd.func3.symm.trans hfn)).symm
      exact ⟨by kernel_rfl, fun j t ht => by
        rw [Tryd.params3] at ht
        have hm : t ∈ [22, 5, 3, 23, 9, 25] := by simpa using Array.mem_of_getElem? ht
        have hall : ([22, 5, 3, 23, 9, 25].all fun u => !Tryd.prog.wantsStandIn u) = true := by kernel_rfl
        exact (show Tryd.prog.wantsStandIn t = false by simpa using List.all_eq_true.1 hall t hm)⟩)
    (by kernel_rfl)
#print axioms proved
end Go.Proofs.YtlikkpkpbjkcoaaDoor.quirksTell
