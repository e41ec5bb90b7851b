/-
  Layer 13 (parser): the contract of the program's Read, and how records that were told are read. (Printed by tools/gen_pgread.py.)
-/
import Derived.Test.YtibnobdbmojjhaaGreatDoorPgNew
namespace Go.Proofs.YtibnobdbmojjhaaGreatDoor.Pg
open Go.RowKit Base Txt Mem Par

theorem told_err (x : Q) : x.told.err = x.err := by cases x <;> rfl
theorem told_clean (x : Q) : x.told.clean = x.clean := by cases x <;> rfl
theorem told_waits (x : Q) : x.told.waits = x.waits := by cases x <;> rfl
theorem told_held (x : Q) : x.told.held = x.held := by cases x <;> rfl
theorem told_ok {b : Bd} {x : Q} (h : x.Ok b) : x.told.Ok b := by
  cases x with
  | live t => exact ⟨⟨h.1.rd, h.1.nf, h.1.st, h.1.hl, h.1.bl, h.1.fsl, h.1.tsl, h.1.fss, h.1.tss, h.1.m, h.1.x, h.1.body, h.1.left, h.1.early, h.1.size⟩, h.2⟩
  | dead e o => trivial
theorem told_out (x : Q) : x.told.out = [] := by cases x <;> rfl
/-- One slice of bytes, as a slice of such. -/
theorem Parts.one {L : List (Option Nat)} {w : World} {a : Option Addr} {c : Nat} {l : List UInt8} (h : Bts L w a l) (hin : In w L) (ty : TypeId) : Parts L (w.alloc (.cells #[.slice a l.length c] ty)) (some ⟨w.heap.size, 0, none⟩) [l] := by
  have hb : Below w.heap.size w (w.alloc (.cells #[.slice a l.length c] ty)) := (Below.refl _ _).alloc (Nat.le_refl _) _
  refine ⟨fun _ => ⟨w.heap.size, 0, rfl, by simp, fun hm => by have := hin _ hm; omega, fun k hk => ?_⟩⟩
  have hk : k < 1 := hk
  obtain rfl : k = 0 := by omega
  refine ⟨a, c, ?_, ?_⟩
  · have := cell_of_row (w.alloc (.cells #[.slice a l.length c] ty)) w.heap.size 0 _ ty (0, 0) (heap_alloc_new w _)
    exact this.trans rfl
  · exact h.step (Step.of_below hb)
section code
set_option maxHeartbeats 4000000
set_option maxRecDepth 20000
attribute [local go_sem] Base.some_undef
variable {w : World} {B g q : Nat} {v f bd t o : Value} {p : Nat} {b : Bd} {s : T}
theorem read_any (hp : p < 4294967296) (w : World) (a : Option Addr) (c : Nat) (l : List UInt8) (hl : Bts [] w a l) (hn : l.length ≤ 400000000) : Calls Tryz.prog 32 #[.int .u32 (p : Int), .agg #[.int .i64 b.x0, .int .i64 b.x1, .int .i64 b.x2, .int .i64 b.x3, .int .i64 b.x4, .int .i64 b.x5, .int .i64 b.x6, .int .i64 b.x7, .bool b.ch, .bool b.od], .slice a l.length c] w fun r w' =>
    ∃ o L B0, r = .returned (.tuple #[o, .int .i64 ((Q.read p b l).err : Int), .bool (Q.read p b l).clean]) ∧ Told L B0 w' o (Q.read p b l).out ∧ Below w.heap.size w w' := by
  have HB0 := Lib.hid (((Below.refl _ _).alloc (Nat.le_refl _) (.cells #[.int .i64 b.x0, .int .i64 b.x1, .int .i64 b.x2, .int .i64 b.x3, .int .i64 b.x4, .int .i64 b.x5, .int .i64 b.x6, .int .i64 b.x7, .bool b.ch, .bool b.od] 29)) : Below w.heap.size w _)
  have HZ0 := Lib.hid (Rec.Bk.new w w.heap.size rfl 29 [.int .i64 b.x0, .int .i64 b.x1, .int .i64 b.x2, .int .i64 b.x3, .int .i64 b.x4, .int .i64 b.x5, .int .i64 b.x6, .int .i64 b.x7, .bool b.ch, .bool b.od])
  have HSZ := Lib.hid (show w.heap.size < (w.alloc (.cells #[.int .i64 b.x0, .int .i64 b.x1, .int .i64 b.x2, .int .i64 b.x3, .int .i64 b.x4, .int .i64 b.x5, .int .i64 b.x6, .int .i64 b.x7, .bool b.ch, .bool b.od] 29)).heap.size by simp)
  have HL := Lib.hid hl; have HN := Lib.hid hn
  unfold Q.read
  obtain ⟨X, hX⟩ : ∃ X, Q.feed p b (Q.new p b) l = X := ⟨_, rfl⟩
  rw [hX]
  have HX := Lib.hid hX
  obtain ⟨m, hm⟩ : ∃ m, l.length = m := ⟨_, rfl⟩
  have HM := Lib.hid hm
  rw [hm]
  clear hl hn hm hX
  go_enter Tryz.func32, Tryz.ntmps32
  go_upto_region 1 with fail
  generalize w.alloc (.cells #[.int .i64 b.x0, .int .i64 b.x1, .int .i64 b.x2, .int .i64 b.x3, .int .i64 b.x4, .int .i64 b.x5, .int .i64 b.x6, .int .i64 b.x7, .bool b.ch, .bool b.od] 29) = W0 at *
  have y0 := HZ0.out.c 0 _ rfl; have y1 := HZ0.out.c 1 _ rfl; have y2 := HZ0.out.c 2 _ rfl; have y3 := HZ0.out.c 3 _ rfl; have y4 := HZ0.out.c 4 _ rfl; have y5 := HZ0.out.c 5 _ rfl; have y6 := HZ0.out.c 6 _ rfl; have y7 := HZ0.out.c 7 _ rfl; have y8 := HZ0.out.c 8 _ rfl; have y9 := HZ0.out.c 9 _ rfl
  have HNW := Lib.hid (new_any (b := b) hp W0)
  go_upto_region 2 with
    (go_at_call 20; with_reducible refine HNW.out.mono ?_; rintro r w1 ⟨g, L1, rfl, hg, hA, hb1⟩
     have HG := Lib.hid hg; have HA := Lib.hid hA; have HB1 := Lib.hid hb1
     clear hg hA hb1)
  have hlow := HA.out.low
  have hlA : Bts L1 w1 a l := by
    refine ⟨HL.out.nums.below (Base.below_step HB0.out HB1.out), fun ad e => ?_⟩
    have := (HL.out.far ad e).2
    refine ⟨fun hm => ?_, Nat.lt_of_lt_of_le this (Nat.le_trans (Nat.le_of_lt HSZ.out) HB1.out.size)⟩
    have := hlow _ hm
    have := HSZ.out
    omega
  have hpa := Parts.one (c := c) hlA HA.out.in 22
  rw [HM.out] at hpa
  have hb2 : Below w1.heap.size w1 (w1.alloc (.cells #[.slice a m c] 22)) := (Below.refl _ _).alloc (Nat.le_refl _) _
  have hfe := feed_any hp _ (HA.out.below hb2) (Q.new_ok p b) (some ⟨w1.heap.size, 0, none⟩) 1 [l] hpa (by simp) (by
    have h1 : (Q.new p b).out.length = 0 := by unfold Q.new; split <;> rfl
    have h2 := HN.out
    rw [h1]
    simp only [List.flatten_cons, List.flatten_nil, List.append_nil]
    omega)
  have efl : [l].flatten = l := by simp
  rw [efl] at hfe
  have HFE := Lib.hid (show Calls Tryz.prog 22 #[ptr g, .slice (some ⟨w1.heap.size, 0, none⟩) 1 1] (w1.alloc (.cells #[.slice a m c] 22)) fun r w' => ∃ o L', r = .returned o ∧ At w' W0.heap.size g p b L' (Q.feed p b (Q.new p b) l).told ∧ Told L' W0.heap.size w' o (Q.feed p b (Q.new p b) l).out ∧ Step L1 L' (w1.alloc (.cells #[.slice a m c] 22)) w' from hfe)
  have HLOW := Lib.hid hlow
  have HB2 := Lib.hid (Base.below_step (Base.below_step HB0.out HB1.out) hb2)
  rw [HX.out] at HFE
  clear hlA hpa hb2 hfe efl hlow y0 y1 y2 y3 y4 y5 y6 y7 y8 y9
  go_wp2_with (first
    | (go_at_call 30; with_reducible refine HC.out.mono ?_; rintro r w3 ⟨rfl, hw⟩; rw [hw]; clear hw)
    | (go_at_call 25; with_reducible refine HE.out.mono ?_; rintro r w3 ⟨rfl, hw⟩; rw [hw]; clear hw)
    | (go_at_call 22; with_reducible refine HFE.out.mono ?_; rintro r w3 ⟨o, L', rfl, hA3, hT3, hS3⟩
       have HE := Lib.hid (errq_any hA3); have HC := Lib.hid (cleanq_any hA3)
       rw [told_err] at HE; rw [told_clean] at HC
       have HT3 := Lib.hid hT3; have HS3 := Lib.hid hS3
       clear hA3 hT3 hS3))
  refine bodyPost_ret (v := .tuple #[o, .int .i64 (X.err : Int), .bool X.clean]) (by simp [results, Tryz.results32, go_sem]) rfl ?_
  refine ⟨_, _, _, rfl, HT3.out, HB2.out.trans (HS3.out.keeps.below HB2.out.size (fun k hk => ?_))⟩
  have := HLOW.out k hk
  have := HSZ.out
  omega
end code
theorem flat_at : ∀ (ps : List (Array Value × Rec.R)), (∀ x ∈ ps, x.1.size = 7) → ∀ k (hk : k < ps.length) j, j < 7 → (ps.flatMap (·.1.toList))[k * 7 + j]? = ps[k].1.toList[j]?
  | [], _, k, hk, _, _ => by cases hk
  | x :: ps, h, 0, _, j, hj => by
    have hx : x.1.toList.length = 7 := by simpa using h x (by simp)
    rw [List.flatMap_cons, List.getElem?_append_left (by omega), Nat.zero_mul, Nat.zero_add]
    rfl
  | x :: ps, h, k + 1, hk, j, hj => by
    have hx : x.1.toList.length = 7 := by simpa using h x (by simp)
    rw [List.flatMap_cons, List.getElem?_append_right (by omega), hx, show (k + 1) * 7 + j - 7 = k * 7 + j by omega]
    exact flat_at ps (fun y hy => h y (by simp [hy])) k (by simpa using hk) j hj
/-- Records that were told, one by one. -/
theorem Told.at {L : List (Option Nat)} {B : Nat} {w : World} {o : Value} {out : List Rec.R} (h : Told L B w o out) : ∃ a c, o = .slice a out.length c ∧ (0 < out.length → ∃ bk, a = some ⟨bk, 0, none⟩ ∧ bk < w.heap.size ∧
    ∀ k (hk : k < out.length), ∃ fa fc ba bc ta tc, Flds w fa out[k].fs.length out[k].fs ∧ Nums .u8 w ba out[k].body.length (out[k].body.map fun c => (c.toNat : Int)) ∧ Flds w ta out[k].ts.length out[k].ts ∧
      w.cell? ⟨bk, k * 7, none⟩ = some (.string out[k].m) ∧ w.cell? ⟨bk, k * 7 + 1, none⟩ = some (.string out[k].x) ∧ w.cell? ⟨bk, k * 7 + 2, none⟩ = some (.int .i64 out[k].k) ∧ w.cell? ⟨bk, k * 7 + 3, none⟩ = some (.slice fa out[k].fs.length fc) ∧
      w.cell? ⟨bk, k * 7 + 4, none⟩ = some (.bool out[k].ch) ∧ w.cell? ⟨bk, k * 7 + 5, none⟩ = some (.slice ba out[k].body.length bc) ∧ w.cell? ⟨bk, k * 7 + 6, none⟩ = some (.slice ta out[k].ts.length tc)) := by
  obtain ⟨ps, h1, h2, h3⟩ := h.outs
  obtain ⟨a, c, e, -⟩ := Ln.own_slice h3
  subst e
  refine ⟨a, c, rfl, fun h0 => ?_⟩
  obtain ⟨bk, cf, hform, -, hlt⟩ := h3.form h0
  simp only [Value.slice.injEq, true_and] at hform
  obtain ⟨rfl, rfl⟩ := hform
  refine ⟨bk, rfl, hlt, fun k hk => ?_⟩
  have hkp : k < ps.length := by rw [← h1, List.length_map] at hk; exact hk
  have hr : out[k] = ps[k].2 := by simp [← h1]
  obtain ⟨h7, hF⟩ := h2 ps[k] (List.getElem_mem hkp)
  obtain ⟨fa, fc, ba, bc, ta, tc, hV, f1, f2, f3⟩ := hF.reads
  have hcs : ps[k].1 = #[.string ps[k].2.m, .string ps[k].2.x, .int .i64 ps[k].2.k, .slice fa ps[k].2.fs.length fc, .bool ps[k].2.ch, .slice ba ps[k].2.body.length bc, .slice ta ps[k].2.ts.length tc] := by injection hV
  have key : ∀ j, j < 7 → w.cell? ⟨bk, k * 7 + j, none⟩ = ps[k].1.toList[j]? := by
    intro j hj
    have hc := h3.cellAt (k * 7 + j) (by omega)
    have e : (ps.flatMap (·.1.toList))[k * 7 + j]? = ps[k].1.toList[j]? := flat_at ps (fun x hx => (h2 x hx).1) k hkp j hj
    exact hc.trans e
  rw [hr]
  rw [hcs] at key
  exact ⟨fa, fc, ba, bc, ta, tc, f1, f2, f3, key 0 (by decide), key 1 (by decide), key 2 (by decide), key 3 (by decide), key 4 (by decide), key 5 (by decide), key 6 (by decide)⟩
end Go.Proofs.YtibnobdbmojjhaaGreatDoor.Pg
