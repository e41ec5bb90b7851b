/-
  Layer 12 (record): what the laws know of three plain records. (Printed by tools/gen_known.py.)
-/
import Derived.Test.YtechehbegiinpaaDoorRecCopy
import Derived.Test.YtechehbegiinpaaDoorRecAll
namespace Go.Proofs.YtechehbegiinpaaDoor.Rec
open Go.RowKit Base Txt

def R0 : R := ⟨⟨#[71, 69, 84]⟩, ⟨#[47]⟩, 0, [(expectN, ⟨#[49, 48, 48, 45, 67, 111, 110, 116, 105, 110, 117, 101]⟩)], false, [], []⟩
def R1 : R := ⟨⟨#[71, 69, 84]⟩, ⟨#[47]⟩, 1, [(expectN, ⟨#[49, 48, 48, 45, 67, 111, 110, 116, 105, 110, 117, 101]⟩)], false, [], []⟩
theorem fit0 : Fit R0 := ⟨by decide, by decide, by decide, fun f hf => by obtain rfl : f = (expectN, _) := by simpa [R0] using hf
                                                                          decide, by decide, by decide, fun f hf => by simp [R0] at hf⟩
theorem fit1 : Fit R1 := ⟨by decide, by decide, by decide, fun f hf => by obtain rfl : f = (expectN, _) := by simpa [R1] using hf
                                                                          decide, by decide, by decide, fun f hf => by simp [R1] at hf⟩
theorem fits0 : ∀ r ∈ [R0], Fit r := by
  intro r hr
  obtain rfl : r = R0 := (by simpa using hr)
  exact fit0
section code
set_option maxHeartbeats 2000000
set_option maxRecDepth 20000
attribute [local go_sem] Base.some_undef
theorem known_any (w : World) : Calls Tryd.prog 6 #[] w fun e w' => e = .returned (.bool true) ∧ Below w.heap.size w w' := by
  have hbw0 := Lib.hid ((((Below.refl _ _).alloc (Nat.le_refl _) (.cells #[.string ⟨#[69, 120, 112, 101, 99, 116]⟩, .string ⟨#[49, 48, 48, 45, 67, 111, 110, 116, 105, 110, 117, 101]⟩] 31)).alloc (by simp) (.cells #[.string ⟨#[71, 69, 84]⟩, .string ⟨#[47]⟩, .int .i64 0, .slice (some ⟨w.heap.size, 0, none⟩) 1 1, .bool false, .slice none 0 0, .slice none 0 0] 25)).alloc (by simp; omega) (.cells #[.string ⟨#[71, 69, 84]⟩, .string ⟨#[47]⟩, .int .i64 1, .slice (some ⟨w.heap.size, 0, none⟩) 1 1, .bool false, .slice none 0 0, .slice none 0 0] 25) : Below w.heap.size w _)
  have HLt := Lib.hid (Flds.of_cells (w := w.alloc (.cells #[.string ⟨#[69, 120, 112, 101, 99, 116]⟩, .string ⟨#[49, 48, 48, 45, 67, 111, 110, 116, 105, 110, 117, 101]⟩] 31)) (b := w.heap.size) (fs := [(expectN, ⟨#[49, 48, 48, 45, 67, 111, 110, 116, 105, 110, 117, 101]⟩)]) (n := 1) rfl (by simp) (fun j hj => by
    rcases (by omega : j = 0 ∨ j = 1) with rfl | rfl
    · exact (Bk.new w w.heap.size rfl 31 [.string ⟨#[69, 120, 112, 101, 99, 116]⟩, .string ⟨#[49, 48, 48, 45, 67, 111, 110, 116, 105, 110, 117, 101]⟩]).c 0 _ rfl
    · exact (Bk.new w w.heap.size rfl 31 [.string ⟨#[69, 120, 112, 101, 99, 116]⟩, .string ⟨#[49, 48, 48, 45, 67, 111, 110, 116, 105, 110, 117, 101]⟩]).c 1 _ rfl))
  have HLt := Lib.hid (HLt.out.below (Base.below_drewN ((((Below.refl _ _).alloc (Nat.le_refl _) (.cells #[.string ⟨#[71, 69, 84]⟩, .string ⟨#[47]⟩, .int .i64 0, .slice (some ⟨w.heap.size, 0, none⟩) 1 1, .bool false, .slice none 0 0, .slice none 0 0] 25)).alloc (by simp) (.cells #[.string ⟨#[71, 69, 84]⟩, .string ⟨#[47]⟩, .int .i64 1, .slice (some ⟨w.heap.size, 0, none⟩) 1 1, .bool false, .slice none 0 0, .slice none 0 0] 25))) 1))
  have HA := Lib.hid (((Bk.new (w.alloc (.cells #[.string ⟨#[69, 120, 112, 101, 99, 116]⟩, .string ⟨#[49, 48, 48, 45, 67, 111, 110, 116, 105, 110, 117, 101]⟩] 31)) (w.heap.size + 1) (by simp) 25 [.string ⟨#[71, 69, 84]⟩, .string ⟨#[47]⟩, .int .i64 0, .slice (some ⟨w.heap.size, 0, none⟩) 1 1, .bool false, .slice none 0 0, .slice none 0 0]).alloc (.cells #[.string ⟨#[71, 69, 84]⟩, .string ⟨#[47]⟩, .int .i64 1, .slice (some ⟨w.heap.size, 0, none⟩) 1 1, .bool false, .slice none 0 0, .slice none 0 0] 25)).drew 1)
  have HB := Lib.hid ((Bk.new ((w.alloc (.cells #[.string ⟨#[69, 120, 112, 101, 99, 116]⟩, .string ⟨#[49, 48, 48, 45, 67, 111, 110, 116, 105, 110, 117, 101]⟩] 31)).alloc (.cells #[.string ⟨#[71, 69, 84]⟩, .string ⟨#[47]⟩, .int .i64 0, .slice (some ⟨w.heap.size, 0, none⟩) 1 1, .bool false, .slice none 0 0, .slice none 0 0] 25)) (w.heap.size + 1 + 1) (by simp) 25 [.string ⟨#[71, 69, 84]⟩, .string ⟨#[47]⟩, .int .i64 1, .slice (some ⟨w.heap.size, 0, none⟩) 1 1, .bool false, .slice none 0 0, .slice none 0 0]).drew 1)
  go_enter Tryd.func6, Tryd.ntmps6
  go_wp2_with fail
  generalize ((w.alloc (.cells #[.string ⟨#[69, 120, 112, 101, 99, 116]⟩, .string ⟨#[49, 48, 48, 45, 67, 111, 110, 116, 105, 110, 117, 101]⟩] 31)).alloc (.cells #[.string ⟨#[71, 69, 84]⟩, .string ⟨#[47]⟩, .int .i64 0, .slice (some ⟨w.heap.size, 0, none⟩) 1 1, .bool false, .slice none 0 0, .slice none 0 0] 25)).alloc (.cells #[.string ⟨#[71, 69, 84]⟩, .string ⟨#[47]⟩, .int .i64 1, .slice (some ⟨w.heap.size, 0, none⟩) 1 1, .bool false, .slice none 0 0, .slice none 0 0] 25) = W at *
  have HR := Lib.hid (show Reads (W.drewN 1) (.agg #[.string ⟨#[71, 69, 84]⟩, .string ⟨#[47]⟩, .int .i64 0, .slice (some ⟨w.heap.size, 0, none⟩) 1 1, .bool false, .slice none 0 0, .slice none 0 0]) R0 from ⟨_, _, _, _, _, _, rfl, HLt.out, Nums.nil _ _ _, Flds.nil _ _⟩)
  have HS := Lib.hid (show Reads (W.drewN 1) (.agg #[.string ⟨#[71, 69, 84]⟩, .string ⟨#[47]⟩, .int .i64 1, .slice (some ⟨w.heap.size, 0, none⟩) 1 1, .bool false, .slice none 0 0, .slice none 0 0]) R1 from ⟨_, _, _, _, _, _, rfl, HLt.out, Nums.nil _ _ _, Flds.nil _ _⟩)
  refine Each.region 45 [8, 9, 10, 11, 12, 13, 14, 15, 16, 17, 18, 19, 20, 21, 22, 23, 24, 25, 26, 27, 28, 29, 30, 31, 32, 33, 34, 35, 36, 37, 38, 39, 40, 41, 42, 43, 44, 45, 46, 47, 48, 49, 50, 51, 52]
      [fun v _ => v = .agg #[.string ⟨#[71, 69, 84]⟩, .string ⟨#[47]⟩, .int .i64 0, .slice (some ⟨w.heap.size, 0, none⟩) 1 1, .bool false, .slice none 0 0, .slice none 0 0],
        fun v _ => v = .agg #[.string ⟨#[71, 69, 84]⟩, .string ⟨#[47]⟩, .int .i64 0, .slice (some ⟨w.heap.size, 0, none⟩) 1 1, .bool false, .slice none 0 0, .slice none 0 0],
        fun v _ => v = .bool true,
        fun v _ => v = .bool true,
        Each.When (true) true (fun v _ => v = .agg #[.string ⟨#[71, 69, 84]⟩, .string ⟨#[47]⟩, .int .i64 0, .slice (some ⟨w.heap.size, 0, none⟩) 1 1, .bool false, .slice none 0 0, .slice none 0 0]),
        Each.When (true) true (fun v _ => v = .agg #[.string ⟨#[71, 69, 84]⟩, .string ⟨#[47]⟩, .int .i64 1, .slice (some ⟨w.heap.size, 0, none⟩) 1 1, .bool false, .slice none 0 0, .slice none 0 0]),
        Each.When (true) true (fun v _ => v = .bool false),
        Each.When (true) true (fun v _ => v = .bool true),
        fun v _ => v = .bool true,
        fun v _ => v = .bool true,
        Each.When (true) true (fun v _ => v = .agg #[.string ⟨#[71, 69, 84]⟩, .string ⟨#[47]⟩, .int .i64 0, .slice (some ⟨w.heap.size, 0, none⟩) 1 1, .bool false, .slice none 0 0, .slice none 0 0]),
        Each.When (true) true (fun v w => ∃ g, v = .slice (some ⟨g, 0, none⟩) 1 1 ∧ Recs w (some ⟨g, 0, none⟩) 1 [R0]),
        Each.When (true) true (fun v _ => v = .agg #[.string ⟨#[71, 69, 84]⟩, .string ⟨#[47]⟩, .int .i64 0, .slice (some ⟨w.heap.size, 0, none⟩) 1 1, .bool false, .slice none 0 0, .slice none 0 0]),
        Each.When (true) true (fun v w => ∃ g, v = .slice (some ⟨g, 0, none⟩) 1 1 ∧ Recs w (some ⟨g, 0, none⟩) 1 [R0]),
        Each.When (true) true (fun v _ => v = .bool true),
        fun v _ => v = .bool true,
        fun v _ => v = .bool true,
        Each.When (true) true (fun v _ => v = .agg #[.string ⟨#[71, 69, 84]⟩, .string ⟨#[47]⟩, .int .i64 0, .slice (some ⟨w.heap.size, 0, none⟩) 1 1, .bool false, .slice none 0 0, .slice none 0 0]),
        Each.When (true) true (fun v _ => v = .int .i64 22),
        Each.When (true) true (fun v _ => v = .bool true),
        fun v _ => v = .bool true,
        fun v _ => v = .bool true,
        Each.When (true) true (fun v _ => v = .agg #[.string ⟨#[71, 69, 84]⟩, .string ⟨#[47]⟩, .int .i64 0, .slice (some ⟨w.heap.size, 0, none⟩) 1 1, .bool false, .slice none 0 0, .slice none 0 0]),
        Each.When (true) true (fun v _ => v = .bool true),
        fun v _ => v = .bool true,
        fun v _ => v = .bool true,
        Each.When (true) true (fun v _ => v = .agg #[.string ⟨#[71, 69, 84]⟩, .string ⟨#[47]⟩, .int .i64 1, .slice (some ⟨w.heap.size, 0, none⟩) 1 1, .bool false, .slice none 0 0, .slice none 0 0]),
        Each.When (true) true (fun v _ => v = .bool false),
        Each.When (true) true (fun v _ => v = .bool true),
        fun v _ => v = .bool true,
        fun v _ => v = .bool true,
        Each.When (true) true (fun v _ => v = .agg #[.string ⟨#[71, 69, 84]⟩, .string ⟨#[47]⟩, .int .i64 0, .slice (some ⟨w.heap.size, 0, none⟩) 1 1, .bool false, .slice none 0 0, .slice none 0 0]),
        Each.When (true) true (fun v _ => v = .bool false),
        Each.When (true) true (fun v _ => v = .bool true),
        fun v _ => v = .bool true,
        fun v _ => v = .bool true,
        Each.When (true) true (fun v _ => v = .agg #[.string ⟨#[71, 69, 84]⟩, .string ⟨#[47]⟩, .int .i64 1, .slice (some ⟨w.heap.size, 0, none⟩) 1 1, .bool false, .slice none 0 0, .slice none 0 0]),
        Each.When (true) true (fun v _ => v = .bool true),
        fun v _ => v = .bool true,
        fun v _ => v = .bool true,
        Each.When (true) true (fun v _ => v = .agg #[.string ⟨#[71, 69, 84]⟩, .string ⟨#[47]⟩, .int .i64 1, .slice (some ⟨w.heap.size, 0, none⟩) 1 1, .bool false, .slice none 0 0, .slice none 0 0]),
        Each.When (true) true (fun v w => Reads w v R1),
        Each.When (true) true (fun v _ => v = .agg #[.string ⟨#[71, 69, 84]⟩, .string ⟨#[47]⟩, .int .i64 1, .slice (some ⟨w.heap.size, 0, none⟩) 1 1, .bool false, .slice none 0 0, .slice none 0 0]),
        Each.When (true) true (fun v _ => v = .bool true),
        fun v _ => v = .bool true]
      (.quiet 45 .done) (by kernel_rfl) (by kernel_rfl) (by kernel_rfl) (by kernel_rfl) (fun _ _ d _ _ h => by cases d <;> exact h) (by rfl) (by rfl)
      ⟨Each.Lasts.eq _, Each.Lasts.eq _, Each.Lasts.eq _, Each.Lasts.eq _, Each.Lasts.when (Each.Lasts.eq _), Each.Lasts.when (Each.Lasts.eq _), Each.Lasts.when (Each.Lasts.eq _), Each.Lasts.when (Each.Lasts.eq _), Each.Lasts.eq _, Each.Lasts.eq _, Each.Lasts.when (Each.Lasts.eq _), Each.Lasts.when ((fun _ _ _ hb h => by obtain ⟨g, rfl, hr⟩ := h; exact ⟨g, rfl, hr.below hb⟩)), Each.Lasts.when (Each.Lasts.eq _), Each.Lasts.when ((fun _ _ _ hb h => by obtain ⟨g, rfl, hr⟩ := h; exact ⟨g, rfl, hr.below hb⟩)), Each.Lasts.when (Each.Lasts.eq _), Each.Lasts.eq _, Each.Lasts.eq _, Each.Lasts.when (Each.Lasts.eq _), Each.Lasts.when (Each.Lasts.eq _), Each.Lasts.when (Each.Lasts.eq _), Each.Lasts.eq _, Each.Lasts.eq _, Each.Lasts.when (Each.Lasts.eq _), Each.Lasts.when (Each.Lasts.eq _), Each.Lasts.eq _, Each.Lasts.eq _, Each.Lasts.when (Each.Lasts.eq _), Each.Lasts.when (Each.Lasts.eq _), Each.Lasts.when (Each.Lasts.eq _), Each.Lasts.eq _, Each.Lasts.eq _, Each.Lasts.when (Each.Lasts.eq _), Each.Lasts.when (Each.Lasts.eq _), Each.Lasts.when (Each.Lasts.eq _), Each.Lasts.eq _, Each.Lasts.eq _, Each.Lasts.when (Each.Lasts.eq _), Each.Lasts.when (Each.Lasts.eq _), Each.Lasts.eq _, Each.Lasts.eq _, Each.Lasts.when (Each.Lasts.eq _), Each.Lasts.when ((fun _ _ _ hb h => Reads.below h hb)), Each.Lasts.when (Each.Lasts.eq _), Each.Lasts.when (Each.Lasts.eq _), Each.Lasts.eq _, trivial⟩ ?_ ?_
  · refine ⟨?_, ?_, ?_, ?_, ?_, ?_, ?_, ?_, ?_, ?_, ?_, ?_, ?_, ?_, ?_, ?_, ?_, ?_, ?_, ?_, ?_, ?_, ?_, ?_, ?_, ?_, ?_, ?_, ?_, ?_, ?_, ?_, ?_, ?_, ?_, ?_, ?_, ?_, ?_, ?_, ?_, ?_, ?_, ?_, ?_, trivial⟩
    · refine Each.fine rfl (fun ev w1 hR hb hh => ?_)
      clear hh
      have e1 := hR.old 1 rfl
      simp only [Array.getD_eq_getD_getElem?, List.getElem?_toArray, List.getElem?_cons_succ, List.getElem?_cons_zero, Option.getD_some] at e1
      have q0 := (HA.out.below hb).c 0 _ rfl
      have q1 := (HA.out.below hb).c 1 _ rfl
      have q2 := (HA.out.below hb).c 2 _ rfl
      have q3 := (HA.out.below hb).c 3 _ rfl
      have q4 := (HA.out.below hb).c 4 _ rfl
      have q5 := (HA.out.below hb).c 5 _ rfl
      have q6 := (HA.out.below hb).c 6 _ rfl
      refine Each.Goes.same ?_
      go_simp
      try with_reducible rfl
    · refine Each.fine rfl (fun ev w1 hR hb hh => ?_)
      clear hh
      have e1 := hR.old 1 rfl
      simp only [Array.getD_eq_getD_getElem?, List.getElem?_toArray, List.getElem?_cons_succ, List.getElem?_cons_zero, Option.getD_some] at e1
      have q0 := (HA.out.below hb).c 0 _ rfl
      have q1 := (HA.out.below hb).c 1 _ rfl
      have q2 := (HA.out.below hb).c 2 _ rfl
      have q3 := (HA.out.below hb).c 3 _ rfl
      have q4 := (HA.out.below hb).c 4 _ rfl
      have q5 := (HA.out.below hb).c 5 _ rfl
      have q6 := (HA.out.below hb).c 6 _ rfl
      refine Each.Goes.same ?_
      go_simp
      try with_reducible rfl
    · refine Each.fine rfl (fun ev w1 hR hb hh => ?_)
      have e8 : (ev (.tmp 8) = .agg #[.string ⟨#[71, 69, 84]⟩, .string ⟨#[47]⟩, .int .i64 0, .slice (some ⟨w.heap.size, 0, none⟩) 1 1, .bool false, .slice none 0 0, .slice none 0 0]) := hh.at 0
      have e9 : (ev (.tmp 9) = .agg #[.string ⟨#[71, 69, 84]⟩, .string ⟨#[47]⟩, .int .i64 0, .slice (some ⟨w.heap.size, 0, none⟩) 1 1, .bool false, .slice none 0 0, .slice none 0 0]) := hh.at 1
      clear hh
      have ef := hR.func
      refine Each.Goes.enter 10 #[.agg #[.string ⟨#[71, 69, 84]⟩, .string ⟨#[47]⟩, .int .i64 0, .slice (some ⟨w.heap.size, 0, none⟩) 1 1, .bool false, .slice none 0 0, .slice none 0 0], .agg #[.string ⟨#[71, 69, 84]⟩, .string ⟨#[47]⟩, .int .i64 0, .slice (some ⟨w.heap.size, 0, none⟩) 1 1, .bool false, .slice none 0 0, .slice none 0 0]] (by go_simp) ((same_any _ _ R0 R0 w1 (HR.out.below hb) (HR.out.below hb) fit0 fit0).mono ?_)
      rintro e w2 ⟨rfl, hb2⟩
      exact ⟨_, rfl, hb2, rfl⟩
    · refine Each.fine rfl (fun ev w1 hR hb hh => ?_)
      have e10 : (ev (.tmp 10) = .bool true) := hh.at 0
      clear hh
      refine Each.Goes.same ?_
      go_simp
      try with_reducible rfl
    · refine Each.fine_when 3 11 rfl rfl (fun ev w1 hh => ?_) (fun hg ev w1 hR hb hh => ?_)
      · exact hh.at 0
      · clear hh
        have e1 := hR.old 1 rfl
        simp only [Array.getD_eq_getD_getElem?, List.getElem?_toArray, List.getElem?_cons_succ, List.getElem?_cons_zero, Option.getD_some] at e1
        have q0 := (HA.out.below hb).c 0 _ rfl
        have q1 := (HA.out.below hb).c 1 _ rfl
        have q2 := (HA.out.below hb).c 2 _ rfl
        have q3 := (HA.out.below hb).c 3 _ rfl
        have q4 := (HA.out.below hb).c 4 _ rfl
        have q5 := (HA.out.below hb).c 5 _ rfl
        have q6 := (HA.out.below hb).c 6 _ rfl
        refine Each.Goes.same ?_
        go_simp
        try with_reducible rfl
    · refine Each.fine_when 3 11 rfl rfl (fun ev w1 hh => ?_) (fun hg ev w1 hR hb hh => ?_)
      · exact hh.at 0
      · clear hh
        have e2 := hR.old 2 rfl
        simp only [Array.getD_eq_getD_getElem?, List.getElem?_toArray, List.getElem?_cons_succ, List.getElem?_cons_zero, Option.getD_some] at e2
        have q0 := (HB.out.below hb).c 0 _ rfl
        have q1 := (HB.out.below hb).c 1 _ rfl
        have q2 := (HB.out.below hb).c 2 _ rfl
        have q3 := (HB.out.below hb).c 3 _ rfl
        have q4 := (HB.out.below hb).c 4 _ rfl
        have q5 := (HB.out.below hb).c 5 _ rfl
        have q6 := (HB.out.below hb).c 6 _ rfl
        refine Each.Goes.same ?_
        go_simp
        try with_reducible rfl
    · refine Each.fine_when 3 11 rfl rfl (fun ev w1 hh => ?_) (fun hg ev w1 hR hb hh => ?_)
      · exact hh.at 2
      · have e12 := (show ((true) = true → ev (.tmp 12) = .agg #[.string ⟨#[71, 69, 84]⟩, .string ⟨#[47]⟩, .int .i64 0, .slice (some ⟨w.heap.size, 0, none⟩) 1 1, .bool false, .slice none 0 0, .slice none 0 0]) from hh.at 0) hg
        have e13 := (show ((true) = true → ev (.tmp 13) = .agg #[.string ⟨#[71, 69, 84]⟩, .string ⟨#[47]⟩, .int .i64 1, .slice (some ⟨w.heap.size, 0, none⟩) 1 1, .bool false, .slice none 0 0, .slice none 0 0]) from hh.at 1) hg
        clear hh
        have ef := hR.func
        refine Each.Goes.enter 10 #[.agg #[.string ⟨#[71, 69, 84]⟩, .string ⟨#[47]⟩, .int .i64 0, .slice (some ⟨w.heap.size, 0, none⟩) 1 1, .bool false, .slice none 0 0, .slice none 0 0], .agg #[.string ⟨#[71, 69, 84]⟩, .string ⟨#[47]⟩, .int .i64 1, .slice (some ⟨w.heap.size, 0, none⟩) 1 1, .bool false, .slice none 0 0, .slice none 0 0]] (by go_simp) ((same_any _ _ R0 R1 w1 (HR.out.below hb) (HS.out.below hb) fit0 fit1).mono ?_)
        rintro e w2 ⟨rfl, hb2⟩
        exact ⟨_, rfl, hb2, rfl⟩
    · refine Each.fine_when 3 11 rfl rfl (fun ev w1 hh => ?_) (fun hg ev w1 hR hb hh => ?_)
      · exact hh.at 1
      · have e14 := (show ((true) = true → ev (.tmp 14) = .bool false) from hh.at 0) hg
        clear hh
        refine Each.Goes.same ?_
        go_simp
        try with_reducible rfl
    · refine Each.fine rfl (fun ev w1 hR hb hh => ?_)
      have e11 : (ev (.tmp 11) = .bool true) := hh.at 0
      have h15 : ((true) = true → ev (.tmp 15) = .bool true) := hh.at 1
      clear hh
      have ec := hR.const
      refine Each.Goes.same ?_
      have e15 := h15 rfl
      go_simp
      try with_reducible rfl
    · refine Each.fine rfl (fun ev w1 hR hb hh => ?_)
      have e16 : (ev (.tmp 16) = .bool true) := hh.at 0
      clear hh
      refine Each.Goes.same ?_
      go_simp
      try with_reducible rfl
    · refine Each.fine_when 9 17 rfl rfl (fun ev w1 hh => ?_) (fun hg ev w1 hR hb hh => ?_)
      · exact hh.at 0
      · clear hh
        have e1 := hR.old 1 rfl
        simp only [Array.getD_eq_getD_getElem?, List.getElem?_toArray, List.getElem?_cons_succ, List.getElem?_cons_zero, Option.getD_some] at e1
        have q0 := (HA.out.below hb).c 0 _ rfl
        have q1 := (HA.out.below hb).c 1 _ rfl
        have q2 := (HA.out.below hb).c 2 _ rfl
        have q3 := (HA.out.below hb).c 3 _ rfl
        have q4 := (HA.out.below hb).c 4 _ rfl
        have q5 := (HA.out.below hb).c 5 _ rfl
        have q6 := (HA.out.below hb).c 6 _ rfl
        refine Each.Goes.same ?_
        go_simp
        try with_reducible rfl
    · refine Each.fine_when 9 17 rfl rfl (fun ev w1 hh => ?_) (fun hg ev w1 hR hb hh => ?_)
      · exact hh.at 1
      · have e18 := (show ((true) = true → ev (.tmp 18) = .agg #[.string ⟨#[71, 69, 84]⟩, .string ⟨#[47]⟩, .int .i64 0, .slice (some ⟨w.heap.size, 0, none⟩) 1 1, .bool false, .slice none 0 0, .slice none 0 0]) from hh.at 0) hg
        clear hh
        refine Each.Goes.value (.slice (some ⟨w1.heap.size, 0, none⟩) 1 1) (w1.alloc (.cells #[.string ⟨#[71, 69, 84]⟩, .string ⟨#[47]⟩, .int .i64 0, .slice (some ⟨w.heap.size, 0, none⟩) 1 1, .bool false, .slice none 0 0, .slice none 0 0] 25)) (by go_simp) ((Below.refl _ _).alloc (Nat.le_refl _) _) ⟨_, rfl, Recs.lit [(#[.string ⟨#[71, 69, 84]⟩, .string ⟨#[47]⟩, .int .i64 0, .slice (some ⟨w.heap.size, 0, none⟩) 1 1, .bool false, .slice none 0 0, .slice none 0 0], R0)] (Bk.new w1 _ rfl 25 _) ?_⟩
        intro p hp
        obtain rfl : p = (#[.string ⟨#[71, 69, 84]⟩, .string ⟨#[47]⟩, .int .i64 0, .slice (some ⟨w.heap.size, 0, none⟩) 1 1, .bool false, .slice none 0 0, .slice none 0 0], R0) := by simpa using hp
        exact (HR.out.below hb).below ((Below.refl _ _).alloc (Nat.le_refl _) _)
    · refine Each.fine_when 9 17 rfl rfl (fun ev w1 hh => ?_) (fun hg ev w1 hR hb hh => ?_)
      · exact hh.at 0
      · clear hh
        have e1 := hR.old 1 rfl
        simp only [Array.getD_eq_getD_getElem?, List.getElem?_toArray, List.getElem?_cons_succ, List.getElem?_cons_zero, Option.getD_some] at e1
        have q0 := (HA.out.below hb).c 0 _ rfl
        have q1 := (HA.out.below hb).c 1 _ rfl
        have q2 := (HA.out.below hb).c 2 _ rfl
        have q3 := (HA.out.below hb).c 3 _ rfl
        have q4 := (HA.out.below hb).c 4 _ rfl
        have q5 := (HA.out.below hb).c 5 _ rfl
        have q6 := (HA.out.below hb).c 6 _ rfl
        refine Each.Goes.same ?_
        go_simp
        try with_reducible rfl
    · refine Each.fine_when 9 17 rfl rfl (fun ev w1 hh => ?_) (fun hg ev w1 hR hb hh => ?_)
      · exact hh.at 1
      · have e20 := (show ((true) = true → ev (.tmp 20) = .agg #[.string ⟨#[71, 69, 84]⟩, .string ⟨#[47]⟩, .int .i64 0, .slice (some ⟨w.heap.size, 0, none⟩) 1 1, .bool false, .slice none 0 0, .slice none 0 0]) from hh.at 0) hg
        clear hh
        refine Each.Goes.value (.slice (some ⟨w1.heap.size, 0, none⟩) 1 1) (w1.alloc (.cells #[.string ⟨#[71, 69, 84]⟩, .string ⟨#[47]⟩, .int .i64 0, .slice (some ⟨w.heap.size, 0, none⟩) 1 1, .bool false, .slice none 0 0, .slice none 0 0] 25)) (by go_simp) ((Below.refl _ _).alloc (Nat.le_refl _) _) ⟨_, rfl, Recs.lit [(#[.string ⟨#[71, 69, 84]⟩, .string ⟨#[47]⟩, .int .i64 0, .slice (some ⟨w.heap.size, 0, none⟩) 1 1, .bool false, .slice none 0 0, .slice none 0 0], R0)] (Bk.new w1 _ rfl 25 _) ?_⟩
        intro p hp
        obtain rfl : p = (#[.string ⟨#[71, 69, 84]⟩, .string ⟨#[47]⟩, .int .i64 0, .slice (some ⟨w.heap.size, 0, none⟩) 1 1, .bool false, .slice none 0 0, .slice none 0 0], R0) := by simpa using hp
        exact (HR.out.below hb).below ((Below.refl _ _).alloc (Nat.le_refl _) _)
    · refine Each.fine_when 9 17 rfl rfl (fun ev w1 hh => ?_) (fun hg ev w1 hR hb hh => ?_)
      · exact hh.at 2
      · have e19 := (show ((true) = true → (fun v w => ∃ g, v = .slice (some ⟨g, 0, none⟩) 1 1 ∧ Recs w (some ⟨g, 0, none⟩) 1 [R0]) (ev (.tmp 19)) w1) from hh.at 0) hg
        have e21 := (show ((true) = true → (fun v w => ∃ g, v = .slice (some ⟨g, 0, none⟩) 1 1 ∧ Recs w (some ⟨g, 0, none⟩) 1 [R0]) (ev (.tmp 21)) w1) from hh.at 1) hg
        clear hh
        have ef := hR.func
        obtain ⟨ga, ea, ha⟩ := e19
        obtain ⟨gb, eb, hc⟩ := e21
        refine Each.Goes.enter 19 #[.slice (some ⟨ga, 0, none⟩) 1 1, .slice (some ⟨gb, 0, none⟩) 1 1] (by go_simp) ((all_any _ 1 1 [R0] _ 1 1 [R0] w1 ha hc (by decide) (by decide) fits0 fits0).mono ?_)
        rintro e w2 ⟨rfl, hb2⟩
        exact ⟨_, rfl, hb2, rfl⟩
    · refine Each.fine rfl (fun ev w1 hR hb hh => ?_)
      have e17 : (ev (.tmp 17) = .bool true) := hh.at 0
      have h22 : ((true) = true → ev (.tmp 22) = .bool true) := hh.at 1
      clear hh
      have ec := hR.const
      refine Each.Goes.same ?_
      have e22 := h22 rfl
      go_simp
      try with_reducible rfl
    · refine Each.fine rfl (fun ev w1 hR hb hh => ?_)
      have e23 : (ev (.tmp 23) = .bool true) := hh.at 0
      clear hh
      refine Each.Goes.same ?_
      go_simp
      try with_reducible rfl
    · refine Each.fine_when 16 24 rfl rfl (fun ev w1 hh => ?_) (fun hg ev w1 hR hb hh => ?_)
      · exact hh.at 0
      · clear hh
        have e1 := hR.old 1 rfl
        simp only [Array.getD_eq_getD_getElem?, List.getElem?_toArray, List.getElem?_cons_succ, List.getElem?_cons_zero, Option.getD_some] at e1
        have q0 := (HA.out.below hb).c 0 _ rfl
        have q1 := (HA.out.below hb).c 1 _ rfl
        have q2 := (HA.out.below hb).c 2 _ rfl
        have q3 := (HA.out.below hb).c 3 _ rfl
        have q4 := (HA.out.below hb).c 4 _ rfl
        have q5 := (HA.out.below hb).c 5 _ rfl
        have q6 := (HA.out.below hb).c 6 _ rfl
        refine Each.Goes.same ?_
        go_simp
        try with_reducible rfl
    · refine Each.fine_when 16 24 rfl rfl (fun ev w1 hh => ?_) (fun hg ev w1 hR hb hh => ?_)
      · exact hh.at 1
      · have e25 := (show ((true) = true → ev (.tmp 25) = .agg #[.string ⟨#[71, 69, 84]⟩, .string ⟨#[47]⟩, .int .i64 0, .slice (some ⟨w.heap.size, 0, none⟩) 1 1, .bool false, .slice none 0 0, .slice none 0 0]) from hh.at 0) hg
        clear hh
        have ef := hR.func
        refine Each.Goes.enter 12 #[.agg #[.string ⟨#[71, 69, 84]⟩, .string ⟨#[47]⟩, .int .i64 0, .slice (some ⟨w.heap.size, 0, none⟩) 1 1, .bool false, .slice none 0 0, .slice none 0 0]] (by go_simp) ((size_any _ R0 w1 (HR.out.below hb) fit0).mono ?_)
        rintro e w2 ⟨rfl, hb2⟩
        exact ⟨_, rfl, hb2, rfl⟩
    · refine Each.fine_when 16 24 rfl rfl (fun ev w1 hh => ?_) (fun hg ev w1 hR hb hh => ?_)
      · exact hh.at 1
      · have e26 := (show ((true) = true → ev (.tmp 26) = .int .i64 22) from hh.at 0) hg
        clear hh
        have ec := hR.const
        refine Each.Goes.same ?_
        go_simp
        try with_reducible rfl
    · refine Each.fine rfl (fun ev w1 hR hb hh => ?_)
      have e24 : (ev (.tmp 24) = .bool true) := hh.at 0
      have h27 : ((true) = true → ev (.tmp 27) = .bool true) := hh.at 1
      clear hh
      have ec := hR.const
      refine Each.Goes.same ?_
      have e27 := h27 rfl
      go_simp
      try with_reducible rfl
    · refine Each.fine rfl (fun ev w1 hR hb hh => ?_)
      have e28 : (ev (.tmp 28) = .bool true) := hh.at 0
      clear hh
      refine Each.Goes.same ?_
      go_simp
      try with_reducible rfl
    · refine Each.fine_when 21 29 rfl rfl (fun ev w1 hh => ?_) (fun hg ev w1 hR hb hh => ?_)
      · exact hh.at 0
      · clear hh
        have e1 := hR.old 1 rfl
        simp only [Array.getD_eq_getD_getElem?, List.getElem?_toArray, List.getElem?_cons_succ, List.getElem?_cons_zero, Option.getD_some] at e1
        have q0 := (HA.out.below hb).c 0 _ rfl
        have q1 := (HA.out.below hb).c 1 _ rfl
        have q2 := (HA.out.below hb).c 2 _ rfl
        have q3 := (HA.out.below hb).c 3 _ rfl
        have q4 := (HA.out.below hb).c 4 _ rfl
        have q5 := (HA.out.below hb).c 5 _ rfl
        have q6 := (HA.out.below hb).c 6 _ rfl
        refine Each.Goes.same ?_
        go_simp
        try with_reducible rfl
    · refine Each.fine_when 21 29 rfl rfl (fun ev w1 hh => ?_) (fun hg ev w1 hR hb hh => ?_)
      · exact hh.at 1
      · have e30 := (show ((true) = true → ev (.tmp 30) = .agg #[.string ⟨#[71, 69, 84]⟩, .string ⟨#[47]⟩, .int .i64 0, .slice (some ⟨w.heap.size, 0, none⟩) 1 1, .bool false, .slice none 0 0, .slice none 0 0]) from hh.at 0) hg
        clear hh
        have ef := hR.func
        refine Each.Goes.enter 14 #[.agg #[.string ⟨#[71, 69, 84]⟩, .string ⟨#[47]⟩, .int .i64 0, .slice (some ⟨w.heap.size, 0, none⟩) 1 1, .bool false, .slice none 0 0, .slice none 0 0]] (by go_simp) ((closes_any _ R0 w1 (HR.out.below hb) fit0).mono ?_)
        rintro e w2 ⟨rfl, hb2⟩
        exact ⟨_, rfl, hb2, rfl⟩
    · refine Each.fine rfl (fun ev w1 hR hb hh => ?_)
      have e29 : (ev (.tmp 29) = .bool true) := hh.at 0
      have h31 : ((true) = true → ev (.tmp 31) = .bool true) := hh.at 1
      clear hh
      have ec := hR.const
      refine Each.Goes.same ?_
      have e31 := h31 rfl
      go_simp
      try with_reducible rfl
    · refine Each.fine rfl (fun ev w1 hR hb hh => ?_)
      have e32 : (ev (.tmp 32) = .bool true) := hh.at 0
      clear hh
      refine Each.Goes.same ?_
      go_simp
      try with_reducible rfl
    · refine Each.fine_when 25 33 rfl rfl (fun ev w1 hh => ?_) (fun hg ev w1 hR hb hh => ?_)
      · exact hh.at 0
      · clear hh
        have e2 := hR.old 2 rfl
        simp only [Array.getD_eq_getD_getElem?, List.getElem?_toArray, List.getElem?_cons_succ, List.getElem?_cons_zero, Option.getD_some] at e2
        have q0 := (HB.out.below hb).c 0 _ rfl
        have q1 := (HB.out.below hb).c 1 _ rfl
        have q2 := (HB.out.below hb).c 2 _ rfl
        have q3 := (HB.out.below hb).c 3 _ rfl
        have q4 := (HB.out.below hb).c 4 _ rfl
        have q5 := (HB.out.below hb).c 5 _ rfl
        have q6 := (HB.out.below hb).c 6 _ rfl
        refine Each.Goes.same ?_
        go_simp
        try with_reducible rfl
    · refine Each.fine_when 25 33 rfl rfl (fun ev w1 hh => ?_) (fun hg ev w1 hR hb hh => ?_)
      · exact hh.at 1
      · have e34 := (show ((true) = true → ev (.tmp 34) = .agg #[.string ⟨#[71, 69, 84]⟩, .string ⟨#[47]⟩, .int .i64 1, .slice (some ⟨w.heap.size, 0, none⟩) 1 1, .bool false, .slice none 0 0, .slice none 0 0]) from hh.at 0) hg
        clear hh
        have ef := hR.func
        refine Each.Goes.enter 14 #[.agg #[.string ⟨#[71, 69, 84]⟩, .string ⟨#[47]⟩, .int .i64 1, .slice (some ⟨w.heap.size, 0, none⟩) 1 1, .bool false, .slice none 0 0, .slice none 0 0]] (by go_simp) ((closes_any _ R1 w1 (HS.out.below hb) fit1).mono ?_)
        rintro e w2 ⟨rfl, hb2⟩
        exact ⟨_, rfl, hb2, rfl⟩
    · refine Each.fine_when 25 33 rfl rfl (fun ev w1 hh => ?_) (fun hg ev w1 hR hb hh => ?_)
      · exact hh.at 1
      · have e35 := (show ((true) = true → ev (.tmp 35) = .bool false) from hh.at 0) hg
        clear hh
        refine Each.Goes.same ?_
        go_simp
        try with_reducible rfl
    · refine Each.fine rfl (fun ev w1 hR hb hh => ?_)
      have e33 : (ev (.tmp 33) = .bool true) := hh.at 0
      have h36 : ((true) = true → ev (.tmp 36) = .bool true) := hh.at 1
      clear hh
      have ec := hR.const
      refine Each.Goes.same ?_
      have e36 := h36 rfl
      go_simp
      try with_reducible rfl
    · refine Each.fine rfl (fun ev w1 hR hb hh => ?_)
      have e37 : (ev (.tmp 37) = .bool true) := hh.at 0
      clear hh
      refine Each.Goes.same ?_
      go_simp
      try with_reducible rfl
    · refine Each.fine_when 30 38 rfl rfl (fun ev w1 hh => ?_) (fun hg ev w1 hR hb hh => ?_)
      · exact hh.at 0
      · clear hh
        have e1 := hR.old 1 rfl
        simp only [Array.getD_eq_getD_getElem?, List.getElem?_toArray, List.getElem?_cons_succ, List.getElem?_cons_zero, Option.getD_some] at e1
        have q0 := (HA.out.below hb).c 0 _ rfl
        have q1 := (HA.out.below hb).c 1 _ rfl
        have q2 := (HA.out.below hb).c 2 _ rfl
        have q3 := (HA.out.below hb).c 3 _ rfl
        have q4 := (HA.out.below hb).c 4 _ rfl
        have q5 := (HA.out.below hb).c 5 _ rfl
        have q6 := (HA.out.below hb).c 6 _ rfl
        refine Each.Goes.same ?_
        go_simp
        try with_reducible rfl
    · refine Each.fine_when 30 38 rfl rfl (fun ev w1 hh => ?_) (fun hg ev w1 hR hb hh => ?_)
      · exact hh.at 1
      · have e39 := (show ((true) = true → ev (.tmp 39) = .agg #[.string ⟨#[71, 69, 84]⟩, .string ⟨#[47]⟩, .int .i64 0, .slice (some ⟨w.heap.size, 0, none⟩) 1 1, .bool false, .slice none 0 0, .slice none 0 0]) from hh.at 0) hg
        clear hh
        have ef := hR.func
        refine Each.Goes.enter 16 #[.agg #[.string ⟨#[71, 69, 84]⟩, .string ⟨#[47]⟩, .int .i64 0, .slice (some ⟨w.heap.size, 0, none⟩) 1 1, .bool false, .slice none 0 0, .slice none 0 0]] (by go_simp) ((expects_any _ R0 w1 (HR.out.below hb) fit0).mono ?_)
        rintro e w2 ⟨rfl, hb2⟩
        exact ⟨_, rfl, hb2, rfl⟩
    · refine Each.fine_when 30 38 rfl rfl (fun ev w1 hh => ?_) (fun hg ev w1 hR hb hh => ?_)
      · exact hh.at 1
      · have e40 := (show ((true) = true → ev (.tmp 40) = .bool false) from hh.at 0) hg
        clear hh
        refine Each.Goes.same ?_
        go_simp
        try with_reducible rfl
    · refine Each.fine rfl (fun ev w1 hR hb hh => ?_)
      have e38 : (ev (.tmp 38) = .bool true) := hh.at 0
      have h41 : ((true) = true → ev (.tmp 41) = .bool true) := hh.at 1
      clear hh
      have ec := hR.const
      refine Each.Goes.same ?_
      have e41 := h41 rfl
      go_simp
      try with_reducible rfl
    · refine Each.fine rfl (fun ev w1 hR hb hh => ?_)
      have e42 : (ev (.tmp 42) = .bool true) := hh.at 0
      clear hh
      refine Each.Goes.same ?_
      go_simp
      try with_reducible rfl
    · refine Each.fine_when 35 43 rfl rfl (fun ev w1 hh => ?_) (fun hg ev w1 hR hb hh => ?_)
      · exact hh.at 0
      · clear hh
        have e2 := hR.old 2 rfl
        simp only [Array.getD_eq_getD_getElem?, List.getElem?_toArray, List.getElem?_cons_succ, List.getElem?_cons_zero, Option.getD_some] at e2
        have q0 := (HB.out.below hb).c 0 _ rfl
        have q1 := (HB.out.below hb).c 1 _ rfl
        have q2 := (HB.out.below hb).c 2 _ rfl
        have q3 := (HB.out.below hb).c 3 _ rfl
        have q4 := (HB.out.below hb).c 4 _ rfl
        have q5 := (HB.out.below hb).c 5 _ rfl
        have q6 := (HB.out.below hb).c 6 _ rfl
        refine Each.Goes.same ?_
        go_simp
        try with_reducible rfl
    · refine Each.fine_when 35 43 rfl rfl (fun ev w1 hh => ?_) (fun hg ev w1 hR hb hh => ?_)
      · exact hh.at 1
      · have e44 := (show ((true) = true → ev (.tmp 44) = .agg #[.string ⟨#[71, 69, 84]⟩, .string ⟨#[47]⟩, .int .i64 1, .slice (some ⟨w.heap.size, 0, none⟩) 1 1, .bool false, .slice none 0 0, .slice none 0 0]) from hh.at 0) hg
        clear hh
        have ef := hR.func
        refine Each.Goes.enter 16 #[.agg #[.string ⟨#[71, 69, 84]⟩, .string ⟨#[47]⟩, .int .i64 1, .slice (some ⟨w.heap.size, 0, none⟩) 1 1, .bool false, .slice none 0 0, .slice none 0 0]] (by go_simp) ((expects_any _ R1 w1 (HS.out.below hb) fit1).mono ?_)
        rintro e w2 ⟨rfl, hb2⟩
        exact ⟨_, rfl, hb2, rfl⟩
    · refine Each.fine rfl (fun ev w1 hR hb hh => ?_)
      have e43 : (ev (.tmp 43) = .bool true) := hh.at 0
      have h45 : ((true) = true → ev (.tmp 45) = .bool true) := hh.at 1
      clear hh
      have ec := hR.const
      refine Each.Goes.same ?_
      have e45 := h45 rfl
      go_simp
      try with_reducible rfl
    · refine Each.fine rfl (fun ev w1 hR hb hh => ?_)
      have e46 : (ev (.tmp 46) = .bool true) := hh.at 0
      clear hh
      refine Each.Goes.same ?_
      go_simp
      try with_reducible rfl
    · refine Each.fine_when 39 47 rfl rfl (fun ev w1 hh => ?_) (fun hg ev w1 hR hb hh => ?_)
      · exact hh.at 0
      · clear hh
        have e2 := hR.old 2 rfl
        simp only [Array.getD_eq_getD_getElem?, List.getElem?_toArray, List.getElem?_cons_succ, List.getElem?_cons_zero, Option.getD_some] at e2
        have q0 := (HB.out.below hb).c 0 _ rfl
        have q1 := (HB.out.below hb).c 1 _ rfl
        have q2 := (HB.out.below hb).c 2 _ rfl
        have q3 := (HB.out.below hb).c 3 _ rfl
        have q4 := (HB.out.below hb).c 4 _ rfl
        have q5 := (HB.out.below hb).c 5 _ rfl
        have q6 := (HB.out.below hb).c 6 _ rfl
        refine Each.Goes.same ?_
        go_simp
        try with_reducible rfl
    · refine Each.fine_when 39 47 rfl rfl (fun ev w1 hh => ?_) (fun hg ev w1 hR hb hh => ?_)
      · exact hh.at 1
      · have e48 := (show ((true) = true → ev (.tmp 48) = .agg #[.string ⟨#[71, 69, 84]⟩, .string ⟨#[47]⟩, .int .i64 1, .slice (some ⟨w.heap.size, 0, none⟩) 1 1, .bool false, .slice none 0 0, .slice none 0 0]) from hh.at 0) hg
        clear hh
        have ef := hR.func
        refine Each.Goes.enter 18 #[.agg #[.string ⟨#[71, 69, 84]⟩, .string ⟨#[47]⟩, .int .i64 1, .slice (some ⟨w.heap.size, 0, none⟩) 1 1, .bool false, .slice none 0 0, .slice none 0 0]] (by go_simp) ((copy_any _ R1 w1 (HS.out.below hb) fit1).mono ?_)
        rintro e w2 ⟨a1, a2, a3, a4, a5, a6, rfl, ho, hb2⟩
        exact ⟨_, rfl, hb2, ho.reads⟩
    · refine Each.fine_when 39 47 rfl rfl (fun ev w1 hh => ?_) (fun hg ev w1 hR hb hh => ?_)
      · exact hh.at 0
      · clear hh
        have e2 := hR.old 2 rfl
        simp only [Array.getD_eq_getD_getElem?, List.getElem?_toArray, List.getElem?_cons_succ, List.getElem?_cons_zero, Option.getD_some] at e2
        have q0 := (HB.out.below hb).c 0 _ rfl
        have q1 := (HB.out.below hb).c 1 _ rfl
        have q2 := (HB.out.below hb).c 2 _ rfl
        have q3 := (HB.out.below hb).c 3 _ rfl
        have q4 := (HB.out.below hb).c 4 _ rfl
        have q5 := (HB.out.below hb).c 5 _ rfl
        have q6 := (HB.out.below hb).c 6 _ rfl
        refine Each.Goes.same ?_
        go_simp
        try with_reducible rfl
    · refine Each.fine_when 39 47 rfl rfl (fun ev w1 hh => ?_) (fun hg ev w1 hR hb hh => ?_)
      · exact hh.at 3
      · have e49 := (show ((true) = true → (fun v w => Reads w v R1) (ev (.tmp 49)) w1) from hh.at 0) hg
        have e50 := (show ((true) = true → ev (.tmp 50) = .agg #[.string ⟨#[71, 69, 84]⟩, .string ⟨#[47]⟩, .int .i64 1, .slice (some ⟨w.heap.size, 0, none⟩) 1 1, .bool false, .slice none 0 0, .slice none 0 0]) from hh.at 1) hg
        clear hh
        have ef := hR.func
        refine Each.Goes.enter 10 #[ev (.tmp 49), .agg #[.string ⟨#[71, 69, 84]⟩, .string ⟨#[47]⟩, .int .i64 1, .slice (some ⟨w.heap.size, 0, none⟩) 1 1, .bool false, .slice none 0 0, .slice none 0 0]] (by go_simp) ((same_any _ _ R1 R1 w1 e49 (HS.out.below hb) fit1 fit1).mono ?_)
        rintro e w2 ⟨rfl, hb2⟩
        exact ⟨_, rfl, hb2, rfl⟩
    · refine Each.fine rfl (fun ev w1 hR hb hh => ?_)
      have e47 : (ev (.tmp 47) = .bool true) := hh.at 0
      have h51 : ((true) = true → ev (.tmp 51) = .bool true) := hh.at 1
      clear hh
      have ec := hR.const
      refine Each.Goes.same ?_
      have e51 := h51 rfl
      go_simp
      try with_reducible rfl
  intro g1 w2 hb hf
  have z52 : (g1 52 = .bool true) := hf.at 44
  clear hf
  simp only [Each.putg, Act.put, List.setIfInBounds_toArray, List.set_cons_zero, List.set_cons_succ]
  rw [z52]
  simp only [Tree.grow, Tree.put1, List.getElem?_cons_zero, List.getElem?_cons_succ]
  refine Tree.assign _ (by rfl) (by rfl) ?_
  simp only [Act.put, Act.eval, Array.getD_eq_getD_getElem?, List.getElem?_toArray, List.getElem?_cons_zero, List.getElem?_cons_succ, Option.getD_some, List.setIfInBounds_toArray, List.set_cons_zero]
  refine Tree.done ?_
  go_wp2
  go_ret
  exact ⟨rfl, Base.below_step hbw0.out hb⟩
end code
end Go.Proofs.YtechehbegiinpaaDoor.Rec
