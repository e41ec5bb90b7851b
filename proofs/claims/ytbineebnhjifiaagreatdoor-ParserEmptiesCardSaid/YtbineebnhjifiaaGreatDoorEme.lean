/-
  What the proof reaches, part 5.
-/
import Derived.Test.YtbineebnhjifiaaGreatDoorEmd
/- PgKnown -/
namespace Go.Proofs.YtbineebnhjifiaaGreatDoor.Pg
open Go.RowKit Base Txt Mem Par

theorem k1_all : (Q.read 0 usual [80, 79, 83, 84, 32, 47, 97, 32, 72, 84, 84, 80, 47, 49, 46, 49, 13, 10, 72, 111, 115, 116, 58, 32, 104, 13, 10, 84, 114, 97, 110, 115, 102, 101, 114, 45, 69, 110, 99, 111, 100, 105, 110, 103, 58, 32, 99, 104, 117, 110, 107, 101, 100, 13, 10, 13, 10, 51, 13, 10, 97, 98, 99, 13, 10, 48, 13, 10, 84, 58, 32, 117, 13, 10, 13, 10, 71]).err = 0 ∧ (Q.read 0 usual [80, 79, 83, 84, 32, 47, 97, 32, 72, 84, 84, 80, 47, 49, 46, 49, 13, 10, 72, 111, 115, 116, 58, 32, 104, 13, 10, 84, 114, 97, 110, 115, 102, 101, 114, 45, 69, 110, 99, 111, 100, 105, 110, 103, 58, 32, 99, 104, 117, 110, 107, 101, 100, 13, 10, 13, 10, 51, 13, 10, 97, 98, 99, 13, 10, 48, 13, 10, 84, 58, 32, 117, 13, 10, 13, 10, 71]).clean = false ∧ (Q.read 0 usual [80, 79, 83, 84, 32, 47, 97, 32, 72, 84, 84, 80, 47, 49, 46, 49, 13, 10, 72, 111, 115, 116, 58, 32, 104, 13, 10, 84, 114, 97, 110, 115, 102, 101, 114, 45, 69, 110, 99, 111, 100, 105, 110, 103, 58, 32, 99, 104, 117, 110, 107, 101, 100, 13, 10, 13, 10, 51, 13, 10, 97, 98, 99, 13, 10, 48, 13, 10, 84, 58, 32, 117, 13, 10, 13, 10, 71]).out.map (fun r => (r.body, r.ts.length, r.ch)) = [([97, 98, 99], 1, true)] ∧ (Q.read 0 usual [80, 79, 83, 84, 32, 47, 97, 32, 72, 84, 84, 80, 47, 49, 46, 49, 13, 10, 72, 111, 115, 116, 58, 32, 104, 13, 10, 84, 114, 97, 110, 115, 102, 101, 114, 45, 69, 110, 99, 111, 100, 105, 110, 103, 58, 32, 99, 104, 117, 110, 107, 101, 100, 13, 10, 13, 10, 51, 13, 10, 97, 98, 99, 13, 10, 48, 13, 10, 84, 58, 32, 117, 13, 10, 13, 10, 71]).out.length = 1 := by decide +kernel
theorem k1_out : ∃ r : Rec.R, (Q.read 0 usual [80, 79, 83, 84, 32, 47, 97, 32, 72, 84, 84, 80, 47, 49, 46, 49, 13, 10, 72, 111, 115, 116, 58, 32, 104, 13, 10, 84, 114, 97, 110, 115, 102, 101, 114, 45, 69, 110, 99, 111, 100, 105, 110, 103, 58, 32, 99, 104, 117, 110, 107, 101, 100, 13, 10, 13, 10, 51, 13, 10, 97, 98, 99, 13, 10, 48, 13, 10, 84, 58, 32, 117, 13, 10, 13, 10, 71]).out = [r] ∧ r.body = [97, 98, 99] ∧ r.ts.length = 1 ∧ r.ch = true := by
  have h := k1_all.2.2.1
  obtain ⟨r, hr⟩ := List.length_eq_one_iff.1 k1_all.2.2.2
  rw [hr] at h
  have h2 : (r.body, r.ts.length, r.ch) = ([97, 98, 99], 1, true) := by injection h
  exact ⟨r, hr, congrArg Prod.fst h2, congrArg (fun x => x.2.1) h2, congrArg (fun x => x.2.2) h2⟩
theorem k2_all : (Q.read 0 usual [71, 69, 84, 32, 47, 32, 72, 84, 84, 80, 47, 49, 46, 49, 10]).err = 400 ∧ (Q.read 0 usual [71, 69, 84, 32, 47, 32, 72, 84, 84, 80, 47, 49, 46, 49, 10]).clean = false ∧ (Q.read 0 usual [71, 69, 84, 32, 47, 32, 72, 84, 84, 80, 47, 49, 46, 49, 10]).out.length = 0 := by decide +kernel
theorem k3_all : (Q.read 0 usual ([80, 79, 83, 84, 32, 47, 32, 72, 84, 84, 80, 47, 49, 46, 49, 13, 10, 72, 111, 115, 116, 58, 32, 104, 13, 10, 69, 120, 112, 101, 99, 116, 58, 32, 49, 48, 48, 45, 99, 111, 110, 116, 105, 110, 117, 101, 13, 10] ++ [67, 111, 110, 116, 101, 110, 116, 45, 76, 101, 110, 103, 116, 104, 58, 32, 50, 13, 10, 13, 10])).waits = true ∧ (Q.read 0 usual ([80, 79, 83, 84, 32, 47, 32, 72, 84, 84, 80, 47, 49, 46, 49, 13, 10, 72, 111, 115, 116, 58, 32, 104, 13, 10, 69, 120, 112, 101, 99, 116, 58, 32, 49, 48, 48, 45, 99, 111, 110, 116, 105, 110, 117, 101, 13, 10] ++ [67, 111, 110, 116, 101, 110, 116, 45, 76, 101, 110, 103, 116, 104, 58, 32, 50, 13, 10, 13, 10])).held = 43 ∧ (Q.read 0 usual ([80, 79, 83, 84, 32, 47, 32, 72, 84, 84, 80, 47, 49, 46, 49, 13, 10, 72, 111, 115, 116, 58, 32, 104, 13, 10, 69, 120, 112, 101, 99, 116, 58, 32, 49, 48, 48, 45, 99, 111, 110, 116, 105, 110, 117, 101, 13, 10] ++ [67, 111, 110, 116, 101, 110, 116, 45, 76, 101, 110, 103, 116, 104, 58, 32, 50, 13, 10, 13, 10])).out.length = 0 ∧ ((Q.read 0 usual ([80, 79, 83, 84, 32, 47, 32, 72, 84, 84, 80, 47, 49, 46, 49, 13, 10, 72, 111, 115, 116, 58, 32, 104, 13, 10, 69, 120, 112, 101, 99, 116, 58, 32, 49, 48, 48, 45, 99, 111, 110, 116, 105, 110, 117, 101, 13, 10] ++ [67, 111, 110, 116, 101, 110, 116, 45, 76, 101, 110, 103, 116, 104, 58, 32, 50, 13, 10, 13, 10])).told.feed 0 usual [97, 98]).out.length = 1 ∧
    ((Q.read 0 usual ([80, 79, 83, 84, 32, 47, 32, 72, 84, 84, 80, 47, 49, 46, 49, 13, 10, 72, 111, 115, 116, 58, 32, 104, 13, 10, 69, 120, 112, 101, 99, 116, 58, 32, 49, 48, 48, 45, 99, 111, 110, 116, 105, 110, 117, 101, 13, 10] ++ [67, 111, 110, 116, 101, 110, 116, 45, 76, 101, 110, 103, 116, 104, 58, 32, 50, 13, 10, 13, 10])).told.feed 0 usual [97, 98]).clean = true ∧ ((Q.read 0 usual ([80, 79, 83, 84, 32, 47, 32, 72, 84, 84, 80, 47, 49, 46, 49, 13, 10, 72, 111, 115, 116, 58, 32, 104, 13, 10, 69, 120, 112, 101, 99, 116, 58, 32, 49, 48, 48, 45, 99, 111, 110, 116, 105, 110, 117, 101, 13, 10] ++ [67, 111, 110, 116, 101, 110, 116, 45, 76, 101, 110, 103, 116, 104, 58, 32, 50, 13, 10, 13, 10])).told.feed 0 usual [97, 98]).err = 0 ∧ ((Q.read 0 usual ([80, 79, 83, 84, 32, 47, 32, 72, 84, 84, 80, 47, 49, 46, 49, 13, 10, 72, 111, 115, 116, 58, 32, 104, 13, 10, 69, 120, 112, 101, 99, 116, 58, 32, 49, 48, 48, 45, 99, 111, 110, 116, 105, 110, 117, 101, 13, 10] ++ [67, 111, 110, 116, 101, 110, 116, 45, 76, 101, 110, 103, 116, 104, 58, 32, 50, 13, 10, 13, 10])).told.feed 0 usual [97, 98]).held = 0 := by decide +kernel
section code
set_option maxHeartbeats 8000000
set_option maxRecDepth 100000
attribute [local go_sem] Base.some_undef
theorem feed_said {p : Nat} {b : Bd} {w : World} {B : Zone} {g : Nat} {L : List (Option Nat)} {x : Q} (hp : p < 4294967296) (h : At w B g p b L x) (ok : x.Ok b) (hw : x.out = []) (a : Option Addr) (ca : Nat) (ls : List (List UInt8)) (hl : Parts L w a ls) (hn : ls.length ≤ 1000000) (hle : ls.flatten.length ≤ 400000000) :
    Calls Tryz.prog 22 #[ptr g, .slice a ls.length ca] w fun r w' => ∃ o L', r = .returned o ∧ At w' B g p b L' (x.feed p b ls.flatten).told ∧ (x.feed p b ls.flatten).told.Ok b ∧ (x.feed p b ls.flatten).told.out = [] ∧ Said w' o (x.feed p b ls.flatten).out ∧ Step L L' w w' := by
  refine (feed_any hp x h ok a ca ls hl hn (by rw [hw]; simp only [List.length_nil]; omega)).mono ?_
  rintro r w' ⟨o, L', rfl, h1, h2, h3⟩
  exact ⟨o, L', rfl, h1, told_ok (Q.Ok.feed _ ok), told_out _, h2.said, h3⟩
theorem known_any (w : World) : Calls Tryz.prog 15 #[] w fun e w' => e = .returned (.bool true) ∧ Below w.heap.size w w' := by
  obtain ⟨r1, ho1, hbd1, hts1, hch1⟩ := k1_out
  have ho2 : (Q.read 0 usual [71, 69, 84, 32, 47, 32, 72, 84, 84, 80, 47, 49, 46, 49, 10]).out = [] := List.eq_nil_of_length_eq_zero k2_all.2.2
  have hc1 : ∀ w : World, (convert 22 22 (.slice (some ⟨w.heap.size, 0, none⟩) 77 77)).run Tryz.prog (w.alloc (.cells #[.int .u8 80, .int .u8 79, .int .u8 83, .int .u8 84, .int .u8 32, .int .u8 47, .int .u8 97, .int .u8 32, .int .u8 72, .int .u8 84, .int .u8 84, .int .u8 80, .int .u8 47, .int .u8 49, .int .u8 46, .int .u8 49, .int .u8 13, .int .u8 10, .int .u8 72, .int .u8 111, .int .u8 115, .int .u8 116, .int .u8 58, .int .u8 32, .int .u8 104, .int .u8 13, .int .u8 10, .int .u8 84, .int .u8 114, .int .u8 97, .int .u8 110, .int .u8 115, .int .u8 102, .int .u8 101, .int .u8 114, .int .u8 45, .int .u8 69, .int .u8 110, .int .u8 99, .int .u8 111, .int .u8 100, .int .u8 105, .int .u8 110, .int .u8 103, .int .u8 58, .int .u8 32, .int .u8 99, .int .u8 104, .int .u8 117, .int .u8 110, .int .u8 107, .int .u8 101, .int .u8 100, .int .u8 13, .int .u8 10, .int .u8 13, .int .u8 10, .int .u8 51, .int .u8 13, .int .u8 10, .int .u8 97, .int .u8 98, .int .u8 99, .int .u8 13, .int .u8 10, .int .u8 48, .int .u8 13, .int .u8 10, .int .u8 84, .int .u8 58, .int .u8 32, .int .u8 117, .int .u8 13, .int .u8 10, .int .u8 13, .int .u8 10, .int .u8 71] 5)) = .ok (.slice (some ⟨w.heap.size, 0, none⟩) 77 77) (w.alloc (.cells #[.int .u8 80, .int .u8 79, .int .u8 83, .int .u8 84, .int .u8 32, .int .u8 47, .int .u8 97, .int .u8 32, .int .u8 72, .int .u8 84, .int .u8 84, .int .u8 80, .int .u8 47, .int .u8 49, .int .u8 46, .int .u8 49, .int .u8 13, .int .u8 10, .int .u8 72, .int .u8 111, .int .u8 115, .int .u8 116, .int .u8 58, .int .u8 32, .int .u8 104, .int .u8 13, .int .u8 10, .int .u8 84, .int .u8 114, .int .u8 97, .int .u8 110, .int .u8 115, .int .u8 102, .int .u8 101, .int .u8 114, .int .u8 45, .int .u8 69, .int .u8 110, .int .u8 99, .int .u8 111, .int .u8 100, .int .u8 105, .int .u8 110, .int .u8 103, .int .u8 58, .int .u8 32, .int .u8 99, .int .u8 104, .int .u8 117, .int .u8 110, .int .u8 107, .int .u8 101, .int .u8 100, .int .u8 13, .int .u8 10, .int .u8 13, .int .u8 10, .int .u8 51, .int .u8 13, .int .u8 10, .int .u8 97, .int .u8 98, .int .u8 99, .int .u8 13, .int .u8 10, .int .u8 48, .int .u8 13, .int .u8 10, .int .u8 84, .int .u8 58, .int .u8 32, .int .u8 117, .int .u8 13, .int .u8 10, .int .u8 13, .int .u8 10, .int .u8 71] 5 (77, 78))) := fun w =>
    Lib.run_convert_bytes_const w 22 5 #[.int .u8 80, .int .u8 79, .int .u8 83, .int .u8 84, .int .u8 32, .int .u8 47, .int .u8 97, .int .u8 32, .int .u8 72, .int .u8 84, .int .u8 84, .int .u8 80, .int .u8 47, .int .u8 49, .int .u8 46, .int .u8 49, .int .u8 13, .int .u8 10, .int .u8 72, .int .u8 111, .int .u8 115, .int .u8 116, .int .u8 58, .int .u8 32, .int .u8 104, .int .u8 13, .int .u8 10, .int .u8 84, .int .u8 114, .int .u8 97, .int .u8 110, .int .u8 115, .int .u8 102, .int .u8 101, .int .u8 114, .int .u8 45, .int .u8 69, .int .u8 110, .int .u8 99, .int .u8 111, .int .u8 100, .int .u8 105, .int .u8 110, .int .u8 103, .int .u8 58, .int .u8 32, .int .u8 99, .int .u8 104, .int .u8 117, .int .u8 110, .int .u8 107, .int .u8 101, .int .u8 100, .int .u8 13, .int .u8 10, .int .u8 13, .int .u8 10, .int .u8 51, .int .u8 13, .int .u8 10, .int .u8 97, .int .u8 98, .int .u8 99, .int .u8 13, .int .u8 10, .int .u8 48, .int .u8 13, .int .u8 10, .int .u8 84, .int .u8 58, .int .u8 32, .int .u8 117, .int .u8 13, .int .u8 10, .int .u8 13, .int .u8 10, .int .u8 71] 77 77 Tryz.underlying22 Tryz.underlying5
  have hc2 : ∀ w : World, (convert 22 22 (.slice (some ⟨w.heap.size, 0, none⟩) 15 15)).run Tryz.prog (w.alloc (.cells #[.int .u8 71, .int .u8 69, .int .u8 84, .int .u8 32, .int .u8 47, .int .u8 32, .int .u8 72, .int .u8 84, .int .u8 84, .int .u8 80, .int .u8 47, .int .u8 49, .int .u8 46, .int .u8 49, .int .u8 10] 5)) = .ok (.slice (some ⟨w.heap.size, 0, none⟩) 15 15) (w.alloc (.cells #[.int .u8 71, .int .u8 69, .int .u8 84, .int .u8 32, .int .u8 47, .int .u8 32, .int .u8 72, .int .u8 84, .int .u8 84, .int .u8 80, .int .u8 47, .int .u8 49, .int .u8 46, .int .u8 49, .int .u8 10] 5 (15, 16))) := fun w =>
    Lib.run_convert_bytes_const w 22 5 #[.int .u8 71, .int .u8 69, .int .u8 84, .int .u8 32, .int .u8 47, .int .u8 32, .int .u8 72, .int .u8 84, .int .u8 84, .int .u8 80, .int .u8 47, .int .u8 49, .int .u8 46, .int .u8 49, .int .u8 10] 15 15 Tryz.underlying22 Tryz.underlying5
  have hc3 : ∀ w : World, (convert 22 22 (.slice (some ⟨w.heap.size, 0, none⟩) 48 48)).run Tryz.prog (w.alloc (.cells #[.int .u8 80, .int .u8 79, .int .u8 83, .int .u8 84, .int .u8 32, .int .u8 47, .int .u8 32, .int .u8 72, .int .u8 84, .int .u8 84, .int .u8 80, .int .u8 47, .int .u8 49, .int .u8 46, .int .u8 49, .int .u8 13, .int .u8 10, .int .u8 72, .int .u8 111, .int .u8 115, .int .u8 116, .int .u8 58, .int .u8 32, .int .u8 104, .int .u8 13, .int .u8 10, .int .u8 69, .int .u8 120, .int .u8 112, .int .u8 101, .int .u8 99, .int .u8 116, .int .u8 58, .int .u8 32, .int .u8 49, .int .u8 48, .int .u8 48, .int .u8 45, .int .u8 99, .int .u8 111, .int .u8 110, .int .u8 116, .int .u8 105, .int .u8 110, .int .u8 117, .int .u8 101, .int .u8 13, .int .u8 10] 5)) = .ok (.slice (some ⟨w.heap.size, 0, none⟩) 48 48) (w.alloc (.cells #[.int .u8 80, .int .u8 79, .int .u8 83, .int .u8 84, .int .u8 32, .int .u8 47, .int .u8 32, .int .u8 72, .int .u8 84, .int .u8 84, .int .u8 80, .int .u8 47, .int .u8 49, .int .u8 46, .int .u8 49, .int .u8 13, .int .u8 10, .int .u8 72, .int .u8 111, .int .u8 115, .int .u8 116, .int .u8 58, .int .u8 32, .int .u8 104, .int .u8 13, .int .u8 10, .int .u8 69, .int .u8 120, .int .u8 112, .int .u8 101, .int .u8 99, .int .u8 116, .int .u8 58, .int .u8 32, .int .u8 49, .int .u8 48, .int .u8 48, .int .u8 45, .int .u8 99, .int .u8 111, .int .u8 110, .int .u8 116, .int .u8 105, .int .u8 110, .int .u8 117, .int .u8 101, .int .u8 13, .int .u8 10] 5 (48, 49))) := fun w =>
    Lib.run_convert_bytes_const w 22 5 #[.int .u8 80, .int .u8 79, .int .u8 83, .int .u8 84, .int .u8 32, .int .u8 47, .int .u8 32, .int .u8 72, .int .u8 84, .int .u8 84, .int .u8 80, .int .u8 47, .int .u8 49, .int .u8 46, .int .u8 49, .int .u8 13, .int .u8 10, .int .u8 72, .int .u8 111, .int .u8 115, .int .u8 116, .int .u8 58, .int .u8 32, .int .u8 104, .int .u8 13, .int .u8 10, .int .u8 69, .int .u8 120, .int .u8 112, .int .u8 101, .int .u8 99, .int .u8 116, .int .u8 58, .int .u8 32, .int .u8 49, .int .u8 48, .int .u8 48, .int .u8 45, .int .u8 99, .int .u8 111, .int .u8 110, .int .u8 116, .int .u8 105, .int .u8 110, .int .u8 117, .int .u8 101, .int .u8 13, .int .u8 10] 48 48 Tryz.underlying22 Tryz.underlying5
  have hc4 : ∀ w : World, (convert 22 22 (.slice (some ⟨w.heap.size, 0, none⟩) 21 21)).run Tryz.prog (w.alloc (.cells #[.int .u8 67, .int .u8 111, .int .u8 110, .int .u8 116, .int .u8 101, .int .u8 110, .int .u8 116, .int .u8 45, .int .u8 76, .int .u8 101, .int .u8 110, .int .u8 103, .int .u8 116, .int .u8 104, .int .u8 58, .int .u8 32, .int .u8 50, .int .u8 13, .int .u8 10, .int .u8 13, .int .u8 10] 5)) = .ok (.slice (some ⟨w.heap.size, 0, none⟩) 21 21) (w.alloc (.cells #[.int .u8 67, .int .u8 111, .int .u8 110, .int .u8 116, .int .u8 101, .int .u8 110, .int .u8 116, .int .u8 45, .int .u8 76, .int .u8 101, .int .u8 110, .int .u8 103, .int .u8 116, .int .u8 104, .int .u8 58, .int .u8 32, .int .u8 50, .int .u8 13, .int .u8 10, .int .u8 13, .int .u8 10] 5 (21, 22))) := fun w =>
    Lib.run_convert_bytes_const w 22 5 #[.int .u8 67, .int .u8 111, .int .u8 110, .int .u8 116, .int .u8 101, .int .u8 110, .int .u8 116, .int .u8 45, .int .u8 76, .int .u8 101, .int .u8 110, .int .u8 103, .int .u8 116, .int .u8 104, .int .u8 58, .int .u8 32, .int .u8 50, .int .u8 13, .int .u8 10, .int .u8 13, .int .u8 10] 21 21 Tryz.underlying22 Tryz.underlying5
  have hc5 : ∀ w : World, (convert 22 22 (.slice (some ⟨w.heap.size, 0, none⟩) 2 2)).run Tryz.prog (w.alloc (.cells #[.int .u8 97, .int .u8 98] 5)) = .ok (.slice (some ⟨w.heap.size, 0, none⟩) 2 2) (w.alloc (.cells #[.int .u8 97, .int .u8 98] 5 (2, 3))) := fun w =>
    Lib.run_convert_bytes_const w 22 5 #[.int .u8 97, .int .u8 98] 2 2 Tryz.underlying22 Tryz.underlying5
  have HK1 : Hid (∀ w : World, Calls Tryz.prog 32 #[.int .u32 0, .agg #[.int .i64 1024, .int .i64 32, .int .i64 8192, .int .i64 65536, .int .i64 32, .int .i64 8, .int .i64 4, .int .i64 20, .bool true, .bool true], .slice (some ⟨w.heap.size, 0, none⟩) 77 77] (w.alloc (.cells #[.int .u8 80, .int .u8 79, .int .u8 83, .int .u8 84, .int .u8 32, .int .u8 47, .int .u8 97, .int .u8 32, .int .u8 72, .int .u8 84, .int .u8 84, .int .u8 80, .int .u8 47, .int .u8 49, .int .u8 46, .int .u8 49, .int .u8 13, .int .u8 10, .int .u8 72, .int .u8 111, .int .u8 115, .int .u8 116, .int .u8 58, .int .u8 32, .int .u8 104, .int .u8 13, .int .u8 10, .int .u8 84, .int .u8 114, .int .u8 97, .int .u8 110, .int .u8 115, .int .u8 102, .int .u8 101, .int .u8 114, .int .u8 45, .int .u8 69, .int .u8 110, .int .u8 99, .int .u8 111, .int .u8 100, .int .u8 105, .int .u8 110, .int .u8 103, .int .u8 58, .int .u8 32, .int .u8 99, .int .u8 104, .int .u8 117, .int .u8 110, .int .u8 107, .int .u8 101, .int .u8 100, .int .u8 13, .int .u8 10, .int .u8 13, .int .u8 10, .int .u8 51, .int .u8 13, .int .u8 10, .int .u8 97, .int .u8 98, .int .u8 99, .int .u8 13, .int .u8 10, .int .u8 48, .int .u8 13, .int .u8 10, .int .u8 84, .int .u8 58, .int .u8 32, .int .u8 117, .int .u8 13, .int .u8 10, .int .u8 13, .int .u8 10, .int .u8 71] 5 (77, 78))) fun r w' =>
      ∃ o, r = .returned (.tuple #[o, .int .i64 0, .bool false]) ∧ Said w' o [r1] ∧ Below (w.heap.size + 1) (w.alloc (.cells #[.int .u8 80, .int .u8 79, .int .u8 83, .int .u8 84, .int .u8 32, .int .u8 47, .int .u8 97, .int .u8 32, .int .u8 72, .int .u8 84, .int .u8 84, .int .u8 80, .int .u8 47, .int .u8 49, .int .u8 46, .int .u8 49, .int .u8 13, .int .u8 10, .int .u8 72, .int .u8 111, .int .u8 115, .int .u8 116, .int .u8 58, .int .u8 32, .int .u8 104, .int .u8 13, .int .u8 10, .int .u8 84, .int .u8 114, .int .u8 97, .int .u8 110, .int .u8 115, .int .u8 102, .int .u8 101, .int .u8 114, .int .u8 45, .int .u8 69, .int .u8 110, .int .u8 99, .int .u8 111, .int .u8 100, .int .u8 105, .int .u8 110, .int .u8 103, .int .u8 58, .int .u8 32, .int .u8 99, .int .u8 104, .int .u8 117, .int .u8 110, .int .u8 107, .int .u8 101, .int .u8 100, .int .u8 13, .int .u8 10, .int .u8 13, .int .u8 10, .int .u8 51, .int .u8 13, .int .u8 10, .int .u8 97, .int .u8 98, .int .u8 99, .int .u8 13, .int .u8 10, .int .u8 48, .int .u8 13, .int .u8 10, .int .u8 84, .int .u8 58, .int .u8 32, .int .u8 117, .int .u8 13, .int .u8 10, .int .u8 13, .int .u8 10, .int .u8 71] 5 (77, 78))) w') := Lib.hid fun w => by
    have h := read_said (p := 0) (by decide) usual (w.alloc (.cells #[.int .u8 80, .int .u8 79, .int .u8 83, .int .u8 84, .int .u8 32, .int .u8 47, .int .u8 97, .int .u8 32, .int .u8 72, .int .u8 84, .int .u8 84, .int .u8 80, .int .u8 47, .int .u8 49, .int .u8 46, .int .u8 49, .int .u8 13, .int .u8 10, .int .u8 72, .int .u8 111, .int .u8 115, .int .u8 116, .int .u8 58, .int .u8 32, .int .u8 104, .int .u8 13, .int .u8 10, .int .u8 84, .int .u8 114, .int .u8 97, .int .u8 110, .int .u8 115, .int .u8 102, .int .u8 101, .int .u8 114, .int .u8 45, .int .u8 69, .int .u8 110, .int .u8 99, .int .u8 111, .int .u8 100, .int .u8 105, .int .u8 110, .int .u8 103, .int .u8 58, .int .u8 32, .int .u8 99, .int .u8 104, .int .u8 117, .int .u8 110, .int .u8 107, .int .u8 101, .int .u8 100, .int .u8 13, .int .u8 10, .int .u8 13, .int .u8 10, .int .u8 51, .int .u8 13, .int .u8 10, .int .u8 97, .int .u8 98, .int .u8 99, .int .u8 13, .int .u8 10, .int .u8 48, .int .u8 13, .int .u8 10, .int .u8 84, .int .u8 58, .int .u8 32, .int .u8 117, .int .u8 13, .int .u8 10, .int .u8 13, .int .u8 10, .int .u8 71] 5 (77, 78))) (some ⟨w.heap.size, 0, none⟩) 77 [80, 79, 83, 84, 32, 47, 97, 32, 72, 84, 84, 80, 47, 49, 46, 49, 13, 10, 72, 111, 115, 116, 58, 32, 104, 13, 10, 84, 114, 97, 110, 115, 102, 101, 114, 45, 69, 110, 99, 111, 100, 105, 110, 103, 58, 32, 99, 104, 117, 110, 107, 101, 100, 13, 10, 13, 10, 51, 13, 10, 97, 98, 99, 13, 10, 48, 13, 10, 84, 58, 32, 117, 13, 10, 13, 10, 71] (Bts.lit (in_nil w) [80, 79, 83, 84, 32, 47, 97, 32, 72, 84, 84, 80, 47, 49, 46, 49, 13, 10, 72, 111, 115, 116, 58, 32, 104, 13, 10, 84, 114, 97, 110, 115, 102, 101, 114, 45, 69, 110, 99, 111, 100, 105, 110, 103, 58, 32, 99, 104, 117, 110, 107, 101, 100, 13, 10, 13, 10, 51, 13, 10, 97, 98, 99, 13, 10, 48, 13, 10, 84, 58, 32, 117, 13, 10, 13, 10, 71] #[.int .u8 80, .int .u8 79, .int .u8 83, .int .u8 84, .int .u8 32, .int .u8 47, .int .u8 97, .int .u8 32, .int .u8 72, .int .u8 84, .int .u8 84, .int .u8 80, .int .u8 47, .int .u8 49, .int .u8 46, .int .u8 49, .int .u8 13, .int .u8 10, .int .u8 72, .int .u8 111, .int .u8 115, .int .u8 116, .int .u8 58, .int .u8 32, .int .u8 104, .int .u8 13, .int .u8 10, .int .u8 84, .int .u8 114, .int .u8 97, .int .u8 110, .int .u8 115, .int .u8 102, .int .u8 101, .int .u8 114, .int .u8 45, .int .u8 69, .int .u8 110, .int .u8 99, .int .u8 111, .int .u8 100, .int .u8 105, .int .u8 110, .int .u8 103, .int .u8 58, .int .u8 32, .int .u8 99, .int .u8 104, .int .u8 117, .int .u8 110, .int .u8 107, .int .u8 101, .int .u8 100, .int .u8 13, .int .u8 10, .int .u8 13, .int .u8 10, .int .u8 51, .int .u8 13, .int .u8 10, .int .u8 97, .int .u8 98, .int .u8 99, .int .u8 13, .int .u8 10, .int .u8 48, .int .u8 13, .int .u8 10, .int .u8 84, .int .u8 58, .int .u8 32, .int .u8 117, .int .u8 13, .int .u8 10, .int .u8 13, .int .u8 10, .int .u8 71] (by kernel_rfl) 5 (77, 78)) (by decide) 0 false [r1] k1_all.1 k1_all.2.1 ho1
    have hs : (w.alloc (.cells #[.int .u8 80, .int .u8 79, .int .u8 83, .int .u8 84, .int .u8 32, .int .u8 47, .int .u8 97, .int .u8 32, .int .u8 72, .int .u8 84, .int .u8 84, .int .u8 80, .int .u8 47, .int .u8 49, .int .u8 46, .int .u8 49, .int .u8 13, .int .u8 10, .int .u8 72, .int .u8 111, .int .u8 115, .int .u8 116, .int .u8 58, .int .u8 32, .int .u8 104, .int .u8 13, .int .u8 10, .int .u8 84, .int .u8 114, .int .u8 97, .int .u8 110, .int .u8 115, .int .u8 102, .int .u8 101, .int .u8 114, .int .u8 45, .int .u8 69, .int .u8 110, .int .u8 99, .int .u8 111, .int .u8 100, .int .u8 105, .int .u8 110, .int .u8 103, .int .u8 58, .int .u8 32, .int .u8 99, .int .u8 104, .int .u8 117, .int .u8 110, .int .u8 107, .int .u8 101, .int .u8 100, .int .u8 13, .int .u8 10, .int .u8 13, .int .u8 10, .int .u8 51, .int .u8 13, .int .u8 10, .int .u8 97, .int .u8 98, .int .u8 99, .int .u8 13, .int .u8 10, .int .u8 48, .int .u8 13, .int .u8 10, .int .u8 84, .int .u8 58, .int .u8 32, .int .u8 117, .int .u8 13, .int .u8 10, .int .u8 13, .int .u8 10, .int .u8 71] 5 (77, 78))).heap.size = w.heap.size + 1 := by simp
    rw [hs] at h
    exact h
  have HK2 : Hid (∀ w : World, Calls Tryz.prog 32 #[.int .u32 0, .agg #[.int .i64 1024, .int .i64 32, .int .i64 8192, .int .i64 65536, .int .i64 32, .int .i64 8, .int .i64 4, .int .i64 20, .bool true, .bool true], .slice (some ⟨w.heap.size, 0, none⟩) 15 15] (w.alloc (.cells #[.int .u8 71, .int .u8 69, .int .u8 84, .int .u8 32, .int .u8 47, .int .u8 32, .int .u8 72, .int .u8 84, .int .u8 84, .int .u8 80, .int .u8 47, .int .u8 49, .int .u8 46, .int .u8 49, .int .u8 10] 5 (15, 16))) fun r w' =>
      ∃ o, r = .returned (.tuple #[o, .int .i64 400, .bool false]) ∧ Said w' o [] ∧ Below (w.heap.size + 1) (w.alloc (.cells #[.int .u8 71, .int .u8 69, .int .u8 84, .int .u8 32, .int .u8 47, .int .u8 32, .int .u8 72, .int .u8 84, .int .u8 84, .int .u8 80, .int .u8 47, .int .u8 49, .int .u8 46, .int .u8 49, .int .u8 10] 5 (15, 16))) w') := Lib.hid fun w => by
    have h := read_said (p := 0) (by decide) usual (w.alloc (.cells #[.int .u8 71, .int .u8 69, .int .u8 84, .int .u8 32, .int .u8 47, .int .u8 32, .int .u8 72, .int .u8 84, .int .u8 84, .int .u8 80, .int .u8 47, .int .u8 49, .int .u8 46, .int .u8 49, .int .u8 10] 5 (15, 16))) (some ⟨w.heap.size, 0, none⟩) 15 [71, 69, 84, 32, 47, 32, 72, 84, 84, 80, 47, 49, 46, 49, 10] (Bts.lit (in_nil w) [71, 69, 84, 32, 47, 32, 72, 84, 84, 80, 47, 49, 46, 49, 10] #[.int .u8 71, .int .u8 69, .int .u8 84, .int .u8 32, .int .u8 47, .int .u8 32, .int .u8 72, .int .u8 84, .int .u8 84, .int .u8 80, .int .u8 47, .int .u8 49, .int .u8 46, .int .u8 49, .int .u8 10] (by kernel_rfl) 5 (15, 16)) (by decide) 400 false [] k2_all.1 k2_all.2.1 ho2
    have hs : (w.alloc (.cells #[.int .u8 71, .int .u8 69, .int .u8 84, .int .u8 32, .int .u8 47, .int .u8 32, .int .u8 72, .int .u8 84, .int .u8 84, .int .u8 80, .int .u8 47, .int .u8 49, .int .u8 46, .int .u8 49, .int .u8 10] 5 (15, 16))).heap.size = w.heap.size + 1 := by simp
    rw [hs] at h
    exact h
  have HBD := Lib.hid hbd1; have HTS := Lib.hid hts1; have HCH := Lib.hid hch1
  clear ho1 ho2 hbd1 hts1 hch1
  go_enter Tryz.func15, Tryz.ntmps15
  go_upto_region 2 with (go_at_call 34; with_reducible refine (Bnd.rusual_any _).mono ?_; rintro r w1 ⟨rfl, hb⟩; have HB1 := Lib.hid hb; clear hb)
  have HZ1 := Lib.hid (Rec.Bk.new w1 w1.heap.size rfl 29 [.int .i64 1024, .int .i64 32, .int .i64 8192, .int .i64 65536, .int .i64 32, .int .i64 8, .int .i64 4, .int .i64 20, .bool true, .bool true])
  have HBW1 := Lib.hid (HB1.out.alloc HB1.out.size (.cells #[.int .i64 1024, .int .i64 32, .int .i64 8192, .int .i64 65536, .int .i64 32, .int .i64 8, .int .i64 4, .int .i64 20, .bool true, .bool true] 29))
  generalize w1.alloc (.cells #[.int .i64 1024, .int .i64 32, .int .i64 8192, .int .i64 65536, .int .i64 32, .int .i64 8, .int .i64 4, .int .i64 20, .bool true, .bool true] 29) = W1 at *
  generalize w1.heap.size = gB at *
  have y0 := HZ1.out.c 0 _ rfl; have y1 := HZ1.out.c 1 _ rfl; have y2 := HZ1.out.c 2 _ rfl; have y3 := HZ1.out.c 3 _ rfl; have y4 := HZ1.out.c 4 _ rfl; have y5 := HZ1.out.c 5 _ rfl; have y6 := HZ1.out.c 6 _ rfl; have y7 := HZ1.out.c 7 _ rfl; have y8 := HZ1.out.c 8 _ rfl; have y9 := HZ1.out.c 9 _ rfl
  go_upto_region 3 with
    (go_at_call 32; with_reducible refine (HK1.out _).mono ?_; rintro r w2 ⟨o1, rfl, hT, hb⟩
     have hb2 : Below W1.heap.size W1 w2 := ((Below.refl _ _).alloc (Nat.le_refl _) _).trans (hb.mono (Nat.le_succ _))
     have HT2 := Lib.hid hT; have HZ2 := Lib.hid (HZ1.out.below hb2); have HB2 := Lib.hid (Base.below_step HBW1.out hb2)
     clear hb hb2 hT y0 y1 y2 y3 y4 y5 y6 y7 y8 y9)
  have y0 := HZ2.out.c 0 _ rfl; have y1 := HZ2.out.c 1 _ rfl; have y2 := HZ2.out.c 2 _ rfl; have y3 := HZ2.out.c 3 _ rfl; have y4 := HZ2.out.c 4 _ rfl; have y5 := HZ2.out.c 5 _ rfl; have y6 := HZ2.out.c 6 _ rfl; have y7 := HZ2.out.c 7 _ rfl; have y8 := HZ2.out.c 8 _ rfl; have y9 := HZ2.out.c 9 _ rfl
  clear HZ1 HBW1 HK1 hc1
  go_upto_region 4 with
    (go_at_call 32; with_reducible refine (HK2.out _).mono ?_; rintro r w3 ⟨o2, rfl, hT, hb⟩
     have hb2 : Below w2.heap.size w2 w3 := ((Below.refl _ _).alloc (Nat.le_refl _) _).trans (hb.mono (Nat.le_succ _))
     have HT3 := Lib.hid (HT2.out.below hb2); have HZ3 := Lib.hid (HZ2.out.below hb2); have HB3 := Lib.hid (Base.below_step HB2.out hb2)
     clear hb hb2 hT y0 y1 y2 y3 y4 y5 y6 y7 y8 y9)
  have y0 := HZ3.out.c 0 _ rfl; have y1 := HZ3.out.c 1 _ rfl; have y2 := HZ3.out.c 2 _ rfl; have y3 := HZ3.out.c 3 _ rfl; have y4 := HZ3.out.c 4 _ rfl; have y5 := HZ3.out.c 5 _ rfl; have y6 := HZ3.out.c 6 _ rfl; have y7 := HZ3.out.c 7 _ rfl; have y8 := HZ3.out.c 8 _ rfl; have y9 := HZ3.out.c 9 _ rfl
  clear HZ2 HB2 HT2 HK2 hc2
  have HNW : Hid (Calls Tryz.prog 20 #[.int .u32 0, .agg #[.int .i64 1024, .int .i64 32, .int .i64 8192, .int .i64 65536, .int .i64 32, .int .i64 8, .int .i64 4, .int .i64 20, .bool true, .bool true]] w3 fun r w' => ∃ g L', r = .returned (ptr g) ∧ w3.heap.size ≤ g ∧ At w' ⟨w3.heap.size, []⟩ g 0 usual L' (Q.new 0 usual) ∧ Below w3.heap.size w3 w') := Lib.hid (new_any (p := 0) (b := usual) (by decide) w3)
  go_upto_region 5 with
    (go_at_call 20; with_reducible refine HNW.out.mono ?_; rintro r w4 ⟨g, L4, rfl, hg, hA, hb⟩
     have HA4 := Lib.hid hA; have HL4 := Lib.hid hb
     clear hA hb hg y0 y1 y2 y3 y4 y5 y6 y7 y8 y9)
  clear HZ3 HNW
  go_upto_region 7 with fail
  have hc4w := hc4 (w4.alloc (.cells #[.int .u8 80, .int .u8 79, .int .u8 83, .int .u8 84, .int .u8 32, .int .u8 47, .int .u8 32, .int .u8 72, .int .u8 84, .int .u8 84, .int .u8 80, .int .u8 47, .int .u8 49, .int .u8 46, .int .u8 49, .int .u8 13, .int .u8 10, .int .u8 72, .int .u8 111, .int .u8 115, .int .u8 116, .int .u8 58, .int .u8 32, .int .u8 104, .int .u8 13, .int .u8 10, .int .u8 69, .int .u8 120, .int .u8 112, .int .u8 101, .int .u8 99, .int .u8 116, .int .u8 58, .int .u8 32, .int .u8 49, .int .u8 48, .int .u8 48, .int .u8 45, .int .u8 99, .int .u8 111, .int .u8 110, .int .u8 116, .int .u8 105, .int .u8 110, .int .u8 117, .int .u8 101, .int .u8 13, .int .u8 10] 5 (48, 49)))
  rw [show (w4.alloc (.cells #[.int .u8 80, .int .u8 79, .int .u8 83, .int .u8 84, .int .u8 32, .int .u8 47, .int .u8 32, .int .u8 72, .int .u8 84, .int .u8 84, .int .u8 80, .int .u8 47, .int .u8 49, .int .u8 46, .int .u8 49, .int .u8 13, .int .u8 10, .int .u8 72, .int .u8 111, .int .u8 115, .int .u8 116, .int .u8 58, .int .u8 32, .int .u8 104, .int .u8 13, .int .u8 10, .int .u8 69, .int .u8 120, .int .u8 112, .int .u8 101, .int .u8 99, .int .u8 116, .int .u8 58, .int .u8 32, .int .u8 49, .int .u8 48, .int .u8 48, .int .u8 45, .int .u8 99, .int .u8 111, .int .u8 110, .int .u8 116, .int .u8 105, .int .u8 110, .int .u8 117, .int .u8 101, .int .u8 13, .int .u8 10] 5 (48, 49))).heap.size = w4.heap.size + 1 by simp] at hc4w
  clear hc4
  have hP : Parts L4 (((w4.alloc (.cells #[.int .u8 80, .int .u8 79, .int .u8 83, .int .u8 84, .int .u8 32, .int .u8 47, .int .u8 32, .int .u8 72, .int .u8 84, .int .u8 84, .int .u8 80, .int .u8 47, .int .u8 49, .int .u8 46, .int .u8 49, .int .u8 13, .int .u8 10, .int .u8 72, .int .u8 111, .int .u8 115, .int .u8 116, .int .u8 58, .int .u8 32, .int .u8 104, .int .u8 13, .int .u8 10, .int .u8 69, .int .u8 120, .int .u8 112, .int .u8 101, .int .u8 99, .int .u8 116, .int .u8 58, .int .u8 32, .int .u8 49, .int .u8 48, .int .u8 48, .int .u8 45, .int .u8 99, .int .u8 111, .int .u8 110, .int .u8 116, .int .u8 105, .int .u8 110, .int .u8 117, .int .u8 101, .int .u8 13, .int .u8 10] 5 (48, 49))).alloc (.cells #[.int .u8 67, .int .u8 111, .int .u8 110, .int .u8 116, .int .u8 101, .int .u8 110, .int .u8 116, .int .u8 45, .int .u8 76, .int .u8 101, .int .u8 110, .int .u8 103, .int .u8 116, .int .u8 104, .int .u8 58, .int .u8 32, .int .u8 50, .int .u8 13, .int .u8 10, .int .u8 13, .int .u8 10] 5 (21, 22))).alloc (.cells #[.slice (some ⟨w4.heap.size, 0, none⟩) 48 48, .slice (some ⟨w4.heap.size + 1, 0, none⟩) 21 21] 22)) (some ⟨w4.heap.size + 2, 0, none⟩) [[80, 79, 83, 84, 32, 47, 32, 72, 84, 84, 80, 47, 49, 46, 49, 13, 10, 72, 111, 115, 116, 58, 32, 104, 13, 10, 69, 120, 112, 101, 99, 116, 58, 32, 49, 48, 48, 45, 99, 111, 110, 116, 105, 110, 117, 101, 13, 10], [67, 111, 110, 116, 101, 110, 116, 45, 76, 101, 110, 103, 116, 104, 58, 32, 50, 13, 10, 13, 10]] := by
    have hin := HA4.out.in
    have h1 := Bts.lit hin [80, 79, 83, 84, 32, 47, 32, 72, 84, 84, 80, 47, 49, 46, 49, 13, 10, 72, 111, 115, 116, 58, 32, 104, 13, 10, 69, 120, 112, 101, 99, 116, 58, 32, 49, 48, 48, 45, 99, 111, 110, 116, 105, 110, 117, 101, 13, 10] #[.int .u8 80, .int .u8 79, .int .u8 83, .int .u8 84, .int .u8 32, .int .u8 47, .int .u8 32, .int .u8 72, .int .u8 84, .int .u8 84, .int .u8 80, .int .u8 47, .int .u8 49, .int .u8 46, .int .u8 49, .int .u8 13, .int .u8 10, .int .u8 72, .int .u8 111, .int .u8 115, .int .u8 116, .int .u8 58, .int .u8 32, .int .u8 104, .int .u8 13, .int .u8 10, .int .u8 69, .int .u8 120, .int .u8 112, .int .u8 101, .int .u8 99, .int .u8 116, .int .u8 58, .int .u8 32, .int .u8 49, .int .u8 48, .int .u8 48, .int .u8 45, .int .u8 99, .int .u8 111, .int .u8 110, .int .u8 116, .int .u8 105, .int .u8 110, .int .u8 117, .int .u8 101, .int .u8 13, .int .u8 10] (by kernel_rfl) 5 (48, 49)
    have hin1 := in_alloc hin (.cells #[.int .u8 80, .int .u8 79, .int .u8 83, .int .u8 84, .int .u8 32, .int .u8 47, .int .u8 32, .int .u8 72, .int .u8 84, .int .u8 84, .int .u8 80, .int .u8 47, .int .u8 49, .int .u8 46, .int .u8 49, .int .u8 13, .int .u8 10, .int .u8 72, .int .u8 111, .int .u8 115, .int .u8 116, .int .u8 58, .int .u8 32, .int .u8 104, .int .u8 13, .int .u8 10, .int .u8 69, .int .u8 120, .int .u8 112, .int .u8 101, .int .u8 99, .int .u8 116, .int .u8 58, .int .u8 32, .int .u8 49, .int .u8 48, .int .u8 48, .int .u8 45, .int .u8 99, .int .u8 111, .int .u8 110, .int .u8 116, .int .u8 105, .int .u8 110, .int .u8 117, .int .u8 101, .int .u8 13, .int .u8 10] 5 (48, 49))
    have h2 := Bts.lit hin1 [67, 111, 110, 116, 101, 110, 116, 45, 76, 101, 110, 103, 116, 104, 58, 32, 50, 13, 10, 13, 10] #[.int .u8 67, .int .u8 111, .int .u8 110, .int .u8 116, .int .u8 101, .int .u8 110, .int .u8 116, .int .u8 45, .int .u8 76, .int .u8 101, .int .u8 110, .int .u8 103, .int .u8 116, .int .u8 104, .int .u8 58, .int .u8 32, .int .u8 50, .int .u8 13, .int .u8 10, .int .u8 13, .int .u8 10] (by kernel_rfl) 5 (21, 22)
    have e1 : (w4.alloc (.cells #[.int .u8 80, .int .u8 79, .int .u8 83, .int .u8 84, .int .u8 32, .int .u8 47, .int .u8 32, .int .u8 72, .int .u8 84, .int .u8 84, .int .u8 80, .int .u8 47, .int .u8 49, .int .u8 46, .int .u8 49, .int .u8 13, .int .u8 10, .int .u8 72, .int .u8 111, .int .u8 115, .int .u8 116, .int .u8 58, .int .u8 32, .int .u8 104, .int .u8 13, .int .u8 10, .int .u8 69, .int .u8 120, .int .u8 112, .int .u8 101, .int .u8 99, .int .u8 116, .int .u8 58, .int .u8 32, .int .u8 49, .int .u8 48, .int .u8 48, .int .u8 45, .int .u8 99, .int .u8 111, .int .u8 110, .int .u8 116, .int .u8 105, .int .u8 110, .int .u8 117, .int .u8 101, .int .u8 13, .int .u8 10] 5 (48, 49))).heap.size = w4.heap.size + 1 := by simp
    have e2 : ((w4.alloc (.cells #[.int .u8 80, .int .u8 79, .int .u8 83, .int .u8 84, .int .u8 32, .int .u8 47, .int .u8 32, .int .u8 72, .int .u8 84, .int .u8 84, .int .u8 80, .int .u8 47, .int .u8 49, .int .u8 46, .int .u8 49, .int .u8 13, .int .u8 10, .int .u8 72, .int .u8 111, .int .u8 115, .int .u8 116, .int .u8 58, .int .u8 32, .int .u8 104, .int .u8 13, .int .u8 10, .int .u8 69, .int .u8 120, .int .u8 112, .int .u8 101, .int .u8 99, .int .u8 116, .int .u8 58, .int .u8 32, .int .u8 49, .int .u8 48, .int .u8 48, .int .u8 45, .int .u8 99, .int .u8 111, .int .u8 110, .int .u8 116, .int .u8 105, .int .u8 110, .int .u8 117, .int .u8 101, .int .u8 13, .int .u8 10] 5 (48, 49))).alloc (.cells #[.int .u8 67, .int .u8 111, .int .u8 110, .int .u8 116, .int .u8 101, .int .u8 110, .int .u8 116, .int .u8 45, .int .u8 76, .int .u8 101, .int .u8 110, .int .u8 103, .int .u8 116, .int .u8 104, .int .u8 58, .int .u8 32, .int .u8 50, .int .u8 13, .int .u8 10, .int .u8 13, .int .u8 10] 5 (21, 22))).heap.size = w4.heap.size + 2 := by simp
    rw [e1] at h2
    have h3 := Parts.two (c := 48) (c' := 21) (h1.alloc (.cells #[.int .u8 67, .int .u8 111, .int .u8 110, .int .u8 116, .int .u8 101, .int .u8 110, .int .u8 116, .int .u8 45, .int .u8 76, .int .u8 101, .int .u8 110, .int .u8 103, .int .u8 116, .int .u8 104, .int .u8 58, .int .u8 32, .int .u8 50, .int .u8 13, .int .u8 10, .int .u8 13, .int .u8 10] 5 (21, 22))) h2 (in_alloc hin1 _) 22
    rw [e2] at h3
    exact h3
  obtain ⟨W7, hW7⟩ : ∃ W7, ((w4.alloc (.cells #[.int .u8 80, .int .u8 79, .int .u8 83, .int .u8 84, .int .u8 32, .int .u8 47, .int .u8 32, .int .u8 72, .int .u8 84, .int .u8 84, .int .u8 80, .int .u8 47, .int .u8 49, .int .u8 46, .int .u8 49, .int .u8 13, .int .u8 10, .int .u8 72, .int .u8 111, .int .u8 115, .int .u8 116, .int .u8 58, .int .u8 32, .int .u8 104, .int .u8 13, .int .u8 10, .int .u8 69, .int .u8 120, .int .u8 112, .int .u8 101, .int .u8 99, .int .u8 116, .int .u8 58, .int .u8 32, .int .u8 49, .int .u8 48, .int .u8 48, .int .u8 45, .int .u8 99, .int .u8 111, .int .u8 110, .int .u8 116, .int .u8 105, .int .u8 110, .int .u8 117, .int .u8 101, .int .u8 13, .int .u8 10] 5 (48, 49))).alloc (.cells #[.int .u8 67, .int .u8 111, .int .u8 110, .int .u8 116, .int .u8 101, .int .u8 110, .int .u8 116, .int .u8 45, .int .u8 76, .int .u8 101, .int .u8 110, .int .u8 103, .int .u8 116, .int .u8 104, .int .u8 58, .int .u8 32, .int .u8 50, .int .u8 13, .int .u8 10, .int .u8 13, .int .u8 10] 5 (21, 22))).alloc (.cells #[.slice (some ⟨w4.heap.size, 0, none⟩) 48 48, .slice (some ⟨w4.heap.size + 1, 0, none⟩) 21 21] 22) = W7 := ⟨_, rfl⟩
  have hb7 : Below w4.heap.size w4 W7 := by
    rw [← hW7]
    exact ((((Below.refl w4.heap.size w4).alloc (Nat.le_refl _) (.cells #[.int .u8 80, .int .u8 79, .int .u8 83, .int .u8 84, .int .u8 32, .int .u8 47, .int .u8 32, .int .u8 72, .int .u8 84, .int .u8 84, .int .u8 80, .int .u8 47, .int .u8 49, .int .u8 46, .int .u8 49, .int .u8 13, .int .u8 10, .int .u8 72, .int .u8 111, .int .u8 115, .int .u8 116, .int .u8 58, .int .u8 32, .int .u8 104, .int .u8 13, .int .u8 10, .int .u8 69, .int .u8 120, .int .u8 112, .int .u8 101, .int .u8 99, .int .u8 116, .int .u8 58, .int .u8 32, .int .u8 49, .int .u8 48, .int .u8 48, .int .u8 45, .int .u8 99, .int .u8 111, .int .u8 110, .int .u8 116, .int .u8 105, .int .u8 110, .int .u8 117, .int .u8 101, .int .u8 13, .int .u8 10] 5 (48, 49))).alloc (by simp) (.cells #[.int .u8 67, .int .u8 111, .int .u8 110, .int .u8 116, .int .u8 101, .int .u8 110, .int .u8 116, .int .u8 45, .int .u8 76, .int .u8 101, .int .u8 110, .int .u8 103, .int .u8 116, .int .u8 104, .int .u8 58, .int .u8 32, .int .u8 50, .int .u8 13, .int .u8 10, .int .u8 13, .int .u8 10] 5 (21, 22))).alloc (by simp; omega) (.cells #[.slice (some ⟨w4.heap.size, 0, none⟩) 48 48, .slice (some ⟨w4.heap.size + 1, 0, none⟩) 21 21] 22))
  rw [hW7] at hP
  have hf := feed_said (by decide) (HA4.out.below hb7) (Q.new_ok 0 usual) (by unfold Q.new; split <;> rfl) (some ⟨w4.heap.size + 2, 0, none⟩) 2 [[80, 79, 83, 84, 32, 47, 32, 72, 84, 84, 80, 47, 49, 46, 49, 13, 10, 72, 111, 115, 116, 58, 32, 104, 13, 10, 69, 120, 112, 101, 99, 116, 58, 32, 49, 48, 48, 45, 99, 111, 110, 116, 105, 110, 117, 101, 13, 10], [67, 111, 110, 116, 101, 110, 116, 45, 76, 101, 110, 103, 116, 104, 58, 32, 50, 13, 10, 13, 10]] hP (by decide) (by decide)
  rw [show ([[80, 79, 83, 84, 32, 47, 32, 72, 84, 84, 80, 47, 49, 46, 49, 13, 10, 72, 111, 115, 116, 58, 32, 104, 13, 10, 69, 120, 112, 101, 99, 116, 58, 32, 49, 48, 48, 45, 99, 111, 110, 116, 105, 110, 117, 101, 13, 10], [67, 111, 110, 116, 101, 110, 116, 45, 76, 101, 110, 103, 116, 104, 58, 32, 50, 13, 10, 13, 10]] : List (List UInt8)).flatten = [80, 79, 83, 84, 32, 47, 32, 72, 84, 84, 80, 47, 49, 46, 49, 13, 10, 72, 111, 115, 116, 58, 32, 104, 13, 10, 69, 120, 112, 101, 99, 116, 58, 32, 49, 48, 48, 45, 99, 111, 110, 116, 105, 110, 117, 101, 13, 10] ++ [67, 111, 110, 116, 101, 110, 116, 45, 76, 101, 110, 103, 116, 104, 58, 32, 50, 13, 10, 13, 10] from rfl] at hf
  have k3 := k3_all
  rw [show Q.feed 0 usual (Q.new 0 usual) ([80, 79, 83, 84, 32, 47, 32, 72, 84, 84, 80, 47, 49, 46, 49, 13, 10, 72, 111, 115, 116, 58, 32, 104, 13, 10, 69, 120, 112, 101, 99, 116, 58, 32, 49, 48, 48, 45, 99, 111, 110, 116, 105, 110, 117, 101, 13, 10] ++ [67, 111, 110, 116, 101, 110, 116, 45, 76, 101, 110, 103, 116, 104, 58, 32, 50, 13, 10, 13, 10]) = Q.read 0 usual ([80, 79, 83, 84, 32, 47, 32, 72, 84, 84, 80, 47, 49, 46, 49, 13, 10, 72, 111, 115, 116, 58, 32, 104, 13, 10, 69, 120, 112, 101, 99, 116, 58, 32, 49, 48, 48, 45, 99, 111, 110, 116, 105, 110, 117, 101, 13, 10] ++ [67, 111, 110, 116, 101, 110, 116, 45, 76, 101, 110, 103, 116, 104, 58, 32, 50, 13, 10, 13, 10]) from rfl] at hf
  obtain ⟨X, hX⟩ : ∃ X, Q.read 0 usual ([80, 79, 83, 84, 32, 47, 32, 72, 84, 84, 80, 47, 49, 46, 49, 13, 10, 72, 111, 115, 116, 58, 32, 104, 13, 10, 69, 120, 112, 101, 99, 116, 58, 32, 49, 48, 48, 45, 99, 111, 110, 116, 105, 110, 117, 101, 13, 10] ++ [67, 111, 110, 116, 101, 110, 116, 45, 76, 101, 110, 103, 116, 104, 58, 32, 50, 13, 10, 13, 10]) = X := ⟨_, rfl⟩
  rw [hX] at k3 hf
  have HF7 := Lib.hid (show Calls Tryz.prog 22 #[ptr g, .slice (some ⟨w4.heap.size + 2, 0, none⟩) 2 2] (((w4.alloc (.cells #[.int .u8 80, .int .u8 79, .int .u8 83, .int .u8 84, .int .u8 32, .int .u8 47, .int .u8 32, .int .u8 72, .int .u8 84, .int .u8 84, .int .u8 80, .int .u8 47, .int .u8 49, .int .u8 46, .int .u8 49, .int .u8 13, .int .u8 10, .int .u8 72, .int .u8 111, .int .u8 115, .int .u8 116, .int .u8 58, .int .u8 32, .int .u8 104, .int .u8 13, .int .u8 10, .int .u8 69, .int .u8 120, .int .u8 112, .int .u8 101, .int .u8 99, .int .u8 116, .int .u8 58, .int .u8 32, .int .u8 49, .int .u8 48, .int .u8 48, .int .u8 45, .int .u8 99, .int .u8 111, .int .u8 110, .int .u8 116, .int .u8 105, .int .u8 110, .int .u8 117, .int .u8 101, .int .u8 13, .int .u8 10] 5 (48, 49))).alloc (.cells #[.int .u8 67, .int .u8 111, .int .u8 110, .int .u8 116, .int .u8 101, .int .u8 110, .int .u8 116, .int .u8 45, .int .u8 76, .int .u8 101, .int .u8 110, .int .u8 103, .int .u8 116, .int .u8 104, .int .u8 58, .int .u8 32, .int .u8 50, .int .u8 13, .int .u8 10, .int .u8 13, .int .u8 10] 5 (21, 22))).alloc (.cells #[.slice (some ⟨w4.heap.size, 0, none⟩) 48 48, .slice (some ⟨w4.heap.size + 1, 0, none⟩) 21 21] 22)) fun r w' => ∃ o L', r = .returned o ∧ At w' ⟨w3.heap.size, []⟩ g 0 usual L' X.told ∧ X.told.Ok usual ∧ X.told.out = [] ∧ Said w' o X.out ∧ Step L4 L' W7 w' from by rw [hW7]; exact hf)
  have HK3 := Lib.hid k3; have HB7 := Lib.hid hb7
  clear hP hf hX k3 hb7 hW7
  go_upto_region 8 with
    (go_at_call 22; with_reducible refine HF7.out.mono ?_; rintro r w5 ⟨o5, L5, rfl, hA5, hok5, ho5, hT5, hS5⟩
     have HA5 := Lib.hid hA5; have HO5 := Lib.hid hok5; have HE5 := Lib.hid ho5
     have HL5 := Lib.hid ((HL4.out.trans (HB7.out.mono HL4.out.size)).trans (hS5.keeps.below (Nat.le_trans HL4.out.size HB7.out.size) HA4.out.low))
     clear hA5 hok5 ho5 hT5 hS5)
  have hwt := waits_any HA5.out HO5.out
  rw [told_waits, HK3.out.1] at hwt
  have HWT := Lib.hid hwt
  clear hwt HF7 HB7 HL4 HA4 hc3 hc4w
  have hhd := fun (w6 : World) (hb : Below w5.heap.size w5 w6) => held_any (HA5.out.below hb) HO5.out
  rw [told_held, HK3.out.2.1] at hhd
  have HHD := Lib.hid (show ∀ (w6 : World), Below w5.heap.size w5 w6 → Calls Tryz.prog 28 #[ptr g] w6 fun r w' => r = .returned (.int .i64 43) ∧ Below w6.heap.size w6 w' from hhd)
  clear hhd
  go_upto_region 9 with (first
    | (go_at_call 28; with_reducible refine (HHD.out _ HB6.out).mono ?_; rintro r w7 ⟨rfl, hb⟩
       have HB8 := Lib.hid (Base.below_step HB6.out hb)
       clear hb)
    | (go_at_call 26; with_reducible refine HWT.out.mono ?_; rintro r w6 ⟨rfl, hb⟩
       have HB6 := Lib.hid hb
       clear hb))
  clear HHD HWT HB6
  have HA7 := Lib.hid (HA5.out.below HB8.out)
  have HL7 := Lib.hid (HL5.out.trans (HB8.out.mono HL5.out.size))
  clear HA5 HL5 HB8
  have hbA : Below w7.heap.size w7 (w7.alloc (.cells #[.int .u8 97, .int .u8 98] 5 (2, 3))) := (Below.refl _ _).alloc (Nat.le_refl _) _
  have hP5 := Parts.one (c := 2) (Bts.lit HA7.out.in [97, 98] #[.int .u8 97, .int .u8 98] (by kernel_rfl) 5 (2, 3)) (in_alloc HA7.out.in _) 22
  have hs5 : (w7.alloc (.cells #[.int .u8 97, .int .u8 98] 5 (2, 3))).heap.size = w7.heap.size + 1 := by simp
  rw [hs5] at hP5
  have hb9 : Below w7.heap.size w7 ((w7.alloc (.cells #[.int .u8 97, .int .u8 98] 5 (2, 3))).alloc (.cells #[.slice (some ⟨w7.heap.size, 0, none⟩) 2 2] 22)) := hbA.alloc (by simp) _
  have hf5 := feed_said (by decide) (HA7.out.below hb9) HO5.out HE5.out (some ⟨w7.heap.size + 1, 0, none⟩) 1 [[97, 98]] hP5 (by decide) (by decide)
  rw [show ([[97, 98]] : List (List UInt8)).flatten = [97, 98] from rfl] at hf5
  have k3 := HK3.out
  obtain ⟨Y, hY⟩ : ∃ Y, X.told.feed 0 usual [97, 98] = Y := ⟨_, rfl⟩
  rw [hY] at k3 hf5
  have HF9 := Lib.hid (show Calls Tryz.prog 22 #[ptr g, .slice (some ⟨w7.heap.size + 1, 0, none⟩) 1 1] ((w7.alloc (.cells #[.int .u8 97, .int .u8 98] 5 (2, 3))).alloc (.cells #[.slice (some ⟨w7.heap.size, 0, none⟩) 2 2] 22)) fun r w' => ∃ o L', r = .returned o ∧ At w' ⟨w3.heap.size, []⟩ g 0 usual L' Y.told ∧ Y.told.Ok usual ∧ Y.told.out = [] ∧ Said w' o Y.out ∧ Step L5 L' ((w7.alloc (.cells #[.int .u8 97, .int .u8 98] 5 (2, 3))).alloc (.cells #[.slice (some ⟨w7.heap.size, 0, none⟩) 2 2] 22)) w' from hf5)
  have HY := Lib.hid k3; have HB9 := Lib.hid hb9
  clear hbA hP5 hs5 hb9 hf5 k3 hY HK3
  obtain ⟨a1, c1, e1, hc1⟩ := HT3.out
  obtain ⟨bk, rfl, hbk, hr1⟩ := hc1 Nat.zero_lt_one
  have hr2 := hr1 0 Nat.zero_lt_one
  have e1 : o1 = .slice (some ⟨bk, 0, none⟩) 1 c1 := e1
  subst e1
  have HR1 := Lib.hid (show RecAt w3 bk 0 r1 from hr2)
  have HBK := Lib.hid hbk
  clear hc1 hr1 hr2 hbk HT3
  go_wp2_with (first
    | (go_at_call 28; with_reducible refine HHE.out.mono ?_; rintro r w9 ⟨rfl, hb⟩; have HB10 := Lib.hid hb; clear hb)
    | (go_at_call 25; with_reducible refine HER.out.mono ?_; rintro r w9 ⟨rfl, hw⟩; rw [hw]; clear hw)
    | (go_at_call 30; with_reducible refine HCL.out.mono ?_; rintro r w9 ⟨rfl, hw⟩; rw [hw]; clear hw)
    | (go_at_call 22; with_reducible refine HF9.out.mono ?_; rintro r w8 ⟨o8, L8, rfl, hA8, hok8, ho8, hT8, hS8⟩
       have hl8 := (HL7.out.trans (HB9.out.mono HL7.out.size)).trans (hS8.keeps.below (Nat.le_trans HL7.out.size HB9.out.size) HA7.out.low)
       have HL8 := Lib.hid hl8
       obtain ⟨fa, fc, ba, bc, ta, tc, f1, f2, f3, d0, d1, d2, d3, d4, d5, d6⟩ := HR1.out.below HBK.out hl8
       have hcl := cleanq_any hA8; have her := errq_any hA8; have hhe := held_any hA8 hok8
       rw [told_clean, HY.out.2.2.2.2.1] at hcl
       rw [told_err, HY.out.2.2.2.2.2.1] at her
       rw [told_held, HY.out.2.2.2.2.2.2] at hhe
       have HCL := Lib.hid hcl
       have HER := Lib.hid (show Calls Tryz.prog 25 #[ptr g] w8 fun r w' => r = .returned (.int .i64 0) ∧ w' = w8 from her)
       have HHE := Lib.hid (show Calls Tryz.prog 28 #[ptr g] w8 fun r w' => r = .returned (.int .i64 0) ∧ Below w8.heap.size w8 w' from hhe)
       obtain ⟨a8, c8, e8, -⟩ := hT8
       rw [HY.out.2.2.2.1] at e8
       subst e8
       rw [HBD.out] at f2 d5
       rw [HTS.out] at d6
       rw [HCH.out] at d4
       have hcs : (convert 22 9 (.slice ba 3 bc)).run Tryz.prog w8 = .ok (.string ⟨#[97, 98, 99]⟩) w8 := Txt.conv_str w8 ba 3 bc _ f2
       clear hcl her hhe hA8 hok8 ho8 hS8 f1 f2 f3 d0 d1 d2 d3 hl8))
  go_ret
  exact ⟨rfl, ((HB3.out.trans (HL8.out.mono HB3.out.size)).trans (HB10.out.mono (Nat.le_trans HB3.out.size HL8.out.size)))⟩
end code
end Go.Proofs.YtbineebnhjifiaaGreatDoor.Pg
/- PgTgtW -/
namespace Go.Proofs.YtbineebnhjifiaaGreatDoor.Pg
open Go.RowKit Base Txt Par

theorem rem_of (a m : Int) (hm : 0 < m) (h : 0 ≤ a) : ∃ r : Nat, (r : Int) < m ∧ a.tmod m = (r : Int) := by
  have h1 := Int.emod_nonneg a (show m ≠ 0 by omega)
  have h2 := Int.emod_lt_of_pos a hm
  exact ⟨(a % m).toNat, by omega, by rw [Int.tmod_eq_emod_of_nonneg h]; omega⟩
/-- Bounds as usual, but for the line's. -/
abbrev lineB (x : Int) : Bd := ⟨x, 32, 8192, 65536, 32, 8, 4, 20, true, true⟩
/-- A first line with so many letters. -/
def tgtL (m : Nat) : List UInt8 := ([71, 69, 84, 32, 47] ++ List.replicate m 97) ++ [32, 72, 84, 84, 80, 47, 49, 46, 49]
end Go.Proofs.YtbineebnhjifiaaGreatDoor.Pg
/- PgEmpW -/
namespace Go.Proofs.YtbineebnhjifiaaGreatDoor.Pg
open Go.RowKit Base Txt Par

abbrev usualE : Bd := ⟨1024, 32, 8192, 65536, 32, 8, 4, 20, true, true⟩
/-- A parser ahead of a request. -/
structure T.Idle (t : T) : Prop where
  st : t.st = 1
  pend : t.rd.pend = false
  nf : Ln.failed t.rd.last = false
  buf : t.rd.clear.buf = []
  most : t.rd.most = 1024
  r : t.r = zero
  hl : t.hl = 0
theorem T.Idle.open {t : T} (h : t.Idle) : t.Open := ⟨by rw [h.st]; rfl, h.pend, h.nf⟩
theorem T.Idle.new {t : T} (h : t.Idle) : t.isNew = true := by
  have hb := h.buf
  unfold T.isNew Ln.M.len
  rw [h.pend]
  by_cases e : Ln.ended t.rd.last = true
  · rw [if_pos e]; rfl
  · have hb2 : (if Ln.ended t.rd.last then [] else t.rd.buf) = [] := hb
    rw [if_neg e] at hb2 ⊢
    rw [hb2]; rfl
theorem idle_new (p : Nat) : (T.new p usualE).Idle := ⟨rfl, rfl, rfl, rfl, rfl, rfl, rfl⟩
def oneL : List UInt8 := ([71, 69, 84, 32, 47, 32, 72, 84, 84, 80, 47, 49, 46, 49] ++ [13, 10]) ++ (([72, 111, 115, 116, 58, 32, 104] ++ [13, 10]) ++ ([] ++ [13, 10]))
def crlfs : Nat → List UInt8
  | 0 => []
  | n + 1 => ([] ++ [13, 10]) ++ crlfs n
abbrev oneR : Rec.R := ⟨ba [71, 69, 84], ba [47], 1, [(ba [72, 111, 115, 116], ba [104])], false, [], []⟩
theorem one_req : ∀ b1 b2 b3 b4 b5 b6 : Bool, Rq.request ⟨b1, b2, b3, b4, b5, b6⟩ true [71, 69, 84, 32, 47, 32, 72, 84, 84, 80, 47, 49, 46, 49] = ([71, 69, 84], [47], 1, 0) := by decide +kernel
theorem one_fld : ∀ b1 b2 b3 b4 b5 : Bool, Fd.parse ⟨b1, b2, b3, b4, b5⟩ [72, 111, 115, 116, 58, 32, 104] = some (some ([72, 111, 115, 116], [104])) := by decide +kernel
theorem one_frm : ∀ b1 b2 b3 b4 b5 b6 b7 b8 b9 b10 b11 b12 : Bool, Frm.decideV ⟨b1, b2, b3, b4, b5, b6, b7, b8, b9, b10, b11, b12⟩ true 65536 1 [(ba [72, 111, 115, 116], ba [104])] = (1, 0, 0) := by decide +kernel
theorem line_two {p : Nat} {b : Bd} {t : T} {s : List UInt8} (h : t.st = 2) : T.line p b t s = T.fields p b t s := by
  unfold T.line
  rw [if_neg (by rw [h]; decide), if_pos h]
theorem endHead_one {p : Nat} {t : T} (h : t.r = oneR) : T.endHead p usualE t = (0, t.fin) := by
  have hd : Frm.decideV (Frm.clOf p) usualE.ch usualE.x3 t.r.k t.r.fs = (1, 0, 0) := by rw [h]; exact one_frm _ _ _ _ _ _ _ _ _ _ _ _
  unfold T.endHead
  rw [hd]
  rfl
theorem line_plain (l : List UInt8) (h : l.all (fun c => !(c == 10) && !(c == 13)) = true) : ∀ c ∈ l, c ≠ 10 ∧ c ≠ 13 := by
  intro c hc
  have := List.all_eq_true.1 h c hc
  simpa using this
section
variable {p : Nat} {t : T}
theorem feed_crlfs (hp : Qk.has p 0 = true) : ∀ (n : Nat) (t : T), t.Idle → t.size + 2 * n ≤ 8192 → ∃ t', (Q.live t).feed p usualE (crlfs n) = .live t' ∧ t'.Idle ∧ t'.size = t.size + 2 * n ∧ t'.out = t.out
  | 0, t, h, _ => ⟨t, rfl, h, rfl, rfl⟩
  | n + 1, t, h, hs => by
    have e := feed_line (p := p) (b := usualE) (t := t) [] h.open h.buf (by intro c hc; cases hc) (Nat.zero_le _) (by intro _; show ((t.size + 2 : Nat) : Int) ≤ 8192; omega)
    have hl : T.line p usualE (t.went { t.rd with buf := [], last := 1, pend := false } (([] : List UInt8).length + 2)) [] = (0, t.went { t.rd with buf := [], last := 1, pend := false } 2) := by
      unfold T.line
      rw [if_pos (show (t.went { t.rd with buf := [], last := 1, pend := false } (([] : List UInt8).length + 2)).st = 1 from h.st)]
      unfold T.first
      rw [if_pos rfl, if_pos hp]
      rfl
    have hsz : (t.went { t.rd with buf := [], last := 1, pend := false } 2).size = t.size + 2 := by unfold T.went; rw [h.st]; rfl
    have hi : (t.went { t.rd with buf := [], last := 1, pend := false } 2).Idle := ⟨h.st, rfl, rfl, rfl, h.most, h.r, h.hl⟩
    obtain ⟨t', h1, h2, h3, h4⟩ := feed_crlfs hp n _ hi (by rw [hsz]; omega)
    refine ⟨t', ?_, h2, by rw [h3, hsz]; omega, h4⟩
    show (Q.live t).feed p usualE (([] ++ [13, 10]) ++ crlfs n) = _
    rw [feed_app, e, hl]
    exact h1
theorem feed_one (h : t.Idle) (hs : t.size ≤ 1000) : ∃ t', (Q.live t).feed p usualE oneL = .live t' ∧ t'.Idle ∧ t'.size = 0 ∧ t'.out = t.out ++ [oneR] := by
  have hr := one_req
  have e1 := feed_line (p := p) (b := usualE) (t := t) [71, 69, 84, 32, 47, 32, 72, 84, 84, 80, 47, 49, 46, 49] h.open h.buf (line_plain _ (by decide)) (by rw [h.most]; decide) (by intro _; show ((t.size + 16 : Nat) : Int) ≤ 8192; omega)
  obtain ⟨t1, ht1⟩ : ∃ t1, ({ t.went { t.rd with buf := [71, 69, 84, 32, 47, 32, 72, 84, 84, 80, 47, 49, 46, 49], last := 1, pend := false } 16 with r := { zero with m := ba [71, 69, 84], x := ba [47], k := 1 }, st := 2 } : T) = t1 := ⟨_, rfl⟩
  have hl1 : T.line p usualE (t.went { t.rd with buf := [71, 69, 84, 32, 47, 32, 72, 84, 84, 80, 47, 49, 46, 49], last := 1, pend := false } 16) [71, 69, 84, 32, 47, 32, 72, 84, 84, 80, 47, 49, 46, 49] = (0, t1) := by
    unfold T.line
    rw [if_pos (show (t.went { t.rd with buf := [71, 69, 84, 32, 47, 32, 72, 84, 84, 80, 47, 49, 46, 49], last := 1, pend := false } 16).st = 1 from h.st)]
    unfold T.first
    rw [if_neg (by decide), show Rq.request (Rq.clOf p) usualE.od [71, 69, 84, 32, 47, 32, 72, 84, 84, 80, 47, 49, 46, 49] = ([71, 69, 84], [47], 1, 0) from one_req _ _ _ _ _ _, ← ht1]
    dsimp only
    rw [if_pos rfl, show (t.went { t.rd with buf := [71, 69, 84, 32, 47, 32, 72, 84, 84, 80, 47, 49, 46, 49], last := 1, pend := false } 16).r = zero from h.r]
    rfl
  have hz1 : t1.size = t.size + 16 := by rw [← ht1]; show (if headed t.st = true then t.size + 16 else t.size) = _; rw [h.st]; rfl
  have e2 := feed_line (p := p) (b := usualE) (t := t1) [72, 111, 115, 116, 58, 32, 104] ⟨by rw [← ht1]; rfl, by rw [← ht1]; rfl, by rw [← ht1]; rfl⟩ (by rw [← ht1]; rfl) (line_plain _ (by decide)) (by rw [← ht1]; show 7 ≤ t.rd.most; rw [h.most]; decide) (by intro _; rw [hz1]; show ((t.size + 16 + 9 : Nat) : Int) ≤ 8192; omega)
  obtain ⟨t2, ht2⟩ : ∃ t2, ({ t1.went { t1.rd with buf := [72, 111, 115, 116, 58, 32, 104], last := 1, pend := false } 9 with hl := 1, r := { oneR with body := [] } } : T) = t2 := ⟨_, rfl⟩
  have hl2 : T.line p usualE (t1.went { t1.rd with buf := [72, 111, 115, 116, 58, 32, 104], last := 1, pend := false } 9) [72, 111, 115, 116, 58, 32, 104] = (0, t2) := by
    have hst : t1.st = 2 := by rw [← ht1]
    have hhl : t1.hl = 0 := by rw [← ht1]; exact h.hl
    have hrr : t1.r = { zero with m := ba [71, 69, 84], x := ba [47], k := 1 } := by rw [← ht1]
    have hv : fieldV p 0 [] [72, 111, 115, 116, 58, 32, 104] 32 = .inr [(ba [72, 111, 115, 116], ba [104])] := by
      unfold fieldV
      rw [if_neg (by decide), if_neg (by simp), show Fd.parse (Fd.clOf p) [72, 111, 115, 116, 58, 32, 104] = some (some ([72, 111, 115, 116], [104])) from one_fld _ _ _ _ _]
      rfl
    refine (line_two (show (t1.went { t1.rd with buf := [72, 111, 115, 116, 58, 32, 104], last := 1, pend := false } 9).st = 2 from hst)).trans ?_
    unfold T.fields
    rw [if_neg (by decide), ← ht2]
    show (listE (fieldV p t1.hl t1.r.fs _ 32), ({ t1.went _ 9 with hl := t1.hl + 1, r := { t1.r with fs := listL t1.r.fs (fieldV p t1.hl t1.r.fs _ 32) } } : T)) = _
    rw [hhl, hrr]
    show (listE (fieldV p 0 [] _ 32), ({ t1.went _ 9 with hl := 0 + 1, r := { zero with m := ba [71, 69, 84], x := ba [47], k := 1, fs := listL [] (fieldV p 0 [] _ 32) } } : T)) = _
    rw [hv]
    rfl
  have hz2 : t2.size = t.size + 25 := by rw [← ht2]; show (if headed t1.st = true then t1.size + 9 else t1.size) = _; rw [show t1.st = 2 by rw [← ht1], hz1]; rfl
  have e3 := feed_line (p := p) (b := usualE) (t := t2) [] ⟨by rw [← ht2, ← ht1]; rfl, by rw [← ht2]; rfl, by rw [← ht2]; rfl⟩ (by rw [← ht2]; rfl) (by intro c hc; cases hc) (Nat.zero_le _) (by intro _; rw [hz2]; show ((t.size + 25 + 2 : Nat) : Int) ≤ 8192; omega)
  obtain ⟨t3, ht3⟩ : ∃ t3, (t2.went { t2.rd with buf := [], last := 1, pend := false } 2).fin = t3 := ⟨_, rfl⟩
  have hl3 : T.line p usualE (t2.went { t2.rd with buf := [], last := 1, pend := false } (([] : List UInt8).length + 2)) [] = (0, t3) := by
    have hst : t2.st = 2 := by rw [← ht2, ← ht1]; rfl
    have hrr : t2.r = oneR := by rw [← ht2]
    refine (line_two (show (t2.went { t2.rd with buf := [], last := 1, pend := false } 2).st = 2 from hst)).trans ?_
    unfold T.fields
    rw [if_pos rfl]
    refine (endHead_one (show (t2.went { t2.rd with buf := [], last := 1, pend := false } 2).r = oneR from hrr)).trans ?_
    rw [← ht3]
  refine ⟨t3, ?_, ?_, ?_, ?_⟩
  · have f1 : (Q.live t).feed p usualE ([71, 69, 84, 32, 47, 32, 72, 84, 84, 80, 47, 49, 46, 49] ++ [13, 10]) = .live t1 := e1.trans (congrArg ends hl1)
    have f2 : (Q.live t1).feed p usualE ([72, 111, 115, 116, 58, 32, 104] ++ [13, 10]) = .live t2 := e2.trans (congrArg ends hl2)
    have f3 : (Q.live t2).feed p usualE ([] ++ [13, 10]) = .live t3 := e3.trans (congrArg ends hl3)
    unfold oneL
    rw [feed_app, f1, feed_app, f2, f3]
  · rw [← ht3]
    exact ⟨rfl, rfl, rfl, rfl, by rw [← ht2, ← ht1]; exact h.most, rfl, rfl⟩
  · rw [← ht3]; rfl
  · rw [← ht3]
    show t2.out ++ [t2.r] = _
    rw [← ht2, ← ht1]
    rfl
end
end Go.Proofs.YtbineebnhjifiaaGreatDoor.Pg
/- PgEmpR -/
namespace Go.Proofs.YtbineebnhjifiaaGreatDoor.Pg
open Go.RowKit Base Txt Par

theorem crlfs_snoc : ∀ n, crlfs (n + 1) = crlfs n ++ [13, 10]
  | 0 => rfl
  | n + 1 => by
    show ([] ++ [13, 10]) ++ crlfs (n + 1) = (([] ++ [13, 10]) ++ crlfs n) ++ [13, 10]
    rw [crlfs_snoc n, List.append_assoc, List.append_assoc, List.append_assoc]
theorem crlfs_length : ∀ n, (crlfs n).length = 2 * n
  | 0 => rfl
  | n + 1 => by rw [crlfs_snoc, List.length_append, crlfs_length n]; show 2 * n + 2 = _; omega
theorem usualE_new {p : Nat} (hp : p < 1073741824) : Q.new p usualE = .live (T.new p usualE) := by
  unfold Q.new
  rw [show usualE.right = true by decide +kernel, decide_eq_true hp]
  rfl
theorem empties_yes {p : Nat} (hp : p < 1073741824) (h0 : Qk.has p 0 = true) (n : Nat) (hn : n ≤ 400) :
    (Q.read p usualE (crlfs n ++ oneL ++ crlfs n ++ oneL ++ crlfs n)).err = 0 ∧ (Q.read p usualE (crlfs n ++ oneL ++ crlfs n ++ oneL ++ crlfs n)).clean = true ∧ (Q.read p usualE (crlfs n ++ oneL ++ crlfs n ++ oneL ++ crlfs n)).out = [oneR, oneR] := by
  have z0 : (T.new p usualE).size = 0 := rfl
  have o0 : (T.new p usualE).out = [] := rfl
  obtain ⟨t1, f1, i1, z1, o1⟩ := feed_crlfs h0 n _ (idle_new p) (by omega)
  obtain ⟨t2, f2, i2, z2, o2⟩ := feed_one (p := p) i1 (by omega)
  obtain ⟨t3, f3, i3, z3, o3⟩ := feed_crlfs h0 n _ i2 (by omega)
  obtain ⟨t4, f4, i4, z4, o4⟩ := feed_one (p := p) i3 (by omega)
  obtain ⟨t5, f5, i5, z5, o5⟩ := feed_crlfs h0 n _ i4 (by omega)
  have hr : Q.read p usualE (crlfs n ++ oneL ++ crlfs n ++ oneL ++ crlfs n) = .live t5 := by
    unfold Q.read
    rw [usualE_new hp, feed_app, feed_app, feed_app, feed_app, f1, f2, f3, f4, f5]
  rw [hr]
  refine ⟨rfl, ?_, ?_⟩
  · show (t5.st == 1 && t5.isNew) = true
    rw [i5.st, i5.new]; rfl
  · show t5.out = _
    rw [o5, o4, o3, o2, o1, o0]; rfl
theorem empties_no {p : Nat} (hp : p < 1073741824) (h0 : Qk.has p 0 = false) (n : Nat) :
    (Q.read p usualE (crlfs n ++ oneL)).err = if 0 < n then 400 else 0 := by
  have hi := idle_new p
  cases n with
  | zero =>
    obtain ⟨t1, f1, -⟩ := feed_one (p := p) hi (show (T.new p usualE).size ≤ 1000 from Nat.zero_le _)
    have hr : Q.read p usualE (crlfs 0 ++ oneL) = .live t1 := by
      unfold Q.read
      rw [usualE_new hp]
      exact f1
    rw [hr]; rfl
  | succ n =>
    have e := feed_line (p := p) (b := usualE) (t := T.new p usualE) [] hi.open hi.buf (by intro c hc; cases hc) (Nat.zero_le _) (by intro _; show ((0 + 2 : Nat) : Int) ≤ 8192; decide)
    have hl : ends (T.line p usualE ((T.new p usualE).went { (T.new p usualE).rd with buf := [], last := 1, pend := false } (([] : List UInt8).length + 2)) []) = .dead 400 [] := by
      unfold T.line
      rw [if_pos (show ((T.new p usualE).went { (T.new p usualE).rd with buf := [], last := 1, pend := false } (([] : List UInt8).length + 2)).st = 1 from rfl)]
      unfold T.first
      rw [if_pos rfl, h0, if_neg (by decide)]
      rfl
    have hr : Q.read p usualE (crlfs (n + 1) ++ oneL) = .dead 400 [] := by
      unfold Q.read
      rw [usualE_new hp]
      show (Q.live (T.new p usualE)).feed p usualE ((([] ++ [13, 10]) ++ crlfs n) ++ oneL) = _
      rw [feed_app, feed_app, e, hl, feed_dead, feed_dead]
    rw [hr, if_pos (Nat.succ_pos n)]
    rfl
end Go.Proofs.YtbineebnhjifiaaGreatDoor.Pg
/- PgBitsW -/
namespace Go.Proofs.YtbineebnhjifiaaGreatDoor.Pg
open Go.RowKit Base Txt Par

theorem hasAnd (A M : Nat) (j : Int) : Qk.has (A &&& M) j = (Qk.has A j && Qk.has M j) := by
  simp only [Qk.has, Nat.testBit_and]
  cases Qk.known j <;> simp
theorem hasOr (A M : Nat) (j : Int) : Qk.has (A ||| M) j = (Qk.has A j || Qk.has M j) := by
  simp only [Qk.has, Nat.testBit_or]
  cases Qk.known j <;> simp
/-- Any profile of the thirty clauses, without Empty and with it. -/
theorem empty_bits (a : Int) (h : 0 ≤ a) (h2 : a ≤ 4294967295) : ∃ m p q : Nat, bits .and .u32 a 1073741823 = (m : Int) ∧ bits .andNot .u32 (m : Int) 1 = (p : Int) ∧ bits .or .u32 (p : Int) 1 = (q : Int) ∧ p < 1073741824 ∧ q < 1073741824 ∧ Qk.has p 0 = false ∧ Qk.has q 0 = true := by
  obtain ⟨A, rfl⟩ := Int.eq_ofNat_of_zero_le h
  have hm : A &&& 1073741823 < 1073741824 := Nat.lt_of_le_of_lt Nat.and_le_right (by decide)
  have hp : (A &&& 1073741823) &&& 4294967294 < 1073741824 := Nat.lt_of_le_of_lt Nat.and_le_left hm
  refine ⟨A &&& 1073741823, (A &&& 1073741823) &&& 4294967294, ((A &&& 1073741823) &&& 4294967294) ||| 1, u32_and_nat A 1073741823 (by omega) (by decide), u32_andNot_nat _ 1 (by omega) (by decide), u32_or_nat _ 1 (by omega) (by decide), hp, ?_, ?_, ?_⟩
  · exact Nat.or_lt_two_pow (n := 30) hp (by decide)
  · rw [hasAnd, show Qk.has 4294967294 0 = false by decide +kernel, Bool.and_false]
  · rw [hasOr, show Qk.has 1 0 = true by decide +kernel, Bool.or_true]
end Go.Proofs.YtbineebnhjifiaaGreatDoor.Pg
/- TextRef -/
namespace Go.Proofs.YtbineebnhjifiaaGreatDoor.Txt
open Go.RowKit Base Oct

/-- A block whose first cells are the bytes l, and may be written. -/
def Bytes (w : World) (g : Nat) (l : List UInt8) : Prop := ∀ j (h : j < l.length), w.cell? ⟨g, j, none⟩ = some (.int .u8 (l[j].toNat : Int)) ∧ w.frozen? ⟨g, j, none⟩ = false
def tbytes : Value → Nat
  | .string t => t.size
  | _ => 0

section code
set_option maxHeartbeats 1000000
attribute [local go_sem] Base.some_undef
end code
end Go.Proofs.YtbineebnhjifiaaGreatDoor.Txt

namespace Go.Proofs.YtbineebnhjifiaaGreatDoor.Txt
open Go.RowKit Base Oct

/-- The walk of a split: what is done at place k, where the last part began at f. -/
def Part (c : UInt8) (l : List UInt8) (f k : Nat) (done : List (List UInt8)) : Prop :=
  (k ≤ l.length ∧ f ≤ k ∧ parts c l = done ++ parts c (l.drop f) ∧ c ∉ (l.drop f).take (k - f)) ∨ (k = l.length + 1 ∧ f = l.length + 1 ∧ parts c l = done)
section code
set_option maxHeartbeats 1000000
attribute [local go_sem] Base.some_undef
end code
end Go.Proofs.YtbineebnhjifiaaGreatDoor.Txt
/- TextRef2 -/
namespace Go.Proofs.YtbineebnhjifiaaGreatDoor.Txt
open Go.RowKit Base Oct

section code
set_option maxHeartbeats 1000000
set_option maxRecDepth 10000
attribute [local go_sem] Base.some_undef
end code
end Go.Proofs.YtbineebnhjifiaaGreatDoor.Txt
/- RecRef -/
namespace Go.Proofs.YtbineebnhjifiaaGreatDoor.Rec
open Go.RowKit Base Txt

section code
set_option maxHeartbeats 1000000
attribute [local go_sem] Base.some_undef
theorem rsame_any (V V' : Value) (r r' : R) (w : World) (h : Reads w V r) (h' : Reads w V' r') (hf : Fit r) (hf' : Fit r') : Calls Tryz.prog 39 #[V, V'] w fun e w' => e = .returned (.bool (same r r')) ∧ Below w.heap.size w w' := by
  obtain ⟨fa, fc, ba, bc, ta, tc, rfl, h1, h2, h3⟩ := h
  obtain ⟨fa', fc', ba', bc', ta', tc', rfl, h1', h2', h3'⟩ := h'
  have HF1 := Lib.hid (fun w2 (hb : Below w.heap.size w w2) => rfields_any fa _ fc _ fa' _ fc' _ w2 (h1.below hb) (h1'.below hb) (by have := hf.fs; omega) (by have := hf'.fs; omega))
  have HF2 := Lib.hid (fun w2 (hb : Below w.heap.size w w2) => rfields_any ta _ tc _ ta' _ tc' _ w2 (h3.below hb) (h3'.below hb) (by have := hf.ts; omega) (by have := hf'.ts; omega))
  have H2 := Lib.hid h2; have H2' := Lib.hid h2'
  clear h1 h2 h3 h1' h2' h3' hf hf'
  have HB0 := Lib.hid ((((Below.refl _ _).alloc (Nat.le_refl _) (.cells #[.string r.m, .string r.x, .int .i64 r.k, .slice fa r.fs.length fc, .bool r.ch, .slice ba r.body.length bc, .slice ta r.ts.length tc] 58)).alloc (by simp) (.cells #[.string r'.m, .string r'.x, .int .i64 r'.k, .slice fa' r'.fs.length fc', .bool r'.ch, .slice ba' r'.body.length bc', .slice ta' r'.ts.length tc'] 58)) : Below w.heap.size w _)
  have HA := Lib.hid ((Bk.new w w.heap.size rfl 58 [.string r.m, .string r.x, .int .i64 r.k, .slice fa r.fs.length fc, .bool r.ch, .slice ba r.body.length bc, .slice ta r.ts.length tc]).alloc (.cells #[.string r'.m, .string r'.x, .int .i64 r'.k, .slice fa' r'.fs.length fc', .bool r'.ch, .slice ba' r'.body.length bc', .slice ta' r'.ts.length tc'] 58))
  have HB := Lib.hid (Bk.new (w.alloc (.cells #[.string r.m, .string r.x, .int .i64 r.k, .slice fa r.fs.length fc, .bool r.ch, .slice ba r.body.length bc, .slice ta r.ts.length tc] 58)) (w.heap.size + 1) (by simp) 58 [.string r'.m, .string r'.x, .int .i64 r'.k, .slice fa' r'.fs.length fc', .bool r'.ch, .slice ba' r'.body.length bc', .slice ta' r'.ts.length tc'])
  by_cases g0 : r.m = r'.m
  rotate_left
  · have e : same r r' = false := by unfold same; simp [g0]
    rw [e]
    clear e
    have t0 : (r.m.toList == r'.m.toList) = false := by rw [ba_beq]; exact decide_eq_false g0
    have s0 : ¬ r.m.toList = r'.m.toList := fun h => g0 ((toList_iff _ _).1 h)
    clear g0
    go_enter Tryz.func39, Tryz.ntmps39
    go_upto_region 1 with fail
    generalize (w.alloc (.cells #[.string r.m, .string r.x, .int .i64 r.k, .slice fa r.fs.length fc, .bool r.ch, .slice ba r.body.length bc, .slice ta r.ts.length tc] 58)).alloc (.cells #[.string r'.m, .string r'.x, .int .i64 r'.k, .slice fa' r'.fs.length fc', .bool r'.ch, .slice ba' r'.body.length bc', .slice ta' r'.ts.length tc'] 58) = W at *
    have hA0 := HA.out; have hB0 := HB.out
    have q0 := hA0.c 0 _ rfl; have y0 := hB0.c 0 _ rfl; have q1 := hA0.c 1 _ rfl; have y1 := hB0.c 1 _ rfl; have q2 := hA0.c 2 _ rfl; have y2 := hB0.c 2 _ rfl; have q3 := hA0.c 3 _ rfl; have y3 := hB0.c 3 _ rfl; have q4 := hA0.c 4 _ rfl; have y4 := hB0.c 4 _ rfl; have q5 := hA0.c 5 _ rfl; have y5 := hB0.c 5 _ rfl; have q6 := hA0.c 6 _ rfl; have y6 := hB0.c 6 _ rfl
    clear hA0 hB0
    go_wp2
    go_ret
    exact ⟨rfl, HB0.out⟩
  by_cases g1 : r.x = r'.x
  rotate_left
  · have e : same r r' = false := by unfold same; simp [g0, g1]
    rw [e]
    clear e
    have t0 : (r.m.toList == r'.m.toList) = true := by rw [ba_beq]; exact decide_eq_true g0
    have s0 : r.m.toList = r'.m.toList := (toList_iff _ _).2 g0
    have t1 : (r.x.toList == r'.x.toList) = false := by rw [ba_beq]; exact decide_eq_false g1
    have s1 : ¬ r.x.toList = r'.x.toList := fun h => g1 ((toList_iff _ _).1 h)
    clear g0 g1
    go_enter Tryz.func39, Tryz.ntmps39
    go_upto_region 1 with fail
    generalize (w.alloc (.cells #[.string r.m, .string r.x, .int .i64 r.k, .slice fa r.fs.length fc, .bool r.ch, .slice ba r.body.length bc, .slice ta r.ts.length tc] 58)).alloc (.cells #[.string r'.m, .string r'.x, .int .i64 r'.k, .slice fa' r'.fs.length fc', .bool r'.ch, .slice ba' r'.body.length bc', .slice ta' r'.ts.length tc'] 58) = W at *
    have hA0 := HA.out; have hB0 := HB.out
    have q0 := hA0.c 0 _ rfl; have y0 := hB0.c 0 _ rfl; have q1 := hA0.c 1 _ rfl; have y1 := hB0.c 1 _ rfl; have q2 := hA0.c 2 _ rfl; have y2 := hB0.c 2 _ rfl; have q3 := hA0.c 3 _ rfl; have y3 := hB0.c 3 _ rfl; have q4 := hA0.c 4 _ rfl; have y4 := hB0.c 4 _ rfl; have q5 := hA0.c 5 _ rfl; have y5 := hB0.c 5 _ rfl; have q6 := hA0.c 6 _ rfl; have y6 := hB0.c 6 _ rfl
    clear hA0 hB0
    go_wp2
    go_ret
    exact ⟨rfl, HB0.out⟩
  by_cases g2 : r.k = r'.k
  rotate_left
  · have e : same r r' = false := by unfold same; simp [g0, g1, g2]
    rw [e]
    clear e
    have t0 : (r.m.toList == r'.m.toList) = true := by rw [ba_beq]; exact decide_eq_true g0
    have s0 : r.m.toList = r'.m.toList := (toList_iff _ _).2 g0
    have t1 : (r.x.toList == r'.x.toList) = true := by rw [ba_beq]; exact decide_eq_true g1
    have s1 : r.x.toList = r'.x.toList := (toList_iff _ _).2 g1
    have t2 : (r.k == r'.k) = false := beq_eq_false_iff_ne.2 g2
    clear g0 g1 g2
    go_enter Tryz.func39, Tryz.ntmps39
    go_upto_region 1 with fail
    generalize (w.alloc (.cells #[.string r.m, .string r.x, .int .i64 r.k, .slice fa r.fs.length fc, .bool r.ch, .slice ba r.body.length bc, .slice ta r.ts.length tc] 58)).alloc (.cells #[.string r'.m, .string r'.x, .int .i64 r'.k, .slice fa' r'.fs.length fc', .bool r'.ch, .slice ba' r'.body.length bc', .slice ta' r'.ts.length tc'] 58) = W at *
    have hA0 := HA.out; have hB0 := HB.out
    have q0 := hA0.c 0 _ rfl; have y0 := hB0.c 0 _ rfl; have q1 := hA0.c 1 _ rfl; have y1 := hB0.c 1 _ rfl; have q2 := hA0.c 2 _ rfl; have y2 := hB0.c 2 _ rfl; have q3 := hA0.c 3 _ rfl; have y3 := hB0.c 3 _ rfl; have q4 := hA0.c 4 _ rfl; have y4 := hB0.c 4 _ rfl; have q5 := hA0.c 5 _ rfl; have y5 := hB0.c 5 _ rfl; have q6 := hA0.c 6 _ rfl; have y6 := hB0.c 6 _ rfl
    clear hA0 hB0
    go_wp2
    go_ret
    exact ⟨rfl, HB0.out⟩
  by_cases g3 : r.fs = r'.fs
  rotate_left
  · have e : same r r' = false := by unfold same; simp [g0, g1, g2, g3]
    rw [e]
    clear e
    have t0 : (r.m.toList == r'.m.toList) = true := by rw [ba_beq]; exact decide_eq_true g0
    have s0 : r.m.toList = r'.m.toList := (toList_iff _ _).2 g0
    have t1 : (r.x.toList == r'.x.toList) = true := by rw [ba_beq]; exact decide_eq_true g1
    have s1 : r.x.toList = r'.x.toList := (toList_iff _ _).2 g1
    have t2 : (r.k == r'.k) = true := beq_iff_eq.2 g2
    rw [decide_eq_false g3] at HF1
    clear g0 g1 g2 g3
    go_enter Tryz.func39, Tryz.ntmps39
    go_upto_region 1 with fail
    generalize (w.alloc (.cells #[.string r.m, .string r.x, .int .i64 r.k, .slice fa r.fs.length fc, .bool r.ch, .slice ba r.body.length bc, .slice ta r.ts.length tc] 58)).alloc (.cells #[.string r'.m, .string r'.x, .int .i64 r'.k, .slice fa' r'.fs.length fc', .bool r'.ch, .slice ba' r'.body.length bc', .slice ta' r'.ts.length tc'] 58) = W at *
    have hA0 := HA.out; have hB0 := HB.out
    have q0 := hA0.c 0 _ rfl; have y0 := hB0.c 0 _ rfl; have q1 := hA0.c 1 _ rfl; have y1 := hB0.c 1 _ rfl; have q2 := hA0.c 2 _ rfl; have y2 := hB0.c 2 _ rfl; have q3 := hA0.c 3 _ rfl; have y3 := hB0.c 3 _ rfl; have q4 := hA0.c 4 _ rfl; have y4 := hB0.c 4 _ rfl; have q5 := hA0.c 5 _ rfl; have y5 := hB0.c 5 _ rfl; have q6 := hA0.c 6 _ rfl; have y6 := hB0.c 6 _ rfl
    clear hA0 hB0
    go_wp2_with (go_at_call 76; with_reducible refine (HF1.out _ HB0.out).mono ?_; rintro e w1 ⟨rfl, n1, hw1⟩
                 have hb1 : Below W.heap.size W w1 := by rw [hw1]; exact Base.below_drewN (Below.refl _ _) n1
                 have HB1 := Lib.hid (Base.below_step HB0.out hb1); have hA1 := HA.out.below hb1; have hB1 := HB.out.below hb1; have q3 := hA1.c 3 _ rfl; have y3 := hB1.c 3 _ rfl; have q4 := hA1.c 4 _ rfl; have y4 := hB1.c 4 _ rfl; have q5 := hA1.c 5 _ rfl; have y5 := hB1.c 5 _ rfl; have q6 := hA1.c 6 _ rfl; have y6 := hB1.c 6 _ rfl; have cv := conv_str w1 _ _ bc _ (H2.out.below HB1.out); have cv' := conv_str w1 _ _ bc' _ (H2'.out.below HB1.out); clear hA1 hB1 hb1 hw1)
    go_ret
    exact ⟨rfl, HB1.out⟩
  by_cases g4 : r.ch = r'.ch
  rotate_left
  · have e : same r r' = false := by unfold same; simp [g0, g1, g2, g3, g4]
    rw [e]
    clear e
    have t0 : (r.m.toList == r'.m.toList) = true := by rw [ba_beq]; exact decide_eq_true g0
    have s0 : r.m.toList = r'.m.toList := (toList_iff _ _).2 g0
    have t1 : (r.x.toList == r'.x.toList) = true := by rw [ba_beq]; exact decide_eq_true g1
    have s1 : r.x.toList = r'.x.toList := (toList_iff _ _).2 g1
    have t2 : (r.k == r'.k) = true := beq_iff_eq.2 g2
    rw [decide_eq_true g3] at HF1
    have t4 : (r.ch == r'.ch) = false := beq_eq_false_iff_ne.2 g4
    clear g0 g1 g2 g3 g4
    go_enter Tryz.func39, Tryz.ntmps39
    go_upto_region 1 with fail
    generalize (w.alloc (.cells #[.string r.m, .string r.x, .int .i64 r.k, .slice fa r.fs.length fc, .bool r.ch, .slice ba r.body.length bc, .slice ta r.ts.length tc] 58)).alloc (.cells #[.string r'.m, .string r'.x, .int .i64 r'.k, .slice fa' r'.fs.length fc', .bool r'.ch, .slice ba' r'.body.length bc', .slice ta' r'.ts.length tc'] 58) = W at *
    have hA0 := HA.out; have hB0 := HB.out
    have q0 := hA0.c 0 _ rfl; have y0 := hB0.c 0 _ rfl; have q1 := hA0.c 1 _ rfl; have y1 := hB0.c 1 _ rfl; have q2 := hA0.c 2 _ rfl; have y2 := hB0.c 2 _ rfl; have q3 := hA0.c 3 _ rfl; have y3 := hB0.c 3 _ rfl; have q4 := hA0.c 4 _ rfl; have y4 := hB0.c 4 _ rfl; have q5 := hA0.c 5 _ rfl; have y5 := hB0.c 5 _ rfl; have q6 := hA0.c 6 _ rfl; have y6 := hB0.c 6 _ rfl
    clear hA0 hB0
    go_wp2_with (go_at_call 76; with_reducible refine (HF1.out _ HB0.out).mono ?_; rintro e w1 ⟨rfl, n1, hw1⟩
                 have hb1 : Below W.heap.size W w1 := by rw [hw1]; exact Base.below_drewN (Below.refl _ _) n1
                 have HB1 := Lib.hid (Base.below_step HB0.out hb1); have hA1 := HA.out.below hb1; have hB1 := HB.out.below hb1; have q3 := hA1.c 3 _ rfl; have y3 := hB1.c 3 _ rfl; have q4 := hA1.c 4 _ rfl; have y4 := hB1.c 4 _ rfl; have q5 := hA1.c 5 _ rfl; have y5 := hB1.c 5 _ rfl; have q6 := hA1.c 6 _ rfl; have y6 := hB1.c 6 _ rfl; have cv := conv_str w1 _ _ bc _ (H2.out.below HB1.out); have cv' := conv_str w1 _ _ bc' _ (H2'.out.below HB1.out); clear hA1 hB1 hb1 hw1)
    go_ret
    exact ⟨rfl, HB1.out⟩
  by_cases g5 : r.body = r'.body
  rotate_left
  · have e : same r r' = false := by unfold same; simp [g0, g1, g2, g3, g4, g5]
    rw [e]
    clear e
    have t0 : (r.m.toList == r'.m.toList) = true := by rw [ba_beq]; exact decide_eq_true g0
    have s0 : r.m.toList = r'.m.toList := (toList_iff _ _).2 g0
    have t1 : (r.x.toList == r'.x.toList) = true := by rw [ba_beq]; exact decide_eq_true g1
    have s1 : r.x.toList = r'.x.toList := (toList_iff _ _).2 g1
    have t2 : (r.k == r'.k) = true := beq_iff_eq.2 g2
    rw [decide_eq_true g3] at HF1
    have t4 : (r.ch == r'.ch) = true := beq_iff_eq.2 g4
    have t5 : ((Txt.ba r.body).toList == (Txt.ba r'.body).toList) = false := by rw [ba_beq]; exact decide_eq_false (fun h => g5 (ba_list_inj.1 h))
    have s5 : ¬ (Txt.ba r.body).toList = (Txt.ba r'.body).toList := fun h => g5 (ba_list_inj.1 ((toList_iff _ _).1 h))
    clear g0 g1 g2 g3 g4 g5
    go_enter Tryz.func39, Tryz.ntmps39
    go_upto_region 1 with fail
    generalize (w.alloc (.cells #[.string r.m, .string r.x, .int .i64 r.k, .slice fa r.fs.length fc, .bool r.ch, .slice ba r.body.length bc, .slice ta r.ts.length tc] 58)).alloc (.cells #[.string r'.m, .string r'.x, .int .i64 r'.k, .slice fa' r'.fs.length fc', .bool r'.ch, .slice ba' r'.body.length bc', .slice ta' r'.ts.length tc'] 58) = W at *
    have hA0 := HA.out; have hB0 := HB.out
    have q0 := hA0.c 0 _ rfl; have y0 := hB0.c 0 _ rfl; have q1 := hA0.c 1 _ rfl; have y1 := hB0.c 1 _ rfl; have q2 := hA0.c 2 _ rfl; have y2 := hB0.c 2 _ rfl; have q3 := hA0.c 3 _ rfl; have y3 := hB0.c 3 _ rfl; have q4 := hA0.c 4 _ rfl; have y4 := hB0.c 4 _ rfl; have q5 := hA0.c 5 _ rfl; have y5 := hB0.c 5 _ rfl; have q6 := hA0.c 6 _ rfl; have y6 := hB0.c 6 _ rfl
    clear hA0 hB0
    go_wp2_with (go_at_call 76; with_reducible refine (HF1.out _ HB0.out).mono ?_; rintro e w1 ⟨rfl, n1, hw1⟩
                 have hb1 : Below W.heap.size W w1 := by rw [hw1]; exact Base.below_drewN (Below.refl _ _) n1
                 have HB1 := Lib.hid (Base.below_step HB0.out hb1); have hA1 := HA.out.below hb1; have hB1 := HB.out.below hb1; have q3 := hA1.c 3 _ rfl; have y3 := hB1.c 3 _ rfl; have q4 := hA1.c 4 _ rfl; have y4 := hB1.c 4 _ rfl; have q5 := hA1.c 5 _ rfl; have y5 := hB1.c 5 _ rfl; have q6 := hA1.c 6 _ rfl; have y6 := hB1.c 6 _ rfl; have cv := conv_str w1 _ _ bc _ (H2.out.below HB1.out); have cv' := conv_str w1 _ _ bc' _ (H2'.out.below HB1.out); clear hA1 hB1 hb1 hw1)
    go_ret
    exact ⟨rfl, HB1.out⟩
  by_cases g6 : r.ts = r'.ts
  rotate_left
  · have e : same r r' = false := by unfold same; simp [g0, g1, g2, g3, g4, g5, g6]
    rw [e]
    clear e
    have t0 : (r.m.toList == r'.m.toList) = true := by rw [ba_beq]; exact decide_eq_true g0
    have s0 : r.m.toList = r'.m.toList := (toList_iff _ _).2 g0
    have t1 : (r.x.toList == r'.x.toList) = true := by rw [ba_beq]; exact decide_eq_true g1
    have s1 : r.x.toList = r'.x.toList := (toList_iff _ _).2 g1
    have t2 : (r.k == r'.k) = true := beq_iff_eq.2 g2
    rw [decide_eq_true g3] at HF1
    have t4 : (r.ch == r'.ch) = true := beq_iff_eq.2 g4
    have t5 : ((Txt.ba r.body).toList == (Txt.ba r'.body).toList) = true := by rw [ba_beq]; exact decide_eq_true (by rw [g5])
    have s5 : (Txt.ba r.body).toList = (Txt.ba r'.body).toList := (toList_iff _ _).2 (by rw [g5])
    rw [decide_eq_false g6] at HF2
    clear g0 g1 g2 g3 g4 g5 g6
    go_enter Tryz.func39, Tryz.ntmps39
    go_upto_region 1 with fail
    generalize (w.alloc (.cells #[.string r.m, .string r.x, .int .i64 r.k, .slice fa r.fs.length fc, .bool r.ch, .slice ba r.body.length bc, .slice ta r.ts.length tc] 58)).alloc (.cells #[.string r'.m, .string r'.x, .int .i64 r'.k, .slice fa' r'.fs.length fc', .bool r'.ch, .slice ba' r'.body.length bc', .slice ta' r'.ts.length tc'] 58) = W at *
    have hA0 := HA.out; have hB0 := HB.out
    have q0 := hA0.c 0 _ rfl; have y0 := hB0.c 0 _ rfl; have q1 := hA0.c 1 _ rfl; have y1 := hB0.c 1 _ rfl; have q2 := hA0.c 2 _ rfl; have y2 := hB0.c 2 _ rfl; have q3 := hA0.c 3 _ rfl; have y3 := hB0.c 3 _ rfl; have q4 := hA0.c 4 _ rfl; have y4 := hB0.c 4 _ rfl; have q5 := hA0.c 5 _ rfl; have y5 := hB0.c 5 _ rfl; have q6 := hA0.c 6 _ rfl; have y6 := hB0.c 6 _ rfl
    clear hA0 hB0
    go_wp2_with (first
      | (go_at_call 76; with_reducible refine (HF2.out _ HB1.out).mono ?_; rintro e w2 ⟨rfl, n2, hw2⟩
         have hb2 : Below w1.heap.size w1 w2 := by rw [hw2]; exact Base.below_drewN (Below.refl _ _) n2
         have HB2 := Lib.hid (Base.below_step HB1.out hb2); clear hb2 hw2)
      | (go_at_call 76; with_reducible refine (HF1.out _ HB0.out).mono ?_; rintro e w1 ⟨rfl, n1, hw1⟩
         have hb1 : Below W.heap.size W w1 := by rw [hw1]; exact Base.below_drewN (Below.refl _ _) n1
         have HB1 := Lib.hid (Base.below_step HB0.out hb1); have hA1 := HA.out.below hb1; have hB1 := HB.out.below hb1; have q3 := hA1.c 3 _ rfl; have y3 := hB1.c 3 _ rfl; have q4 := hA1.c 4 _ rfl; have y4 := hB1.c 4 _ rfl; have q5 := hA1.c 5 _ rfl; have y5 := hB1.c 5 _ rfl; have q6 := hA1.c 6 _ rfl; have y6 := hB1.c 6 _ rfl; have cv := conv_str w1 _ _ bc _ (H2.out.below HB1.out); have cv' := conv_str w1 _ _ bc' _ (H2'.out.below HB1.out); clear hA1 hB1 hb1 hw1))
    go_ret
    exact ⟨rfl, HB2.out⟩
  have e : same r r' = true := by unfold same; simp [g0, g1, g2, g3, g4, g5, g6]
  rw [e]
  clear e
  have t0 : (r.m.toList == r'.m.toList) = true := by rw [ba_beq]; exact decide_eq_true g0
  have s0 : r.m.toList = r'.m.toList := (toList_iff _ _).2 g0
  have t1 : (r.x.toList == r'.x.toList) = true := by rw [ba_beq]; exact decide_eq_true g1
  have s1 : r.x.toList = r'.x.toList := (toList_iff _ _).2 g1
  have t2 : (r.k == r'.k) = true := beq_iff_eq.2 g2
  rw [decide_eq_true g3] at HF1
  have t4 : (r.ch == r'.ch) = true := beq_iff_eq.2 g4
  have t5 : ((Txt.ba r.body).toList == (Txt.ba r'.body).toList) = true := by rw [ba_beq]; exact decide_eq_true (by rw [g5])
  have s5 : (Txt.ba r.body).toList = (Txt.ba r'.body).toList := (toList_iff _ _).2 (by rw [g5])
  rw [decide_eq_true g6] at HF2
  clear g0 g1 g2 g3 g4 g5 g6
  go_enter Tryz.func39, Tryz.ntmps39
  go_upto_region 1 with fail
  generalize (w.alloc (.cells #[.string r.m, .string r.x, .int .i64 r.k, .slice fa r.fs.length fc, .bool r.ch, .slice ba r.body.length bc, .slice ta r.ts.length tc] 58)).alloc (.cells #[.string r'.m, .string r'.x, .int .i64 r'.k, .slice fa' r'.fs.length fc', .bool r'.ch, .slice ba' r'.body.length bc', .slice ta' r'.ts.length tc'] 58) = W at *
  have hA0 := HA.out; have hB0 := HB.out
  have q0 := hA0.c 0 _ rfl; have y0 := hB0.c 0 _ rfl; have q1 := hA0.c 1 _ rfl; have y1 := hB0.c 1 _ rfl; have q2 := hA0.c 2 _ rfl; have y2 := hB0.c 2 _ rfl; have q3 := hA0.c 3 _ rfl; have y3 := hB0.c 3 _ rfl; have q4 := hA0.c 4 _ rfl; have y4 := hB0.c 4 _ rfl; have q5 := hA0.c 5 _ rfl; have y5 := hB0.c 5 _ rfl; have q6 := hA0.c 6 _ rfl; have y6 := hB0.c 6 _ rfl
  clear hA0 hB0
  go_wp2_with (first
    | (go_at_call 76; with_reducible refine (HF2.out _ HB1.out).mono ?_; rintro e w2 ⟨rfl, n2, hw2⟩
       have hb2 : Below w1.heap.size w1 w2 := by rw [hw2]; exact Base.below_drewN (Below.refl _ _) n2
       have HB2 := Lib.hid (Base.below_step HB1.out hb2); clear hb2 hw2)
    | (go_at_call 76; with_reducible refine (HF1.out _ HB0.out).mono ?_; rintro e w1 ⟨rfl, n1, hw1⟩
       have hb1 : Below W.heap.size W w1 := by rw [hw1]; exact Base.below_drewN (Below.refl _ _) n1
       have HB1 := Lib.hid (Base.below_step HB0.out hb1); have hA1 := HA.out.below hb1; have hB1 := HB.out.below hb1; have q3 := hA1.c 3 _ rfl; have y3 := hB1.c 3 _ rfl; have q4 := hA1.c 4 _ rfl; have y4 := hB1.c 4 _ rfl; have q5 := hA1.c 5 _ rfl; have y5 := hB1.c 5 _ rfl; have q6 := hA1.c 6 _ rfl; have y6 := hB1.c 6 _ rfl; have cv := conv_str w1 _ _ bc _ (H2.out.below HB1.out); have cv' := conv_str w1 _ _ bc' _ (H2'.out.below HB1.out); clear hA1 hB1 hb1 hw1))
  go_ret
  exact ⟨rfl, HB2.out⟩
end code
end Go.Proofs.YtbineebnhjifiaaGreatDoor.Rec
/- PgEmpties -/
namespace Go.Proofs.YtbineebnhjifiaaGreatDoor.Pg
open Go.RowKit Base Txt Mem Par

theorem one_fit : Rec.Fit oneR := ⟨by decide, by decide, by decide, by decide, by decide, by decide, by decide⟩
section code
set_option maxHeartbeats 8000000
set_option maxRecDepth 100000
attribute [local go_sem] Base.some_undef
theorem parserEmpties_law (n a : Int) (w : World) (hn : 0 ≤ n ∧ n ≤ 255) (ha : 0 ≤ a ∧ a ≤ 4294967295) : Calls Tryz.prog 10 #[.int .u8 n, .int .u32 a] w fun e w' => e = .returned (.bool true) ∧ Below w.heap.size w w' := by
  obtain ⟨m, p, p2, hm1, hm2, hm3, hp, hp2, hpf, hpt⟩ := empty_bits a ha.1 ha.2
  obtain ⟨c, hc, hnc⟩ := rem_of n 20 (by decide) hn.1
  have hc9 : c < 20 := by omega
  have HM := Lib.hid (And.intro hnc (Rec.wraps (c : Int) ⟨by omega, by omega⟩)); have HBI := Lib.hid (And.intro hm1 (And.intro hm2 hm3))
  clear hm1 hm2 hm3 hn ha hc
  go_enter Tryz.func10, Tryz.ntmps10
  go_upto_region 6 with (first
    | (go_at_call 34; with_reducible refine (Bnd.rusual_any _).mono ?_; rintro r w2 ⟨rfl, hb⟩
       have HB2 := Lib.hid (Base.below_step HB1.out hb)
       clear hb)
    | (go_at_call 15; with_reducible refine (known_any _).mono ?_; rintro r w1 ⟨rfl, hb⟩
       have HB1 := Lib.hid hb
       clear hb))
  have HZ2 := Lib.hid (Rec.Bk.new w2 w2.heap.size rfl 29 [.int .i64 1024, .int .i64 32, .int .i64 8192, .int .i64 65536, .int .i64 32, .int .i64 8, .int .i64 4, .int .i64 20, .bool true, .bool true])
  have HBW := Lib.hid (HB2.out.alloc HB2.out.size (.cells #[.int .i64 1024, .int .i64 32, .int .i64 8192, .int .i64 65536, .int .i64 32, .int .i64 8, .int .i64 4, .int .i64 20, .bool true, .bool true] 29))
  generalize w2.alloc (.cells #[.int .i64 1024, .int .i64 32, .int .i64 8192, .int .i64 65536, .int .i64 32, .int .i64 8, .int .i64 4, .int .i64 20, .bool true, .bool true] 29) = W2 at *
  generalize w2.heap.size = gB at *
  clear hnc
  go_loopw [6, 7] (fun s i wr => ∃ (q : Nat) (S : ByteArray), q ≤ c ∧ i = .int .i64 q ∧ s = .string S ∧ S.size = 2 * q ∧ wr = W2 ∧ Hid (S.data.toList = crlfs q)) (fun _ i _ => c - (intOf i).toNat)
  case atStart => exact ⟨0, _, Nat.zero_le _, rfl, rfl, rfl, rfl, Lib.hid rfl⟩
  case round =>
    obtain ⟨q, S, hq, rfl, rfl, hS, rfl, hL⟩ := hrel
    rcases Nat.lt_or_ge q c with hlt | hge
    · have t1 : (q : Int) < (c : Int) := by omega
      have v1 : ¬ 9223372036854775807 < S.size + 2 := by omega
      have HL2 : Hid ((S ++ (⟨#[13, 10]⟩ : ByteArray)).data.toList = crlfs (q + 1)) := Lib.hid (by rw [ByteArray.data_append, Array.toList_append, hL.out, crlfs_snoc])
      obtain ⟨g1, g2⟩ := HM.out
      go_wp2_with fail
      clear g1 g2
      go_roundw
      case rel => exact ⟨q + 1, _, by omega, by go_num, (by first | rfl | trivial), (by rw [ByteArray.size_append, hS]; show 2 * q + 2 = _; omega), (by first | rfl | trivial), HL2⟩
      case measure => simp [intOf]; omega
    · obtain rfl : q = c := by omega
      have t1 : ¬ (q : Int) < (q : Int) := by omega
      obtain ⟨N, hN⟩ : ∃ N, S.size = N := ⟨_, rfl⟩
      have hN2 : N = 2 * q := by rw [← hN]; exact hS
      have v1 : ¬ 9223372036854775807 < N + 27 := by omega
      have v2 : ¬ 9223372036854775807 < N + 27 + N := by omega
      have v3 : ¬ 9223372036854775807 < N + 27 + N + 27 := by omega
      have v4 : ¬ 9223372036854775807 < N + 27 + N + 27 + N := by omega
      obtain ⟨k1, k2, k3⟩ := empties_yes hp2 hpt q (by omega)
      have k4 := empties_no hp hpf q
      obtain ⟨W5, cap5, hcv, hby, hlt5, hb5⟩ := By.conv_bytes (S ++ (⟨#[71, 69, 84, 32, 47, 32, 72, 84, 84, 80, 47, 49, 46, 49, 13, 10, 72, 111, 115, 116, 58, 32, 104, 13, 10, 13, 10]⟩ : ByteArray) ++ S ++ (⟨#[71, 69, 84, 32, 47, 32, 72, 84, 84, 80, 47, 49, 46, 49, 13, 10, 72, 111, 115, 116, 58, 32, 104, 13, 10, 13, 10]⟩ : ByteArray) ++ S) wr
      have hl3 : (S ++ (⟨#[71, 69, 84, 32, 47, 32, 72, 84, 84, 80, 47, 49, 46, 49, 13, 10, 72, 111, 115, 116, 58, 32, 104, 13, 10, 13, 10]⟩ : ByteArray) ++ S ++ (⟨#[71, 69, 84, 32, 47, 32, 72, 84, 84, 80, 47, 49, 46, 49, 13, 10, 72, 111, 115, 116, 58, 32, 104, 13, 10, 13, 10]⟩ : ByteArray) ++ S).data.toList = crlfs q ++ oneL ++ crlfs q ++ oneL ++ crlfs q := by simp only [ByteArray.data_append, Array.toList_append, hL.out]; rfl
      have hlen : (crlfs q ++ oneL ++ crlfs q ++ oneL ++ crlfs q).length = N + 27 + N + 27 + N := by simp only [List.length_append, crlfs_length, show oneL.length = 27 from rfl]; omega
      have hsz3 : (S ++ (⟨#[71, 69, 84, 32, 47, 32, 72, 84, 84, 80, 47, 49, 46, 49, 13, 10, 72, 111, 115, 116, 58, 32, 104, 13, 10, 13, 10]⟩ : ByteArray) ++ S ++ (⟨#[71, 69, 84, 32, 47, 32, 72, 84, 84, 80, 47, 49, 46, 49, 13, 10, 72, 111, 115, 116, 58, 32, 104, 13, 10, 13, 10]⟩ : ByteArray) ++ S).size = N + 27 + N + 27 + N := by rw [← len, hl3]; exact hlen
      have hbt := Bts.conv (L := []) (in_nil wr) _ hby hlt5
      rw [hl3] at hbt
      rw [hsz3] at hcv
      have hrd := read_said (p := p2) (by omega) usualE W5 _ cap5 _ hbt (by rw [hlen]; omega) 0 true _ k1 k2 k3
      rw [hlen] at hrd
      have HRD := Lib.hid (show Calls Tryz.prog 32 #[.int .u32 (p2 : Int), .agg #[.int .i64 1024, .int .i64 32, .int .i64 8192, .int .i64 65536, .int .i64 32, .int .i64 8, .int .i64 4, .int .i64 20, .bool true, .bool true], .slice (some ⟨wr.heap.size, 0, none⟩) (N + 27 + N + 27 + N) cap5] W5 fun r w' => ∃ o, r = .returned (.tuple #[o, .int .i64 0, .bool true]) ∧ Said w' o [oneR, oneR] ∧ Below W5.heap.size W5 w' from hrd)
      have HB5 := Lib.hid (Base.below_step HBW.out hb5)
      have HB5b := Lib.hid hb5
      have y0 := HZ2.out.c 0 _ rfl; have y1 := HZ2.out.c 1 _ rfl; have y2 := HZ2.out.c 2 _ rfl; have y3 := HZ2.out.c 3 _ rfl; have y4 := HZ2.out.c 4 _ rfl; have y5 := HZ2.out.c 5 _ rfl; have y6 := HZ2.out.c 6 _ rfl; have y7 := HZ2.out.c 7 _ rfl; have y8 := HZ2.out.c 8 _ rfl; have y9 := HZ2.out.c 9 _ rfl
      obtain ⟨f1, f2, f3⟩ := HBI.out
      have HK4 := Lib.hid k4
      have HN2 := Lib.hid hN2
      clear hby hlt5 hb5 hsz3 hl3 hbt hlen k1 k2 k3 k4 hrd hS hN2
      obtain ⟨g1, g2⟩ := HM.out
      go_upto_region 12 with
        (go_at_call 32; with_reducible refine HRD.out.mono ?_; rintro r w6 ⟨o, rfl, hT, hb⟩
         obtain ⟨a8, c1, e8, hc8⟩ := hT
         obtain ⟨bk, rfl, hbk, hr8⟩ := hc8 (show 0 < 2 by decide)
         have e8 : o = .slice (some ⟨bk, 0, none⟩) 2 c1 := e8
         subst e8
         have HR0 := Lib.hid (show RecAt w6 bk 0 oneR from hr8 0 (show 0 < 2 by decide)); have HR1 := Lib.hid (show RecAt w6 bk 7 oneR from hr8 1 (show 1 < 2 by decide))
         have HBK6 := Lib.hid hbk
         have HB6 := Lib.hid (Base.below_step HB5.out hb)
         have hz6 := HZ2.out.below (HB5b.out.trans (hb.mono HB5b.out.size))
         have HZ6 := Lib.hid hz6
         clear hb hc8 hr8 hbk hz6 y0 y1 y2 y3 y4 y5 y6 y7 y8 y9)
      clear hcv v2 v3 v4 f1 f2 f3 g1 g2
      obtain ⟨W7, cap7, hcv, hby, hlt7, hb7⟩ := By.conv_bytes (S ++ (⟨#[71, 69, 84, 32, 47, 32, 72, 84, 84, 80, 47, 49, 46, 49, 13, 10, 72, 111, 115, 116, 58, 32, 104, 13, 10, 13, 10]⟩ : ByteArray)) w6
      have hl4 : (S ++ (⟨#[71, 69, 84, 32, 47, 32, 72, 84, 84, 80, 47, 49, 46, 49, 13, 10, 72, 111, 115, 116, 58, 32, 104, 13, 10, 13, 10]⟩ : ByteArray)).data.toList = crlfs q ++ oneL := by simp only [ByteArray.data_append, Array.toList_append, hL.out]; rfl
      have hlen2 : (crlfs q ++ oneL).length = N + 27 := by simp only [List.length_append, crlfs_length, show oneL.length = 27 from rfl]; have := HN2.out; omega
      have hsz4 : (S ++ (⟨#[71, 69, 84, 32, 47, 32, 72, 84, 84, 80, 47, 49, 46, 49, 13, 10, 72, 111, 115, 116, 58, 32, 104, 13, 10, 13, 10]⟩ : ByteArray)).size = N + 27 := by rw [← len, hl4]; exact hlen2
      have hbt2 := Bts.conv (L := []) (in_nil w6) _ hby hlt7
      rw [hl4] at hbt2
      rw [hsz4] at hcv
      have HB7 := Lib.hid hb7
      have y0 := HZ6.out.c 0 _ rfl; have y1 := HZ6.out.c 1 _ rfl; have y2 := HZ6.out.c 2 _ rfl; have y3 := HZ6.out.c 3 _ rfl; have y4 := HZ6.out.c 4 _ rfl; have y5 := HZ6.out.c 5 _ rfl; have y6 := HZ6.out.c 6 _ rfl; have y7 := HZ6.out.c 7 _ rfl; have y8 := HZ6.out.c 8 _ rfl; have y9 := HZ6.out.c 9 _ rfl
      clear hby hlt7 hb7 hsz4 hl4
      have hnc := HM.out.1
      by_cases hov : 0 < q
      · have k5 : (Q.read p usualE (crlfs q ++ oneL)).err = 400 := by rw [HK4.out, if_pos hov]
        obtain ⟨cl2, hcl2⟩ : ∃ cl2, (Q.read p usualE (crlfs q ++ oneL)).clean = cl2 := ⟨_, rfl⟩
        obtain ⟨O2, hO2⟩ : ∃ O2, (Q.read p usualE (crlfs q ++ oneL)).out = O2 := ⟨_, rfl⟩
        have hrd2 := read_said (p := p) (by omega) usualE W7 _ cap7 _ hbt2 (by rw [hlen2]; have := HN2.out; omega) 400 cl2 O2 k5 hcl2 hO2
        rw [hlen2] at hrd2
        have HRD2 := Lib.hid (show Calls Tryz.prog 32 #[.int .u32 (p : Int), .agg #[.int .i64 1024, .int .i64 32, .int .i64 8192, .int .i64 65536, .int .i64 32, .int .i64 8, .int .i64 4, .int .i64 20, .bool true, .bool true], .slice (some ⟨w6.heap.size, 0, none⟩) (N + 27) cap7] W7 fun r w' => ∃ o, r = .returned (.tuple #[o, .int .i64 400, .bool cl2]) ∧ Said w' o O2 ∧ Below W7.heap.size W7 w' from hrd2)
        have HCX := Lib.hid (show (0 : Int) < (q : Int) by omega)
        clear hrd2 hbt2 hlen2 hcl2 hO2 hnc hov
        go_upto_region 13 with
          (go_at_call 32; with_reducible refine HRD2.out.mono ?_; rintro r w8 ⟨o2, rfl, hT, hb⟩
           clear hT
           have HB8 := Lib.hid (show Below w6.heap.size w6 w8 from HB7.out.trans (hb.mono HB7.out.size))
           clear hb y0 y1 y2 y3 y4 y5 y6 y7 y8 y9)
        have HBK := Lib.hid (show bk < (w8.drewN 1).heap.size from Nat.lt_of_lt_of_le HBK6.out (Base.below_drewN HB8.out 1).size)
        obtain ⟨fa0, fc0, ba0, bc0, ta0, tc0, p1, p2, p3, d0, d1, d2, d3, d4, d5, d6⟩ := HR0.out.below HBK6.out (Base.below_drewN HB8.out 1)
        have HC0 := Lib.hid (show w8.cell? ⟨bk, 0, none⟩ = some (.string (ba [71, 69, 84])) ∧ w8.cell? ⟨bk, 1, none⟩ = some (.string (ba [47])) ∧ w8.cell? ⟨bk, 2, none⟩ = some (.int .i64 1) ∧ w8.cell? ⟨bk, 3, none⟩ = some (.slice fa0 1 fc0) ∧ w8.cell? ⟨bk, 4, none⟩ = some (.bool false) ∧ w8.cell? ⟨bk, 5, none⟩ = some (.slice ba0 0 bc0) ∧ w8.cell? ⟨bk, 6, none⟩ = some (.slice ta0 0 tc0) from ⟨d0, d1, d2, d3, d4, d5, d6⟩)
        have HA0 := Lib.hid (show Rec.Reads (w8.drewN 1) (.agg #[.string (ba [71, 69, 84]), .string (ba [47]), .int .i64 1, .slice fa0 1 fc0, .bool false, .slice ba0 0 bc0, .slice ta0 0 tc0]) oneR from ⟨fa0, fc0, ba0, bc0, ta0, tc0, rfl, p1, p2, p3⟩)
        clear p1 p2 p3 d0 d1 d2 d3 d4 d5 d6
        obtain ⟨fa1, fc1, ba1, bc1, ta1, tc1, p1, p2, p3, d0, d1, d2, d3, d4, d5, d6⟩ := HR1.out.below HBK6.out (Base.below_drewN HB8.out 1)
        have HC1 := Lib.hid (show w8.cell? ⟨bk, 7, none⟩ = some (.string (ba [71, 69, 84])) ∧ w8.cell? ⟨bk, 8, none⟩ = some (.string (ba [47])) ∧ w8.cell? ⟨bk, 9, none⟩ = some (.int .i64 1) ∧ w8.cell? ⟨bk, 10, none⟩ = some (.slice fa1 1 fc1) ∧ w8.cell? ⟨bk, 11, none⟩ = some (.bool false) ∧ w8.cell? ⟨bk, 12, none⟩ = some (.slice ba1 0 bc1) ∧ w8.cell? ⟨bk, 13, none⟩ = some (.slice ta1 0 tc1) from ⟨d0, d1, d2, d3, d4, d5, d6⟩)
        have HA1 := Lib.hid (show Rec.Reads (w8.drewN 1) (.agg #[.string (ba [71, 69, 84]), .string (ba [47]), .int .i64 1, .slice fa1 1 fc1, .bool false, .slice ba1 0 bc1, .slice ta1 0 tc1]) oneR from ⟨fa1, fc1, ba1, bc1, ta1, tc1, rfl, p1, p2, p3⟩)
        clear p1 p2 p3 d0 d1 d2 d3 d4 d5 d6
        refine Each.region_all 28 [60, 61, 62, 63, 64, 65, 66, 67, 68, 69, 70, 71, 72, 73, 74, 75, 76, 77, 78, 79, 80, 81, 82, 83, 84, 85, 86, 4]
            [fun v _ => v = .int .i64 0,
              fun v _ => v = .bool true,
              fun v _ => v = .bool true,
              Each.When (true) true (fun v _ => v = .bool true),
              fun v _ => v = .bool true,
              fun v _ => v = .bool true,
              Each.When (true) true (fun v _ => v = .slice (some ⟨bk, 0, none⟩) 2 c1),
              Each.When (true) true (fun v _ => v = .int .i64 ((2 : Nat) : Int)),
              Each.When (true) true (fun v _ => v = .bool true),
              fun v _ => v = .bool true,
              fun v _ => v = .bool true,
              Each.When (true) true (fun v _ => v = .slice (some ⟨bk, 0, none⟩) 2 c1),
              Each.When (true) true (fun v _ => v = .pointer (some ⟨bk, 0, none⟩)),
              Each.When (true) true (fun v _ => v = .agg #[.string (ba [71, 69, 84]), .string (ba [47]), .int .i64 1, .slice fa0 1 fc0, .bool false, .slice ba0 0 bc0, .slice ta0 0 tc0]),
              Each.When (true) true (fun v _ => v = .slice (some ⟨bk, 0, none⟩) 2 c1),
              Each.When (true) true (fun v _ => v = .pointer (some ⟨bk, 7, none⟩)),
              Each.When (true) true (fun v _ => v = .agg #[.string (ba [71, 69, 84]), .string (ba [47]), .int .i64 1, .slice fa1 1 fc1, .bool false, .slice ba1 0 bc1, .slice ta1 0 tc1]),
              Each.When (true) true (fun v _ => v = .bool true),
              fun v _ => v = .bool true,
              fun v _ => v = .bool true,
              Each.When (true) true (fun v _ => v = .int .i64 400),
              Each.When (true) true (fun v _ => v = .bool true),
              Each.When (true) true (fun v _ => v = .int .u8 n),
              Each.When (true) true (fun v _ => v = .int .u8 (q : Int)),
              Each.When (true) true (fun v _ => v = .bool true),
              Each.When (true) true (fun v _ => v = .bool true),
              fun v _ => v = .bool true,
              fun v _ => v = .bool true]
             (by kernel_rfl) (by kernel_rfl) (by kernel_rfl) (by kernel_rfl) (fun _ _ d _ _ h => by cases d <;> exact h) (by rfl) (by rfl)
            ⟨Each.Lasts.eq _, Each.Lasts.eq _, Each.Lasts.eq _, Each.Lasts.when (Each.Lasts.eq _), Each.Lasts.eq _, Each.Lasts.eq _, Each.Lasts.when (Each.Lasts.eq _), Each.Lasts.when (Each.Lasts.eq _), Each.Lasts.when (Each.Lasts.eq _), Each.Lasts.eq _, Each.Lasts.eq _, Each.Lasts.when (Each.Lasts.eq _), Each.Lasts.when (Each.Lasts.eq _), Each.Lasts.when (Each.Lasts.eq _), Each.Lasts.when (Each.Lasts.eq _), Each.Lasts.when (Each.Lasts.eq _), Each.Lasts.when (Each.Lasts.eq _), Each.Lasts.when (Each.Lasts.eq _), Each.Lasts.eq _, Each.Lasts.eq _, Each.Lasts.when (Each.Lasts.eq _), Each.Lasts.when (Each.Lasts.eq _), Each.Lasts.when (Each.Lasts.eq _), Each.Lasts.when (Each.Lasts.eq _), Each.Lasts.when (Each.Lasts.eq _), Each.Lasts.when (Each.Lasts.eq _), Each.Lasts.eq _, Each.Lasts.eq _, trivial⟩ ?_ ?_
        · refine ⟨?_, ?_, ?_, ?_, ?_, ?_, ?_, ?_, ?_, ?_, ?_, ?_, ?_, ?_, ?_, ?_, ?_, ?_, ?_, ?_, ?_, ?_, ?_, ?_, ?_, ?_, ?_, ?_, trivial⟩
          · refine Each.fine rfl (fun ev w1 hR hb hh => ?_)
            clear hh
            have e11 := hR.old 11 rfl
            simp only [Array.getD_eq_getD_getElem?, List.getElem?_toArray, List.getElem?_cons_succ, List.getElem?_cons_zero, Option.getD_some] at e11
            refine Each.Goes.same ?_
            go_simp
            try with_reducible rfl
          · refine Each.fine rfl (fun ev w1 hR hb hh => ?_)
            have e60 : (ev (.tmp 60) = .int .i64 0) := hh.at 0
            clear hh
            have ec := hR.const
            refine Each.Goes.same ?_
            go_simp
            try with_reducible rfl
          · refine Each.fine rfl (fun ev w1 hR hb hh => ?_)
            have e61 : (ev (.tmp 61) = .bool true) := hh.at 0
            clear hh
            refine Each.Goes.same ?_
            go_simp
            try with_reducible rfl
          · refine Each.fine_when 2 62 rfl rfl (fun ev w1 hh => ?_) (fun hg ev w1 hR hb hh => ?_)
            · exact hh.at 0
            · clear hh
              have e12 := hR.old 12 rfl
              simp only [Array.getD_eq_getD_getElem?, List.getElem?_toArray, List.getElem?_cons_succ, List.getElem?_cons_zero, Option.getD_some] at e12
              refine Each.Goes.same ?_
              go_simp
              try with_reducible rfl
          · refine Each.fine rfl (fun ev w1 hR hb hh => ?_)
            have e62 : (ev (.tmp 62) = .bool true) := hh.at 0
            have h63 : ((true) = true → ev (.tmp 63) = .bool true) := hh.at 1
            clear hh
            have ec := hR.const
            refine Each.Goes.same ?_
            have e63 := h63 rfl
            go_simp
            try with_reducible rfl
          · refine Each.fine rfl (fun ev w1 hR hb hh => ?_)
            have e64 : (ev (.tmp 64) = .bool true) := hh.at 0
            clear hh
            refine Each.Goes.same ?_
            go_simp
            try with_reducible rfl
          · refine Each.fine_when 5 65 rfl rfl (fun ev w1 hh => ?_) (fun hg ev w1 hR hb hh => ?_)
            · exact hh.at 0
            · clear hh
              have e10 := hR.old 10 rfl
              simp only [Array.getD_eq_getD_getElem?, List.getElem?_toArray, List.getElem?_cons_succ, List.getElem?_cons_zero, Option.getD_some] at e10
              refine Each.Goes.same ?_
              go_simp
              try with_reducible rfl
          · refine Each.fine_when 5 65 rfl rfl (fun ev w1 hh => ?_) (fun hg ev w1 hR hb hh => ?_)
            · exact hh.at 1
            · have e66 := (show ((true) = true → ev (.tmp 66) = .slice (some ⟨bk, 0, none⟩) 2 c1) from hh.at 0) hg
              clear hh
              refine Each.Goes.same ?_
              go_simp
              try with_reducible rfl
          · refine Each.fine_when 5 65 rfl rfl (fun ev w1 hh => ?_) (fun hg ev w1 hR hb hh => ?_)
            · exact hh.at 1
            · have e67 := (show ((true) = true → ev (.tmp 67) = .int .i64 ((2 : Nat) : Int)) from hh.at 0) hg
              clear hh
              have ec := hR.const
              refine Each.Goes.same ?_
              go_simp
              try with_reducible rfl
          · refine Each.fine rfl (fun ev w1 hR hb hh => ?_)
            have e65 : (ev (.tmp 65) = .bool true) := hh.at 0
            have h68 : ((true) = true → ev (.tmp 68) = .bool true) := hh.at 1
            clear hh
            have ec := hR.const
            refine Each.Goes.same ?_
            have e68 := h68 rfl
            go_simp
            try with_reducible rfl
          · refine Each.fine rfl (fun ev w1 hR hb hh => ?_)
            have e69 : (ev (.tmp 69) = .bool true) := hh.at 0
            clear hh
            refine Each.Goes.same ?_
            go_simp
            try with_reducible rfl
          · refine Each.fine_when 10 70 rfl rfl (fun ev w1 hh => ?_) (fun hg ev w1 hR hb hh => ?_)
            · exact hh.at 0
            · clear hh
              have e10 := hR.old 10 rfl
              simp only [Array.getD_eq_getD_getElem?, List.getElem?_toArray, List.getElem?_cons_succ, List.getElem?_cons_zero, Option.getD_some] at e10
              refine Each.Goes.same ?_
              go_simp
              try with_reducible rfl
          · refine Each.fine_when 10 70 rfl rfl (fun ev w1 hh => ?_) (fun hg ev w1 hR hb hh => ?_)
            · exact hh.at 1
            · have e71 := (show ((true) = true → ev (.tmp 71) = .slice (some ⟨bk, 0, none⟩) 2 c1) from hh.at 0) hg
              clear hh
              have ec := hR.const
              refine Each.Goes.same ?_
              go_simp
              try with_reducible rfl
          · refine Each.fine_when 10 70 rfl rfl (fun ev w1 hh => ?_) (fun hg ev w1 hR hb hh => ?_)
            · exact hh.at 1
            · have e72 := (show ((true) = true → ev (.tmp 72) = .pointer (some ⟨bk, 0, none⟩)) from hh.at 0) hg
              clear hh
              obtain ⟨u0, u1, u2, u3, u4, u5, u6⟩ := HC0.out
              have q0 := (hb.cell (p := ⟨bk, 0, none⟩) HBK.out).trans u0
              have q1 := (hb.cell (p := ⟨bk, 1, none⟩) HBK.out).trans u1
              have q2 := (hb.cell (p := ⟨bk, 2, none⟩) HBK.out).trans u2
              have q3 := (hb.cell (p := ⟨bk, 3, none⟩) HBK.out).trans u3
              have q4 := (hb.cell (p := ⟨bk, 4, none⟩) HBK.out).trans u4
              have q5 := (hb.cell (p := ⟨bk, 5, none⟩) HBK.out).trans u5
              have q6 := (hb.cell (p := ⟨bk, 6, none⟩) HBK.out).trans u6
              clear u0 u1 u2 u3 u4 u5 u6
              refine Each.Goes.same ?_
              go_simp
              try with_reducible rfl
          · refine Each.fine_when 10 70 rfl rfl (fun ev w1 hh => ?_) (fun hg ev w1 hR hb hh => ?_)
            · exact hh.at 0
            · clear hh
              have e10 := hR.old 10 rfl
              simp only [Array.getD_eq_getD_getElem?, List.getElem?_toArray, List.getElem?_cons_succ, List.getElem?_cons_zero, Option.getD_some] at e10
              refine Each.Goes.same ?_
              go_simp
              try with_reducible rfl
          · refine Each.fine_when 10 70 rfl rfl (fun ev w1 hh => ?_) (fun hg ev w1 hR hb hh => ?_)
            · exact hh.at 1
            · have e74 := (show ((true) = true → ev (.tmp 74) = .slice (some ⟨bk, 0, none⟩) 2 c1) from hh.at 0) hg
              clear hh
              have ec := hR.const
              refine Each.Goes.same ?_
              go_simp
              try with_reducible rfl
          · refine Each.fine_when 10 70 rfl rfl (fun ev w1 hh => ?_) (fun hg ev w1 hR hb hh => ?_)
            · exact hh.at 1
            · have e75 := (show ((true) = true → ev (.tmp 75) = .pointer (some ⟨bk, 7, none⟩)) from hh.at 0) hg
              clear hh
              obtain ⟨u0, u1, u2, u3, u4, u5, u6⟩ := HC1.out
              have q0 := (hb.cell (p := ⟨bk, 7, none⟩) HBK.out).trans u0
              have q1 := (hb.cell (p := ⟨bk, 8, none⟩) HBK.out).trans u1
              have q2 := (hb.cell (p := ⟨bk, 9, none⟩) HBK.out).trans u2
              have q3 := (hb.cell (p := ⟨bk, 10, none⟩) HBK.out).trans u3
              have q4 := (hb.cell (p := ⟨bk, 11, none⟩) HBK.out).trans u4
              have q5 := (hb.cell (p := ⟨bk, 12, none⟩) HBK.out).trans u5
              have q6 := (hb.cell (p := ⟨bk, 13, none⟩) HBK.out).trans u6
              clear u0 u1 u2 u3 u4 u5 u6
              refine Each.Goes.same ?_
              go_simp
              try with_reducible rfl
          · refine Each.fine_when 10 70 rfl rfl (fun ev w1 hh => ?_) (fun hg ev w1 hR hb hh => ?_)
            · exact hh.at 2
            · have e73 := (show ((true) = true → ev (.tmp 73) = .agg #[.string (ba [71, 69, 84]), .string (ba [47]), .int .i64 1, .slice fa0 1 fc0, .bool false, .slice ba0 0 bc0, .slice ta0 0 tc0]) from hh.at 0) hg
              have e76 := (show ((true) = true → ev (.tmp 76) = .agg #[.string (ba [71, 69, 84]), .string (ba [47]), .int .i64 1, .slice fa1 1 fc1, .bool false, .slice ba1 0 bc1, .slice ta1 0 tc1]) from hh.at 1) hg
              clear hh
              have ef := hR.func
              refine Each.Goes.enter 39 #[.agg #[.string (ba [71, 69, 84]), .string (ba [47]), .int .i64 1, .slice fa0 1 fc0, .bool false, .slice ba0 0 bc0, .slice ta0 0 tc0], .agg #[.string (ba [71, 69, 84]), .string (ba [47]), .int .i64 1, .slice fa1 1 fc1, .bool false, .slice ba1 0 bc1, .slice ta1 0 tc1]] (by go_simp) ((Rec.rsame_any _ _ oneR oneR w1 (HA0.out.below hb) (HA1.out.below hb) one_fit one_fit).mono ?_)
              rintro r w2 ⟨rfl, h2⟩
              exact ⟨_, rfl, h2, by rw [Rec.same_self]⟩
          · refine Each.fine rfl (fun ev w1 hR hb hh => ?_)
            have e70 : (ev (.tmp 70) = .bool true) := hh.at 0
            have h77 : ((true) = true → ev (.tmp 77) = .bool true) := hh.at 1
            clear hh
            have ec := hR.const
            refine Each.Goes.same ?_
            have e77 := h77 rfl
            go_simp
            try with_reducible rfl
          · refine Each.fine rfl (fun ev w1 hR hb hh => ?_)
            have e78 : (ev (.tmp 78) = .bool true) := hh.at 0
            clear hh
            refine Each.Goes.same ?_
            go_simp
            try with_reducible rfl
          · refine Each.fine_when 19 79 rfl rfl (fun ev w1 hh => ?_) (fun hg ev w1 hR hb hh => ?_)
            · exact hh.at 0
            · clear hh
              have e14 := hR.old 14 rfl
              simp only [Array.getD_eq_getD_getElem?, List.getElem?_toArray, List.getElem?_cons_succ, List.getElem?_cons_zero, Option.getD_some] at e14
              refine Each.Goes.same ?_
              go_simp
              try with_reducible rfl
          · refine Each.fine_when 19 79 rfl rfl (fun ev w1 hh => ?_) (fun hg ev w1 hR hb hh => ?_)
            · exact hh.at 1
            · have e80 := (show ((true) = true → ev (.tmp 80) = .int .i64 400) from hh.at 0) hg
              clear hh
              have ec := hR.const
              refine Each.Goes.same ?_
              go_simp
              try with_reducible rfl
          · refine Each.fine_when 19 79 rfl rfl (fun ev w1 hh => ?_) (fun hg ev w1 hR hb hh => ?_)
            · exact hh.at 0
            · clear hh
              have e0 := hR.old 0 rfl
              simp only [Array.getD_eq_getD_getElem?, List.getElem?_toArray, List.getElem?_cons_zero, Option.getD_some] at e0
              refine Each.Goes.same ?_
              go_simp
              try with_reducible rfl
          · refine Each.fine_when 19 79 rfl rfl (fun ev w1 hh => ?_) (fun hg ev w1 hR hb hh => ?_)
            · exact hh.at 1
            · have e82 := (show ((true) = true → ev (.tmp 82) = .int .u8 n) from hh.at 0) hg
              clear hh
              have ec := hR.const
              obtain ⟨f1, f2⟩ := HM.out
              refine Each.Goes.same ?_
              go_simp
              try with_reducible rfl
          · refine Each.fine_when 19 79 rfl rfl (fun ev w1 hh => ?_) (fun hg ev w1 hR hb hh => ?_)
            · exact hh.at 1
            · have e83 := (show ((true) = true → ev (.tmp 83) = .int .u8 (q : Int)) from hh.at 0) hg
              clear hh
              have ec := hR.const
              have f3 := HCX.out
              refine Each.Goes.same ?_
              go_simp
              all_goals (first | with_reducible rfl | (clear ec; omega))
          · refine Each.fine_when 19 79 rfl rfl (fun ev w1 hh => ?_) (fun hg ev w1 hR hb hh => ?_)
            · exact hh.at 2
            · have e81 := (show ((true) = true → ev (.tmp 81) = .bool true) from hh.at 0) hg
              have e84 := (show ((true) = true → ev (.tmp 84) = .bool true) from hh.at 1) hg
              clear hh
              refine Each.Goes.same ?_
              go_simp
              try with_reducible rfl
          · refine Each.fine rfl (fun ev w1 hR hb hh => ?_)
            have e79 : (ev (.tmp 79) = .bool true) := hh.at 0
            have h85 : ((true) = true → ev (.tmp 85) = .bool true) := hh.at 1
            clear hh
            have ec := hR.const
            refine Each.Goes.same ?_
            have e85 := h85 rfl
            go_simp
            try with_reducible rfl
          · refine Each.fine rfl (fun ev w1 hR hb hh => ?_)
            have e86 : (ev (.tmp 86) = .bool true) := hh.at 0
            clear hh
            refine Each.Goes.same ?_
            go_simp
            try with_reducible rfl
        intro ga w9 hb9 hf
        have z4 : (ga 4 = .bool true) := hf.at 27
        clear hf
        simp only [Each.putg, Act.put, List.setIfInBounds_toArray, List.set_cons_zero, List.set_cons_succ]
        rw [z4]
        go_wp2_with fail
        go_ret
        exact ⟨rfl, Base.below_step (HB6.out.trans (HB8.out.mono HB6.out.size)) hb9⟩

      · have k5 : (Q.read p usualE (crlfs q ++ oneL)).err = 0 := by rw [HK4.out, if_neg hov]
        obtain ⟨cl2, hcl2⟩ : ∃ cl2, (Q.read p usualE (crlfs q ++ oneL)).clean = cl2 := ⟨_, rfl⟩
        obtain ⟨O2, hO2⟩ : ∃ O2, (Q.read p usualE (crlfs q ++ oneL)).out = O2 := ⟨_, rfl⟩
        have hrd2 := read_said (p := p) (by omega) usualE W7 _ cap7 _ hbt2 (by rw [hlen2]; have := HN2.out; omega) 0 cl2 O2 k5 hcl2 hO2
        rw [hlen2] at hrd2
        have HRD2 := Lib.hid (show Calls Tryz.prog 32 #[.int .u32 (p : Int), .agg #[.int .i64 1024, .int .i64 32, .int .i64 8192, .int .i64 65536, .int .i64 32, .int .i64 8, .int .i64 4, .int .i64 20, .bool true, .bool true], .slice (some ⟨w6.heap.size, 0, none⟩) (N + 27) cap7] W7 fun r w' => ∃ o, r = .returned (.tuple #[o, .int .i64 0, .bool cl2]) ∧ Said w' o O2 ∧ Below W7.heap.size W7 w' from hrd2)
        have HCX := Lib.hid (show ¬ (0 : Int) < (q : Int) by omega)
        clear hrd2 hbt2 hlen2 hcl2 hO2 hnc hov
        go_upto_region 13 with
          (go_at_call 32; with_reducible refine HRD2.out.mono ?_; rintro r w8 ⟨o2, rfl, hT, hb⟩
           clear hT
           have HB8 := Lib.hid (show Below w6.heap.size w6 w8 from HB7.out.trans (hb.mono HB7.out.size))
           clear hb y0 y1 y2 y3 y4 y5 y6 y7 y8 y9)
        have HBK := Lib.hid (show bk < (w8.drewN 1).heap.size from Nat.lt_of_lt_of_le HBK6.out (Base.below_drewN HB8.out 1).size)
        obtain ⟨fa0, fc0, ba0, bc0, ta0, tc0, p1, p2, p3, d0, d1, d2, d3, d4, d5, d6⟩ := HR0.out.below HBK6.out (Base.below_drewN HB8.out 1)
        have HC0 := Lib.hid (show w8.cell? ⟨bk, 0, none⟩ = some (.string (ba [71, 69, 84])) ∧ w8.cell? ⟨bk, 1, none⟩ = some (.string (ba [47])) ∧ w8.cell? ⟨bk, 2, none⟩ = some (.int .i64 1) ∧ w8.cell? ⟨bk, 3, none⟩ = some (.slice fa0 1 fc0) ∧ w8.cell? ⟨bk, 4, none⟩ = some (.bool false) ∧ w8.cell? ⟨bk, 5, none⟩ = some (.slice ba0 0 bc0) ∧ w8.cell? ⟨bk, 6, none⟩ = some (.slice ta0 0 tc0) from ⟨d0, d1, d2, d3, d4, d5, d6⟩)
        have HA0 := Lib.hid (show Rec.Reads (w8.drewN 1) (.agg #[.string (ba [71, 69, 84]), .string (ba [47]), .int .i64 1, .slice fa0 1 fc0, .bool false, .slice ba0 0 bc0, .slice ta0 0 tc0]) oneR from ⟨fa0, fc0, ba0, bc0, ta0, tc0, rfl, p1, p2, p3⟩)
        clear p1 p2 p3 d0 d1 d2 d3 d4 d5 d6
        obtain ⟨fa1, fc1, ba1, bc1, ta1, tc1, p1, p2, p3, d0, d1, d2, d3, d4, d5, d6⟩ := HR1.out.below HBK6.out (Base.below_drewN HB8.out 1)
        have HC1 := Lib.hid (show w8.cell? ⟨bk, 7, none⟩ = some (.string (ba [71, 69, 84])) ∧ w8.cell? ⟨bk, 8, none⟩ = some (.string (ba [47])) ∧ w8.cell? ⟨bk, 9, none⟩ = some (.int .i64 1) ∧ w8.cell? ⟨bk, 10, none⟩ = some (.slice fa1 1 fc1) ∧ w8.cell? ⟨bk, 11, none⟩ = some (.bool false) ∧ w8.cell? ⟨bk, 12, none⟩ = some (.slice ba1 0 bc1) ∧ w8.cell? ⟨bk, 13, none⟩ = some (.slice ta1 0 tc1) from ⟨d0, d1, d2, d3, d4, d5, d6⟩)
        have HA1 := Lib.hid (show Rec.Reads (w8.drewN 1) (.agg #[.string (ba [71, 69, 84]), .string (ba [47]), .int .i64 1, .slice fa1 1 fc1, .bool false, .slice ba1 0 bc1, .slice ta1 0 tc1]) oneR from ⟨fa1, fc1, ba1, bc1, ta1, tc1, rfl, p1, p2, p3⟩)
        clear p1 p2 p3 d0 d1 d2 d3 d4 d5 d6
        refine Each.region_all 28 [60, 61, 62, 63, 64, 65, 66, 67, 68, 69, 70, 71, 72, 73, 74, 75, 76, 77, 78, 79, 80, 81, 82, 83, 84, 85, 86, 4]
            [fun v _ => v = .int .i64 0,
              fun v _ => v = .bool true,
              fun v _ => v = .bool true,
              Each.When (true) true (fun v _ => v = .bool true),
              fun v _ => v = .bool true,
              fun v _ => v = .bool true,
              Each.When (true) true (fun v _ => v = .slice (some ⟨bk, 0, none⟩) 2 c1),
              Each.When (true) true (fun v _ => v = .int .i64 ((2 : Nat) : Int)),
              Each.When (true) true (fun v _ => v = .bool true),
              fun v _ => v = .bool true,
              fun v _ => v = .bool true,
              Each.When (true) true (fun v _ => v = .slice (some ⟨bk, 0, none⟩) 2 c1),
              Each.When (true) true (fun v _ => v = .pointer (some ⟨bk, 0, none⟩)),
              Each.When (true) true (fun v _ => v = .agg #[.string (ba [71, 69, 84]), .string (ba [47]), .int .i64 1, .slice fa0 1 fc0, .bool false, .slice ba0 0 bc0, .slice ta0 0 tc0]),
              Each.When (true) true (fun v _ => v = .slice (some ⟨bk, 0, none⟩) 2 c1),
              Each.When (true) true (fun v _ => v = .pointer (some ⟨bk, 7, none⟩)),
              Each.When (true) true (fun v _ => v = .agg #[.string (ba [71, 69, 84]), .string (ba [47]), .int .i64 1, .slice fa1 1 fc1, .bool false, .slice ba1 0 bc1, .slice ta1 0 tc1]),
              Each.When (true) true (fun v _ => v = .bool true),
              fun v _ => v = .bool true,
              fun v _ => v = .bool true,
              Each.When (true) true (fun v _ => v = .int .i64 0),
              Each.When (true) true (fun v _ => v = .bool false),
              Each.When (true) true (fun v _ => v = .int .u8 n),
              Each.When (true) true (fun v _ => v = .int .u8 (q : Int)),
              Each.When (true) true (fun v _ => v = .bool false),
              Each.When (true) true (fun v _ => v = .bool true),
              fun v _ => v = .bool true,
              fun v _ => v = .bool true]
             (by kernel_rfl) (by kernel_rfl) (by kernel_rfl) (by kernel_rfl) (fun _ _ d _ _ h => by cases d <;> exact h) (by rfl) (by rfl)
            ⟨Each.Lasts.eq _, Each.Lasts.eq _, Each.Lasts.eq _, Each.Lasts.when (Each.Lasts.eq _), Each.Lasts.eq _, Each.Lasts.eq _, Each.Lasts.when (Each.Lasts.eq _), Each.Lasts.when (Each.Lasts.eq _), Each.Lasts.when (Each.Lasts.eq _), Each.Lasts.eq _, Each.Lasts.eq _, Each.Lasts.when (Each.Lasts.eq _), Each.Lasts.when (Each.Lasts.eq _), Each.Lasts.when (Each.Lasts.eq _), Each.Lasts.when (Each.Lasts.eq _), Each.Lasts.when (Each.Lasts.eq _), Each.Lasts.when (Each.Lasts.eq _), Each.Lasts.when (Each.Lasts.eq _), Each.Lasts.eq _, Each.Lasts.eq _, Each.Lasts.when (Each.Lasts.eq _), Each.Lasts.when (Each.Lasts.eq _), Each.Lasts.when (Each.Lasts.eq _), Each.Lasts.when (Each.Lasts.eq _), Each.Lasts.when (Each.Lasts.eq _), Each.Lasts.when (Each.Lasts.eq _), Each.Lasts.eq _, Each.Lasts.eq _, trivial⟩ ?_ ?_
        · refine ⟨?_, ?_, ?_, ?_, ?_, ?_, ?_, ?_, ?_, ?_, ?_, ?_, ?_, ?_, ?_, ?_, ?_, ?_, ?_, ?_, ?_, ?_, ?_, ?_, ?_, ?_, ?_, ?_, trivial⟩
          · refine Each.fine rfl (fun ev w1 hR hb hh => ?_)
            clear hh
            have e11 := hR.old 11 rfl
            simp only [Array.getD_eq_getD_getElem?, List.getElem?_toArray, List.getElem?_cons_succ, List.getElem?_cons_zero, Option.getD_some] at e11
            refine Each.Goes.same ?_
            go_simp
            try with_reducible rfl
          · refine Each.fine rfl (fun ev w1 hR hb hh => ?_)
            have e60 : (ev (.tmp 60) = .int .i64 0) := hh.at 0
            clear hh
            have ec := hR.const
            refine Each.Goes.same ?_
            go_simp
            try with_reducible rfl
          · refine Each.fine rfl (fun ev w1 hR hb hh => ?_)
            have e61 : (ev (.tmp 61) = .bool true) := hh.at 0
            clear hh
            refine Each.Goes.same ?_
            go_simp
            try with_reducible rfl
          · refine Each.fine_when 2 62 rfl rfl (fun ev w1 hh => ?_) (fun hg ev w1 hR hb hh => ?_)
            · exact hh.at 0
            · clear hh
              have e12 := hR.old 12 rfl
              simp only [Array.getD_eq_getD_getElem?, List.getElem?_toArray, List.getElem?_cons_succ, List.getElem?_cons_zero, Option.getD_some] at e12
              refine Each.Goes.same ?_
              go_simp
              try with_reducible rfl
          · refine Each.fine rfl (fun ev w1 hR hb hh => ?_)
            have e62 : (ev (.tmp 62) = .bool true) := hh.at 0
            have h63 : ((true) = true → ev (.tmp 63) = .bool true) := hh.at 1
            clear hh
            have ec := hR.const
            refine Each.Goes.same ?_
            have e63 := h63 rfl
            go_simp
            try with_reducible rfl
          · refine Each.fine rfl (fun ev w1 hR hb hh => ?_)
            have e64 : (ev (.tmp 64) = .bool true) := hh.at 0
            clear hh
            refine Each.Goes.same ?_
            go_simp
            try with_reducible rfl
          · refine Each.fine_when 5 65 rfl rfl (fun ev w1 hh => ?_) (fun hg ev w1 hR hb hh => ?_)
            · exact hh.at 0
            · clear hh
              have e10 := hR.old 10 rfl
              simp only [Array.getD_eq_getD_getElem?, List.getElem?_toArray, List.getElem?_cons_succ, List.getElem?_cons_zero, Option.getD_some] at e10
              refine Each.Goes.same ?_
              go_simp
              try with_reducible rfl
          · refine Each.fine_when 5 65 rfl rfl (fun ev w1 hh => ?_) (fun hg ev w1 hR hb hh => ?_)
            · exact hh.at 1
            · have e66 := (show ((true) = true → ev (.tmp 66) = .slice (some ⟨bk, 0, none⟩) 2 c1) from hh.at 0) hg
              clear hh
              refine Each.Goes.same ?_
              go_simp
              try with_reducible rfl
          · refine Each.fine_when 5 65 rfl rfl (fun ev w1 hh => ?_) (fun hg ev w1 hR hb hh => ?_)
            · exact hh.at 1
            · have e67 := (show ((true) = true → ev (.tmp 67) = .int .i64 ((2 : Nat) : Int)) from hh.at 0) hg
              clear hh
              have ec := hR.const
              refine Each.Goes.same ?_
              go_simp
              try with_reducible rfl
          · refine Each.fine rfl (fun ev w1 hR hb hh => ?_)
            have e65 : (ev (.tmp 65) = .bool true) := hh.at 0
            have h68 : ((true) = true → ev (.tmp 68) = .bool true) := hh.at 1
            clear hh
            have ec := hR.const
            refine Each.Goes.same ?_
            have e68 := h68 rfl
            go_simp
            try with_reducible rfl
          · refine Each.fine rfl (fun ev w1 hR hb hh => ?_)
            have e69 : (ev (.tmp 69) = .bool true) := hh.at 0
            clear hh
            refine Each.Goes.same ?_
            go_simp
            try with_reducible rfl
          · refine Each.fine_when 10 70 rfl rfl (fun ev w1 hh => ?_) (fun hg ev w1 hR hb hh => ?_)
            · exact hh.at 0
            · clear hh
              have e10 := hR.old 10 rfl
              simp only [Array.getD_eq_getD_getElem?, List.getElem?_toArray, List.getElem?_cons_succ, List.getElem?_cons_zero, Option.getD_some] at e10
              refine Each.Goes.same ?_
              go_simp
              try with_reducible rfl
          · refine Each.fine_when 10 70 rfl rfl (fun ev w1 hh => ?_) (fun hg ev w1 hR hb hh => ?_)
            · exact hh.at 1
            · have e71 := (show ((true) = true → ev (.tmp 71) = .slice (some ⟨bk, 0, none⟩) 2 c1) from hh.at 0) hg
              clear hh
              have ec := hR.const
              refine Each.Goes.same ?_
              go_simp
              try with_reducible rfl
          · refine Each.fine_when 10 70 rfl rfl (fun ev w1 hh => ?_) (fun hg ev w1 hR hb hh => ?_)
            · exact hh.at 1
            · have e72 := (show ((true) = true → ev (.tmp 72) = .pointer (some ⟨bk, 0, none⟩)) from hh.at 0) hg
              clear hh
              obtain ⟨u0, u1, u2, u3, u4, u5, u6⟩ := HC0.out
              have q0 := (hb.cell (p := ⟨bk, 0, none⟩) HBK.out).trans u0
              have q1 := (hb.cell (p := ⟨bk, 1, none⟩) HBK.out).trans u1
              have q2 := (hb.cell (p := ⟨bk, 2, none⟩) HBK.out).trans u2
              have q3 := (hb.cell (p := ⟨bk, 3, none⟩) HBK.out).trans u3
              have q4 := (hb.cell (p := ⟨bk, 4, none⟩) HBK.out).trans u4
              have q5 := (hb.cell (p := ⟨bk, 5, none⟩) HBK.out).trans u5
              have q6 := (hb.cell (p := ⟨bk, 6, none⟩) HBK.out).trans u6
              clear u0 u1 u2 u3 u4 u5 u6
              refine Each.Goes.same ?_
              go_simp
              try with_reducible rfl
          · refine Each.fine_when 10 70 rfl rfl (fun ev w1 hh => ?_) (fun hg ev w1 hR hb hh => ?_)
            · exact hh.at 0
            · clear hh
              have e10 := hR.old 10 rfl
              simp only [Array.getD_eq_getD_getElem?, List.getElem?_toArray, List.getElem?_cons_succ, List.getElem?_cons_zero, Option.getD_some] at e10
              refine Each.Goes.same ?_
              go_simp
              try with_reducible rfl
          · refine Each.fine_when 10 70 rfl rfl (fun ev w1 hh => ?_) (fun hg ev w1 hR hb hh => ?_)
            · exact hh.at 1
            · have e74 := (show ((true) = true → ev (.tmp 74) = .slice (some ⟨bk, 0, none⟩) 2 c1) from hh.at 0) hg
              clear hh
              have ec := hR.const
              refine Each.Goes.same ?_
              go_simp
              try with_reducible rfl
          · refine Each.fine_when 10 70 rfl rfl (fun ev w1 hh => ?_) (fun hg ev w1 hR hb hh => ?_)
            · exact hh.at 1
            · have e75 := (show ((true) = true → ev (.tmp 75) = .pointer (some ⟨bk, 7, none⟩)) from hh.at 0) hg
              clear hh
              obtain ⟨u0, u1, u2, u3, u4, u5, u6⟩ := HC1.out
              have q0 := (hb.cell (p := ⟨bk, 7, none⟩) HBK.out).trans u0
              have q1 := (hb.cell (p := ⟨bk, 8, none⟩) HBK.out).trans u1
              have q2 := (hb.cell (p := ⟨bk, 9, none⟩) HBK.out).trans u2
              have q3 := (hb.cell (p := ⟨bk, 10, none⟩) HBK.out).trans u3
              have q4 := (hb.cell (p := ⟨bk, 11, none⟩) HBK.out).trans u4
              have q5 := (hb.cell (p := ⟨bk, 12, none⟩) HBK.out).trans u5
              have q6 := (hb.cell (p := ⟨bk, 13, none⟩) HBK.out).trans u6
              clear u0 u1 u2 u3 u4 u5 u6
              refine Each.Goes.same ?_
              go_simp
              try with_reducible rfl
          · refine Each.fine_when 10 70 rfl rfl (fun ev w1 hh => ?_) (fun hg ev w1 hR hb hh => ?_)
            · exact hh.at 2
            · have e73 := (show ((true) = true → ev (.tmp 73) = .agg #[.string (ba [71, 69, 84]), .string (ba [47]), .int .i64 1, .slice fa0 1 fc0, .bool false, .slice ba0 0 bc0, .slice ta0 0 tc0]) from hh.at 0) hg
              have e76 := (show ((true) = true → ev (.tmp 76) = .agg #[.string (ba [71, 69, 84]), .string (ba [47]), .int .i64 1, .slice fa1 1 fc1, .bool false, .slice ba1 0 bc1, .slice ta1 0 tc1]) from hh.at 1) hg
              clear hh
              have ef := hR.func
              refine Each.Goes.enter 39 #[.agg #[.string (ba [71, 69, 84]), .string (ba [47]), .int .i64 1, .slice fa0 1 fc0, .bool false, .slice ba0 0 bc0, .slice ta0 0 tc0], .agg #[.string (ba [71, 69, 84]), .string (ba [47]), .int .i64 1, .slice fa1 1 fc1, .bool false, .slice ba1 0 bc1, .slice ta1 0 tc1]] (by go_simp) ((Rec.rsame_any _ _ oneR oneR w1 (HA0.out.below hb) (HA1.out.below hb) one_fit one_fit).mono ?_)
              rintro r w2 ⟨rfl, h2⟩
              exact ⟨_, rfl, h2, by rw [Rec.same_self]⟩
          · refine Each.fine rfl (fun ev w1 hR hb hh => ?_)
            have e70 : (ev (.tmp 70) = .bool true) := hh.at 0
            have h77 : ((true) = true → ev (.tmp 77) = .bool true) := hh.at 1
            clear hh
            have ec := hR.const
            refine Each.Goes.same ?_
            have e77 := h77 rfl
            go_simp
            try with_reducible rfl
          · refine Each.fine rfl (fun ev w1 hR hb hh => ?_)
            have e78 : (ev (.tmp 78) = .bool true) := hh.at 0
            clear hh
            refine Each.Goes.same ?_
            go_simp
            try with_reducible rfl
          · refine Each.fine_when 19 79 rfl rfl (fun ev w1 hh => ?_) (fun hg ev w1 hR hb hh => ?_)
            · exact hh.at 0
            · clear hh
              have e14 := hR.old 14 rfl
              simp only [Array.getD_eq_getD_getElem?, List.getElem?_toArray, List.getElem?_cons_succ, List.getElem?_cons_zero, Option.getD_some] at e14
              refine Each.Goes.same ?_
              go_simp
              try with_reducible rfl
          · refine Each.fine_when 19 79 rfl rfl (fun ev w1 hh => ?_) (fun hg ev w1 hR hb hh => ?_)
            · exact hh.at 1
            · have e80 := (show ((true) = true → ev (.tmp 80) = .int .i64 0) from hh.at 0) hg
              clear hh
              have ec := hR.const
              refine Each.Goes.same ?_
              go_simp
              try with_reducible rfl
          · refine Each.fine_when 19 79 rfl rfl (fun ev w1 hh => ?_) (fun hg ev w1 hR hb hh => ?_)
            · exact hh.at 0
            · clear hh
              have e0 := hR.old 0 rfl
              simp only [Array.getD_eq_getD_getElem?, List.getElem?_toArray, List.getElem?_cons_zero, Option.getD_some] at e0
              refine Each.Goes.same ?_
              go_simp
              try with_reducible rfl
          · refine Each.fine_when 19 79 rfl rfl (fun ev w1 hh => ?_) (fun hg ev w1 hR hb hh => ?_)
            · exact hh.at 1
            · have e82 := (show ((true) = true → ev (.tmp 82) = .int .u8 n) from hh.at 0) hg
              clear hh
              have ec := hR.const
              obtain ⟨f1, f2⟩ := HM.out
              refine Each.Goes.same ?_
              go_simp
              try with_reducible rfl
          · refine Each.fine_when 19 79 rfl rfl (fun ev w1 hh => ?_) (fun hg ev w1 hR hb hh => ?_)
            · exact hh.at 1
            · have e83 := (show ((true) = true → ev (.tmp 83) = .int .u8 (q : Int)) from hh.at 0) hg
              clear hh
              have ec := hR.const
              have f3 := HCX.out
              refine Each.Goes.same ?_
              go_simp
              all_goals (first | with_reducible rfl | (clear ec; omega))
          · refine Each.fine_when 19 79 rfl rfl (fun ev w1 hh => ?_) (fun hg ev w1 hR hb hh => ?_)
            · exact hh.at 2
            · have e81 := (show ((true) = true → ev (.tmp 81) = .bool false) from hh.at 0) hg
              have e84 := (show ((true) = true → ev (.tmp 84) = .bool false) from hh.at 1) hg
              clear hh
              refine Each.Goes.same ?_
              go_simp
              try with_reducible rfl
          · refine Each.fine rfl (fun ev w1 hR hb hh => ?_)
            have e79 : (ev (.tmp 79) = .bool true) := hh.at 0
            have h85 : ((true) = true → ev (.tmp 85) = .bool true) := hh.at 1
            clear hh
            have ec := hR.const
            refine Each.Goes.same ?_
            have e85 := h85 rfl
            go_simp
            try with_reducible rfl
          · refine Each.fine rfl (fun ev w1 hR hb hh => ?_)
            have e86 : (ev (.tmp 86) = .bool true) := hh.at 0
            clear hh
            refine Each.Goes.same ?_
            go_simp
            try with_reducible rfl
        intro ga w9 hb9 hf
        have z4 : (ga 4 = .bool true) := hf.at 27
        clear hf
        simp only [Each.putg, Act.put, List.setIfInBounds_toArray, List.set_cons_zero, List.set_cons_succ]
        rw [z4]
        go_wp2_with fail
        go_ret
        exact ⟨rfl, Base.below_step (HB6.out.trans (HB8.out.mono HB6.out.size)) hb9⟩

end code
end Go.Proofs.YtbineebnhjifiaaGreatDoor.Pg
