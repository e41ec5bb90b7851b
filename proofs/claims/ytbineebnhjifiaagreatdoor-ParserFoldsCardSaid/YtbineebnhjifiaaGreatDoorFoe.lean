/-
  What the proof reaches, part 5.
-/
import Derived.Test.YtbineebnhjifiaaGreatDoorFod
/- PgKnown -/
namespace Go.Proofs.YtbineebnhjifiaaGreatDoor.Pg
open Go.RowKit Base Txt Mem Par

theorem k1_all : (Q.read 0 usual [80, 79, 83, 84, 32, 47, 97, 32, 72, 84, 84, 80, 47, 49, 46, 49, 13, 10, 72, 111, 115, 116, 58, 32, 104, 13, 10, 84, 114, 97, 110, 115, 102, 101, 114, 45, 69, 110, 99, 111, 100, 105, 110, 103, 58, 32, 99, 104, 117, 110, 107, 101, 100, 13, 10, 13, 10, 51, 13, 10, 97, 98, 99, 13, 10, 48, 13, 10, 84, 58, 32, 117, 13, 10, 13, 10, 71]).err = 0 ∧ (Q.read 0 usual [80, 79, 83, 84, 32, 47, 97, 32, 72, 84, 84, 80, 47, 49, 46, 49, 13, 10, 72, 111, 115, 116, 58, 32, 104, 13, 10, 84, 114, 97, 110, 115, 102, 101, 114, 45, 69, 110, 99, 111, 100, 105, 110, 103, 58, 32, 99, 104, 117, 110, 107, 101, 100, 13, 10, 13, 10, 51, 13, 10, 97, 98, 99, 13, 10, 48, 13, 10, 84, 58, 32, 117, 13, 10, 13, 10, 71]).clean = false ∧ (Q.read 0 usual [80, 79, 83, 84, 32, 47, 97, 32, 72, 84, 84, 80, 47, 49, 46, 49, 13, 10, 72, 111, 115, 116, 58, 32, 104, 13, 10, 84, 114, 97, 110, 115, 102, 101, 114, 45, 69, 110, 99, 111, 100, 105, 110, 103, 58, 32, 99, 104, 117, 110, 107, 101, 100, 13, 10, 13, 10, 51, 13, 10, 97, 98, 99, 13, 10, 48, 13, 10, 84, 58, 32, 117, 13, 10, 13, 10, 71]).out.map (fun r => (r.body, r.ts.length, r.ch)) = [([97, 98, 99], 1, true)] ∧ (Q.read 0 usual [80, 79, 83, 84, 32, 47, 97, 32, 72, 84, 84, 80, 47, 49, 46, 49, 13, 10, 72, 111, 115, 116, 58, 32, 104, 13, 10, 84, 114, 97, 110, 115, 102, 101, 114, 45, 69, 110, 99, 111, 100, 105, 110, 103, 58, 32, 99, 104, 117, 110, 107, 101, 100, 13, 10, 13, 10, 51, 13, 10, 97, 98, 99, 13, 10, 48, 13, 10, 84, 58, 32, 117, 13, 10, 13, 10, 71]).out.length = 1 := by decide +kernel
theorem k1_out : ∃ r : Rec.R, (Q.read 0 usual [80, 79, 83, 84, 32, 47, 97, 32, 72, 84, 84, 80, 47, 49, 46, 49, 13, 10, 72, 111, 115, 116, 58, 32, 104, 13, 10, 84, 114, 97, 110, 115, 102, 101, 114, 45, 69, 110, 99, 111, 100, 105, 110, 103, 58, 32, 99, 104, 117, 110, 107, 101, 100, 13, 10, 13, 10, 51, 13, 10, 97, 98, 99, 13, 10, 48, 13, 10, 84, 58, 32, 117, 13, 10, 13, 10, 71]).out = [r] ∧ r.body = [97, 98, 99] ∧ r.ts.length = 1 ∧ r.ch = true := by
  have h := k1_all.2.2.1
  obtain ⟨r, hr⟩ := List.length_eq_one_iff.1 k1_all.2.2.2
  rw [hr] at h
  have h2 : (r.body, r.ts.length, r.ch) = ([97, 98, 99], 1, true) := by injection h
  exact ⟨r, hr, congrArg Prod.fst h2, congrArg (fun x => x.2.1) h2, congrArg (fun x => x.2.2) h2⟩
theorem k2_all : (Q.read 0 usual [71, 69, 84, 32, 47, 32, 72, 84, 84, 80, 47, 49, 46, 49, 10]).err = 400 ∧ (Q.read 0 usual [71, 69, 84, 32, 47, 32, 72, 84, 84, 80, 47, 49, 46, 49, 10]).clean = false ∧ (Q.read 0 usual [71, 69, 84, 32, 47, 32, 72, 84, 84, 80, 47, 49, 46, 49, 10]).out.length = 0 := by decide +kernel
theorem k3_all : (Q.read 0 usual ([80, 79, 83, 84, 32, 47, 32, 72, 84, 84, 80, 47, 49, 46, 49, 13, 10, 72, 111, 115, 116, 58, 32, 104, 13, 10, 69, 120, 112, 101, 99, 116, 58, 32, 49, 48, 48, 45, 99, 111, 110, 116, 105, 110, 117, 101, 13, 10] ++ [67, 111, 110, 116, 101, 110, 116, 45, 76, 101, 110, 103, 116, 104, 58, 32, 50, 13, 10, 13, 10])).waits = true ∧ (Q.read 0 usual ([80, 79, 83, 84, 32, 47, 32, 72, 84, 84, 80, 47, 49, 46, 49, 13, 10, 72, 111, 115, 116, 58, 32, 104, 13, 10, 69, 120, 112, 101, 99, 116, 58, 32, 49, 48, 48, 45, 99, 111, 110, 116, 105, 110, 117, 101, 13, 10] ++ [67, 111, 110, 116, 101, 110, 116, 45, 76, 101, 110, 103, 116, 104, 58, 32, 50, 13, 10, 13, 10])).held = 43 ∧ (Q.read 0 usual ([80, 79, 83, 84, 32, 47, 32, 72, 84, 84, 80, 47, 49, 46, 49, 13, 10, 72, 111, 115, 116, 58, 32, 104, 13, 10, 69, 120, 112, 101, 99, 116, 58, 32, 49, 48, 48, 45, 99, 111, 110, 116, 105, 110, 117, 101, 13, 10] ++ [67, 111, 110, 116, 101, 110, 116, 45, 76, 101, 110, 103, 116, 104, 58, 32, 50, 13, 10, 13, 10])).out.length = 0 ∧ ((Q.read 0 usual ([80, 79, 83, 84, 32, 47, 32, 72, 84, 84, 80, 47, 49, 46, 49, 13, 10, 72, 111, 115, 116, 58, 32, 104, 13, 10, 69, 120, 112, 101, 99, 116, 58, 32, 49, 48, 48, 45, 99, 111, 110, 116, 105, 110, 117, 101, 13, 10] ++ [67, 111, 110, 116, 101, 110, 116, 45, 76, 101, 110, 103, 116, 104, 58, 32, 50, 13, 10, 13, 10])).told.feed 0 usual [97, 98]).out.length = 1 ∧
    ((Q.read 0 usual ([80, 79, 83, 84, 32, 47, 32, 72, 84, 84, 80, 47, 49, 46, 49, 13, 10, 72, 111, 115, 116, 58, 32, 104, 13, 10, 69, 120, 112, 101, 99, 116, 58, 32, 49, 48, 48, 45, 99, 111, 110, 116, 105, 110, 117, 101, 13, 10] ++ [67, 111, 110, 116, 101, 110, 116, 45, 76, 101, 110, 103, 116, 104, 58, 32, 50, 13, 10, 13, 10])).told.feed 0 usual [97, 98]).clean = true ∧ ((Q.read 0 usual ([80, 79, 83, 84, 32, 47, 32, 72, 84, 84, 80, 47, 49, 46, 49, 13, 10, 72, 111, 115, 116, 58, 32, 104, 13, 10, 69, 120, 112, 101, 99, 116, 58, 32, 49, 48, 48, 45, 99, 111, 110, 116, 105, 110, 117, 101, 13, 10] ++ [67, 111, 110, 116, 101, 110, 116, 45, 76, 101, 110, 103, 116, 104, 58, 32, 50, 13, 10, 13, 10])).told.feed 0 usual [97, 98]).err = 0 ∧ ((Q.read 0 usual ([80, 79, 83, 84, 32, 47, 32, 72, 84, 84, 80, 47, 49, 46, 49, 13, 10, 72, 111, 115, 116, 58, 32, 104, 13, 10, 69, 120, 112, 101, 99, 116, 58, 32, 49, 48, 48, 45, 99, 111, 110, 116, 105, 110, 117, 101, 13, 10] ++ [67, 111, 110, 116, 101, 110, 116, 45, 76, 101, 110, 103, 116, 104, 58, 32, 50, 13, 10, 13, 10])).told.feed 0 usual [97, 98]).held = 0 := by decide +kernel
section code
set_option maxHeartbeats 8000000
set_option maxRecDepth 100000
attribute [local go_sem] Base.some_undef
theorem feed_said {p : Nat} {b : Bd} {w : World} {B : Zone} {g : Nat} {L : List (Option Nat)} {x : Q} (hp : p < 4294967296) (h : At w B g p b L x) (ok : x.Ok b) (hw : x.out = []) (a : Option Addr) (ca : Nat) (ls : List (List UInt8)) (hl : Parts L w a ls) (hn : ls.length ≤ 1000000) (hle : ls.flatten.length ≤ 400000000) :
    Calls Tryz.prog 22 #[ptr g, .slice a ls.length ca] w fun r w' => ∃ o L', r = .returned o ∧ At w' B g p b L' (x.feed p b ls.flatten).told ∧ (x.feed p b ls.flatten).told.Ok b ∧ (x.feed p b ls.flatten).told.out = [] ∧ Said w' o (x.feed p b ls.flatten).out ∧ Step L L' w w' := by
  refine (feed_any hp x h ok a ca ls hl hn (by rw [hw]; simp only [List.length_nil]; omega)).mono ?_
  rintro r w' ⟨o, L', rfl, h1, h2, h3⟩
  exact ⟨o, L', rfl, h1, told_ok (Q.Ok.feed _ ok), told_out _, h2.said, h3⟩
theorem known_any (w : World) : Calls Tryz.prog 15 #[] w fun e w' => e = .returned (.bool true) ∧ Below w.heap.size w w' := by
  obtain ⟨r1, ho1, hbd1, hts1, hch1⟩ := k1_out
  have ho2 : (Q.read 0 usual [71, 69, 84, 32, 47, 32, 72, 84, 84, 80, 47, 49, 46, 49, 10]).out = [] := List.eq_nil_of_length_eq_zero k2_all.2.2
  have hc1 : ∀ w : World, (convert 22 22 (.slice (some ⟨w.heap.size, 0, none⟩) 77 77)).run Tryz.prog (w.alloc (.cells #[.int .u8 80, .int .u8 79, .int .u8 83, .int .u8 84, .int .u8 32, .int .u8 47, .int .u8 97, .int .u8 32, .int .u8 72, .int .u8 84, .int .u8 84, .int .u8 80, .int .u8 47, .int .u8 49, .int .u8 46, .int .u8 49, .int .u8 13, .int .u8 10, .int .u8 72, .int .u8 111, .int .u8 115, .int .u8 116, .int .u8 58, .int .u8 32, .int .u8 104, .int .u8 13, .int .u8 10, .int .u8 84, .int .u8 114, .int .u8 97, .int .u8 110, .int .u8 115, .int .u8 102, .int .u8 101, .int .u8 114, .int .u8 45, .int .u8 69, .int .u8 110, .int .u8 99, .int .u8 111, .int .u8 100, .int .u8 105, .int .u8 110, .int .u8 103, .int .u8 58, .int .u8 32, .int .u8 99, .int .u8 104, .int .u8 117, .int .u8 110, .int .u8 107, .int .u8 101, .int .u8 100, .int .u8 13, .int .u8 10, .int .u8 13, .int .u8 10, .int .u8 51, .int .u8 13, .int .u8 10, .int .u8 97, .int .u8 98, .int .u8 99, .int .u8 13, .int .u8 10, .int .u8 48, .int .u8 13, .int .u8 10, .int .u8 84, .int .u8 58, .int .u8 32, .int .u8 117, .int .u8 13, .int .u8 10, .int .u8 13, .int .u8 10, .int .u8 71] 5)) = .ok (.slice (some ⟨w.heap.size, 0, none⟩) 77 77) (w.alloc (.cells #[.int .u8 80, .int .u8 79, .int .u8 83, .int .u8 84, .int .u8 32, .int .u8 47, .int .u8 97, .int .u8 32, .int .u8 72, .int .u8 84, .int .u8 84, .int .u8 80, .int .u8 47, .int .u8 49, .int .u8 46, .int .u8 49, .int .u8 13, .int .u8 10, .int .u8 72, .int .u8 111, .int .u8 115, .int .u8 116, .int .u8 58, .int .u8 32, .int .u8 104, .int .u8 13, .int .u8 10, .int .u8 84, .int .u8 114, .int .u8 97, .int .u8 110, .int .u8 115, .int .u8 102, .int .u8 101, .int .u8 114, .int .u8 45, .int .u8 69, .int .u8 110, .int .u8 99, .int .u8 111, .int .u8 100, .int .u8 105, .int .u8 110, .int .u8 103, .int .u8 58, .int .u8 32, .int .u8 99, .int .u8 104, .int .u8 117, .int .u8 110, .int .u8 107, .int .u8 101, .int .u8 100, .int .u8 13, .int .u8 10, .int .u8 13, .int .u8 10, .int .u8 51, .int .u8 13, .int .u8 10, .int .u8 97, .int .u8 98, .int .u8 99, .int .u8 13, .int .u8 10, .int .u8 48, .int .u8 13, .int .u8 10, .int .u8 84, .int .u8 58, .int .u8 32, .int .u8 117, .int .u8 13, .int .u8 10, .int .u8 13, .int .u8 10, .int .u8 71] 5 (77, 78))) := fun w =>
    Lib.run_convert_bytes_const w 22 5 #[.int .u8 80, .int .u8 79, .int .u8 83, .int .u8 84, .int .u8 32, .int .u8 47, .int .u8 97, .int .u8 32, .int .u8 72, .int .u8 84, .int .u8 84, .int .u8 80, .int .u8 47, .int .u8 49, .int .u8 46, .int .u8 49, .int .u8 13, .int .u8 10, .int .u8 72, .int .u8 111, .int .u8 115, .int .u8 116, .int .u8 58, .int .u8 32, .int .u8 104, .int .u8 13, .int .u8 10, .int .u8 84, .int .u8 114, .int .u8 97, .int .u8 110, .int .u8 115, .int .u8 102, .int .u8 101, .int .u8 114, .int .u8 45, .int .u8 69, .int .u8 110, .int .u8 99, .int .u8 111, .int .u8 100, .int .u8 105, .int .u8 110, .int .u8 103, .int .u8 58, .int .u8 32, .int .u8 99, .int .u8 104, .int .u8 117, .int .u8 110, .int .u8 107, .int .u8 101, .int .u8 100, .int .u8 13, .int .u8 10, .int .u8 13, .int .u8 10, .int .u8 51, .int .u8 13, .int .u8 10, .int .u8 97, .int .u8 98, .int .u8 99, .int .u8 13, .int .u8 10, .int .u8 48, .int .u8 13, .int .u8 10, .int .u8 84, .int .u8 58, .int .u8 32, .int .u8 117, .int .u8 13, .int .u8 10, .int .u8 13, .int .u8 10, .int .u8 71] 77 77 Tryz.underlying22 Tryz.underlying5
  have hc2 : ∀ w : World, (convert 22 22 (.slice (some ⟨w.heap.size, 0, none⟩) 15 15)).run Tryz.prog (w.alloc (.cells #[.int .u8 71, .int .u8 69, .int .u8 84, .int .u8 32, .int .u8 47, .int .u8 32, .int .u8 72, .int .u8 84, .int .u8 84, .int .u8 80, .int .u8 47, .int .u8 49, .int .u8 46, .int .u8 49, .int .u8 10] 5)) = .ok (.slice (some ⟨w.heap.size, 0, none⟩) 15 15) (w.alloc (.cells #[.int .u8 71, .int .u8 69, .int .u8 84, .int .u8 32, .int .u8 47, .int .u8 32, .int .u8 72, .int .u8 84, .int .u8 84, .int .u8 80, .int .u8 47, .int .u8 49, .int .u8 46, .int .u8 49, .int .u8 10] 5 (15, 16))) := fun w =>
    Lib.run_convert_bytes_const w 22 5 #[.int .u8 71, .int .u8 69, .int .u8 84, .int .u8 32, .int .u8 47, .int .u8 32, .int .u8 72, .int .u8 84, .int .u8 84, .int .u8 80, .int .u8 47, .int .u8 49, .int .u8 46, .int .u8 49, .int .u8 10] 15 15 Tryz.underlying22 Tryz.underlying5
  have hc3 : ∀ w : World, (convert 22 22 (.slice (some ⟨w.heap.size, 0, none⟩) 48 48)).run Tryz.prog (w.alloc (.cells #[.int .u8 80, .int .u8 79, .int .u8 83, .int .u8 84, .int .u8 32, .int .u8 47, .int .u8 32, .int .u8 72, .int .u8 84, .int .u8 84, .int .u8 80, .int .u8 47, .int .u8 49, .int .u8 46, .int .u8 49, .int .u8 13, .int .u8 10, .int .u8 72, .int .u8 111, .int .u8 115, .int .u8 116, .int .u8 58, .int .u8 32, .int .u8 104, .int .u8 13, .int .u8 10, .int .u8 69, .int .u8 120, .int .u8 112, .int .u8 101, .int .u8 99, .int .u8 116, .int .u8 58, .int .u8 32, .int .u8 49, .int .u8 48, .int .u8 48, .int .u8 45, .int .u8 99, .int .u8 111, .int .u8 110, .int .u8 116, .int .u8 105, .int .u8 110, .int .u8 117, .int .u8 101, .int .u8 13, .int .u8 10] 5)) = .ok (.slice (some ⟨w.heap.size, 0, none⟩) 48 48) (w.alloc (.cells #[.int .u8 80, .int .u8 79, .int .u8 83, .int .u8 84, .int .u8 32, .int .u8 47, .int .u8 32, .int .u8 72, .int .u8 84, .int .u8 84, .int .u8 80, .int .u8 47, .int .u8 49, .int .u8 46, .int .u8 49, .int .u8 13, .int .u8 10, .int .u8 72, .int .u8 111, .int .u8 115, .int .u8 116, .int .u8 58, .int .u8 32, .int .u8 104, .int .u8 13, .int .u8 10, .int .u8 69, .int .u8 120, .int .u8 112, .int .u8 101, .int .u8 99, .int .u8 116, .int .u8 58, .int .u8 32, .int .u8 49, .int .u8 48, .int .u8 48, .int .u8 45, .int .u8 99, .int .u8 111, .int .u8 110, .int .u8 116, .int .u8 105, .int .u8 110, .int .u8 117, .int .u8 101, .int .u8 13, .int .u8 10] 5 (48, 49))) := fun w =>
    Lib.run_convert_bytes_const w 22 5 #[.int .u8 80, .int .u8 79, .int .u8 83, .int .u8 84, .int .u8 32, .int .u8 47, .int .u8 32, .int .u8 72, .int .u8 84, .int .u8 84, .int .u8 80, .int .u8 47, .int .u8 49, .int .u8 46, .int .u8 49, .int .u8 13, .int .u8 10, .int .u8 72, .int .u8 111, .int .u8 115, .int .u8 116, .int .u8 58, .int .u8 32, .int .u8 104, .int .u8 13, .int .u8 10, .int .u8 69, .int .u8 120, .int .u8 112, .int .u8 101, .int .u8 99, .int .u8 116, .int .u8 58, .int .u8 32, .int .u8 49, .int .u8 48, .int .u8 48, .int .u8 45, .int .u8 99, .int .u8 111, .int .u8 110, .int .u8 116, .int .u8 105, .int .u8 110, .int .u8 117, .int .u8 101, .int .u8 13, .int .u8 10] 48 48 Tryz.underlying22 Tryz.underlying5
  have hc4 : ∀ w : World, (convert 22 22 (.slice (some ⟨w.heap.size, 0, none⟩) 21 21)).run Tryz.prog (w.alloc (.cells #[.int .u8 67, .int .u8 111, .int .u8 110, .int .u8 116, .int .u8 101, .int .u8 110, .int .u8 116, .int .u8 45, .int .u8 76, .int .u8 101, .int .u8 110, .int .u8 103, .int .u8 116, .int .u8 104, .int .u8 58, .int .u8 32, .int .u8 50, .int .u8 13, .int .u8 10, .int .u8 13, .int .u8 10] 5)) = .ok (.slice (some ⟨w.heap.size, 0, none⟩) 21 21) (w.alloc (.cells #[.int .u8 67, .int .u8 111, .int .u8 110, .int .u8 116, .int .u8 101, .int .u8 110, .int .u8 116, .int .u8 45, .int .u8 76, .int .u8 101, .int .u8 110, .int .u8 103, .int .u8 116, .int .u8 104, .int .u8 58, .int .u8 32, .int .u8 50, .int .u8 13, .int .u8 10, .int .u8 13, .int .u8 10] 5 (21, 22))) := fun w =>
    Lib.run_convert_bytes_const w 22 5 #[.int .u8 67, .int .u8 111, .int .u8 110, .int .u8 116, .int .u8 101, .int .u8 110, .int .u8 116, .int .u8 45, .int .u8 76, .int .u8 101, .int .u8 110, .int .u8 103, .int .u8 116, .int .u8 104, .int .u8 58, .int .u8 32, .int .u8 50, .int .u8 13, .int .u8 10, .int .u8 13, .int .u8 10] 21 21 Tryz.underlying22 Tryz.underlying5
  have hc5 : ∀ w : World, (convert 22 22 (.slice (some ⟨w.heap.size, 0, none⟩) 2 2)).run Tryz.prog (w.alloc (.cells #[.int .u8 97, .int .u8 98] 5)) = .ok (.slice (some ⟨w.heap.size, 0, none⟩) 2 2) (w.alloc (.cells #[.int .u8 97, .int .u8 98] 5 (2, 3))) := fun w =>
    Lib.run_convert_bytes_const w 22 5 #[.int .u8 97, .int .u8 98] 2 2 Tryz.underlying22 Tryz.underlying5
  have HK1 : Hid (∀ w : World, Calls Tryz.prog 32 #[.int .u32 0, .agg #[.int .i64 1024, .int .i64 32, .int .i64 8192, .int .i64 65536, .int .i64 32, .int .i64 8, .int .i64 4, .int .i64 20, .bool true, .bool true], .slice (some ⟨w.heap.size, 0, none⟩) 77 77] (w.alloc (.cells #[.int .u8 80, .int .u8 79, .int .u8 83, .int .u8 84, .int .u8 32, .int .u8 47, .int .u8 97, .int .u8 32, .int .u8 72, .int .u8 84, .int .u8 84, .int .u8 80, .int .u8 47, .int .u8 49, .int .u8 46, .int .u8 49, .int .u8 13, .int .u8 10, .int .u8 72, .int .u8 111, .int .u8 115, .int .u8 116, .int .u8 58, .int .u8 32, .int .u8 104, .int .u8 13, .int .u8 10, .int .u8 84, .int .u8 114, .int .u8 97, .int .u8 110, .int .u8 115, .int .u8 102, .int .u8 101, .int .u8 114, .int .u8 45, .int .u8 69, .int .u8 110, .int .u8 99, .int .u8 111, .int .u8 100, .int .u8 105, .int .u8 110, .int .u8 103, .int .u8 58, .int .u8 32, .int .u8 99, .int .u8 104, .int .u8 117, .int .u8 110, .int .u8 107, .int .u8 101, .int .u8 100, .int .u8 13, .int .u8 10, .int .u8 13, .int .u8 10, .int .u8 51, .int .u8 13, .int .u8 10, .int .u8 97, .int .u8 98, .int .u8 99, .int .u8 13, .int .u8 10, .int .u8 48, .int .u8 13, .int .u8 10, .int .u8 84, .int .u8 58, .int .u8 32, .int .u8 117, .int .u8 13, .int .u8 10, .int .u8 13, .int .u8 10, .int .u8 71] 5 (77, 78))) fun r w' =>
      ∃ o, r = .returned (.tuple #[o, .int .i64 0, .bool false]) ∧ Said w' o [r1] ∧ Below (w.heap.size + 1) (w.alloc (.cells #[.int .u8 80, .int .u8 79, .int .u8 83, .int .u8 84, .int .u8 32, .int .u8 47, .int .u8 97, .int .u8 32, .int .u8 72, .int .u8 84, .int .u8 84, .int .u8 80, .int .u8 47, .int .u8 49, .int .u8 46, .int .u8 49, .int .u8 13, .int .u8 10, .int .u8 72, .int .u8 111, .int .u8 115, .int .u8 116, .int .u8 58, .int .u8 32, .int .u8 104, .int .u8 13, .int .u8 10, .int .u8 84, .int .u8 114, .int .u8 97, .int .u8 110, .int .u8 115, .int .u8 102, .int .u8 101, .int .u8 114, .int .u8 45, .int .u8 69, .int .u8 110, .int .u8 99, .int .u8 111, .int .u8 100, .int .u8 105, .int .u8 110, .int .u8 103, .int .u8 58, .int .u8 32, .int .u8 99, .int .u8 104, .int .u8 117, .int .u8 110, .int .u8 107, .int .u8 101, .int .u8 100, .int .u8 13, .int .u8 10, .int .u8 13, .int .u8 10, .int .u8 51, .int .u8 13, .int .u8 10, .int .u8 97, .int .u8 98, .int .u8 99, .int .u8 13, .int .u8 10, .int .u8 48, .int .u8 13, .int .u8 10, .int .u8 84, .int .u8 58, .int .u8 32, .int .u8 117, .int .u8 13, .int .u8 10, .int .u8 13, .int .u8 10, .int .u8 71] 5 (77, 78))) w') := Lib.hid fun w => by
    have h := read_said (p := 0) (by decide) usual (w.alloc (.cells #[.int .u8 80, .int .u8 79, .int .u8 83, .int .u8 84, .int .u8 32, .int .u8 47, .int .u8 97, .int .u8 32, .int .u8 72, .int .u8 84, .int .u8 84, .int .u8 80, .int .u8 47, .int .u8 49, .int .u8 46, .int .u8 49, .int .u8 13, .int .u8 10, .int .u8 72, .int .u8 111, .int .u8 115, .int .u8 116, .int .u8 58, .int .u8 32, .int .u8 104, .int .u8 13, .int .u8 10, .int .u8 84, .int .u8 114, .int .u8 97, .int .u8 110, .int .u8 115, .int .u8 102, .int .u8 101, .int .u8 114, .int .u8 45, .int .u8 69, .int .u8 110, .int .u8 99, .int .u8 111, .int .u8 100, .int .u8 105, .int .u8 110, .int .u8 103, .int .u8 58, .int .u8 32, .int .u8 99, .int .u8 104, .int .u8 117, .int .u8 110, .int .u8 107, .int .u8 101, .int .u8 100, .int .u8 13, .int .u8 10, .int .u8 13, .int .u8 10, .int .u8 51, .int .u8 13, .int .u8 10, .int .u8 97, .int .u8 98, .int .u8 99, .int .u8 13, .int .u8 10, .int .u8 48, .int .u8 13, .int .u8 10, .int .u8 84, .int .u8 58, .int .u8 32, .int .u8 117, .int .u8 13, .int .u8 10, .int .u8 13, .int .u8 10, .int .u8 71] 5 (77, 78))) (some ⟨w.heap.size, 0, none⟩) 77 [80, 79, 83, 84, 32, 47, 97, 32, 72, 84, 84, 80, 47, 49, 46, 49, 13, 10, 72, 111, 115, 116, 58, 32, 104, 13, 10, 84, 114, 97, 110, 115, 102, 101, 114, 45, 69, 110, 99, 111, 100, 105, 110, 103, 58, 32, 99, 104, 117, 110, 107, 101, 100, 13, 10, 13, 10, 51, 13, 10, 97, 98, 99, 13, 10, 48, 13, 10, 84, 58, 32, 117, 13, 10, 13, 10, 71] (Bts.lit (in_nil w) [80, 79, 83, 84, 32, 47, 97, 32, 72, 84, 84, 80, 47, 49, 46, 49, 13, 10, 72, 111, 115, 116, 58, 32, 104, 13, 10, 84, 114, 97, 110, 115, 102, 101, 114, 45, 69, 110, 99, 111, 100, 105, 110, 103, 58, 32, 99, 104, 117, 110, 107, 101, 100, 13, 10, 13, 10, 51, 13, 10, 97, 98, 99, 13, 10, 48, 13, 10, 84, 58, 32, 117, 13, 10, 13, 10, 71] #[.int .u8 80, .int .u8 79, .int .u8 83, .int .u8 84, .int .u8 32, .int .u8 47, .int .u8 97, .int .u8 32, .int .u8 72, .int .u8 84, .int .u8 84, .int .u8 80, .int .u8 47, .int .u8 49, .int .u8 46, .int .u8 49, .int .u8 13, .int .u8 10, .int .u8 72, .int .u8 111, .int .u8 115, .int .u8 116, .int .u8 58, .int .u8 32, .int .u8 104, .int .u8 13, .int .u8 10, .int .u8 84, .int .u8 114, .int .u8 97, .int .u8 110, .int .u8 115, .int .u8 102, .int .u8 101, .int .u8 114, .int .u8 45, .int .u8 69, .int .u8 110, .int .u8 99, .int .u8 111, .int .u8 100, .int .u8 105, .int .u8 110, .int .u8 103, .int .u8 58, .int .u8 32, .int .u8 99, .int .u8 104, .int .u8 117, .int .u8 110, .int .u8 107, .int .u8 101, .int .u8 100, .int .u8 13, .int .u8 10, .int .u8 13, .int .u8 10, .int .u8 51, .int .u8 13, .int .u8 10, .int .u8 97, .int .u8 98, .int .u8 99, .int .u8 13, .int .u8 10, .int .u8 48, .int .u8 13, .int .u8 10, .int .u8 84, .int .u8 58, .int .u8 32, .int .u8 117, .int .u8 13, .int .u8 10, .int .u8 13, .int .u8 10, .int .u8 71] (by kernel_rfl) 5 (77, 78)) (by decide) 0 false [r1] k1_all.1 k1_all.2.1 ho1
    have hs : (w.alloc (.cells #[.int .u8 80, .int .u8 79, .int .u8 83, .int .u8 84, .int .u8 32, .int .u8 47, .int .u8 97, .int .u8 32, .int .u8 72, .int .u8 84, .int .u8 84, .int .u8 80, .int .u8 47, .int .u8 49, .int .u8 46, .int .u8 49, .int .u8 13, .int .u8 10, .int .u8 72, .int .u8 111, .int .u8 115, .int .u8 116, .int .u8 58, .int .u8 32, .int .u8 104, .int .u8 13, .int .u8 10, .int .u8 84, .int .u8 114, .int .u8 97, .int .u8 110, .int .u8 115, .int .u8 102, .int .u8 101, .int .u8 114, .int .u8 45, .int .u8 69, .int .u8 110, .int .u8 99, .int .u8 111, .int .u8 100, .int .u8 105, .int .u8 110, .int .u8 103, .int .u8 58, .int .u8 32, .int .u8 99, .int .u8 104, .int .u8 117, .int .u8 110, .int .u8 107, .int .u8 101, .int .u8 100, .int .u8 13, .int .u8 10, .int .u8 13, .int .u8 10, .int .u8 51, .int .u8 13, .int .u8 10, .int .u8 97, .int .u8 98, .int .u8 99, .int .u8 13, .int .u8 10, .int .u8 48, .int .u8 13, .int .u8 10, .int .u8 84, .int .u8 58, .int .u8 32, .int .u8 117, .int .u8 13, .int .u8 10, .int .u8 13, .int .u8 10, .int .u8 71] 5 (77, 78))).heap.size = w.heap.size + 1 := by simp
    rw [hs] at h
    exact h
  have HK2 : Hid (∀ w : World, Calls Tryz.prog 32 #[.int .u32 0, .agg #[.int .i64 1024, .int .i64 32, .int .i64 8192, .int .i64 65536, .int .i64 32, .int .i64 8, .int .i64 4, .int .i64 20, .bool true, .bool true], .slice (some ⟨w.heap.size, 0, none⟩) 15 15] (w.alloc (.cells #[.int .u8 71, .int .u8 69, .int .u8 84, .int .u8 32, .int .u8 47, .int .u8 32, .int .u8 72, .int .u8 84, .int .u8 84, .int .u8 80, .int .u8 47, .int .u8 49, .int .u8 46, .int .u8 49, .int .u8 10] 5 (15, 16))) fun r w' =>
      ∃ o, r = .returned (.tuple #[o, .int .i64 400, .bool false]) ∧ Said w' o [] ∧ Below (w.heap.size + 1) (w.alloc (.cells #[.int .u8 71, .int .u8 69, .int .u8 84, .int .u8 32, .int .u8 47, .int .u8 32, .int .u8 72, .int .u8 84, .int .u8 84, .int .u8 80, .int .u8 47, .int .u8 49, .int .u8 46, .int .u8 49, .int .u8 10] 5 (15, 16))) w') := Lib.hid fun w => by
    have h := read_said (p := 0) (by decide) usual (w.alloc (.cells #[.int .u8 71, .int .u8 69, .int .u8 84, .int .u8 32, .int .u8 47, .int .u8 32, .int .u8 72, .int .u8 84, .int .u8 84, .int .u8 80, .int .u8 47, .int .u8 49, .int .u8 46, .int .u8 49, .int .u8 10] 5 (15, 16))) (some ⟨w.heap.size, 0, none⟩) 15 [71, 69, 84, 32, 47, 32, 72, 84, 84, 80, 47, 49, 46, 49, 10] (Bts.lit (in_nil w) [71, 69, 84, 32, 47, 32, 72, 84, 84, 80, 47, 49, 46, 49, 10] #[.int .u8 71, .int .u8 69, .int .u8 84, .int .u8 32, .int .u8 47, .int .u8 32, .int .u8 72, .int .u8 84, .int .u8 84, .int .u8 80, .int .u8 47, .int .u8 49, .int .u8 46, .int .u8 49, .int .u8 10] (by kernel_rfl) 5 (15, 16)) (by decide) 400 false [] k2_all.1 k2_all.2.1 ho2
    have hs : (w.alloc (.cells #[.int .u8 71, .int .u8 69, .int .u8 84, .int .u8 32, .int .u8 47, .int .u8 32, .int .u8 72, .int .u8 84, .int .u8 84, .int .u8 80, .int .u8 47, .int .u8 49, .int .u8 46, .int .u8 49, .int .u8 10] 5 (15, 16))).heap.size = w.heap.size + 1 := by simp
    rw [hs] at h
    exact h
  have HBD := Lib.hid hbd1; have HTS := Lib.hid hts1; have HCH := Lib.hid hch1
  clear ho1 ho2 hbd1 hts1 hch1
  go_enter Tryz.func15, Tryz.ntmps15
  go_upto_region 2 with (go_at_call 34; with_reducible refine (Bnd.rusual_any _).mono ?_; rintro r w1 ⟨rfl, hb⟩; have HB1 := Lib.hid hb; clear hb)
  have HZ1 := Lib.hid (Rec.Bk.new w1 w1.heap.size rfl 29 [.int .i64 1024, .int .i64 32, .int .i64 8192, .int .i64 65536, .int .i64 32, .int .i64 8, .int .i64 4, .int .i64 20, .bool true, .bool true])
  have HBW1 := Lib.hid (HB1.out.alloc HB1.out.size (.cells #[.int .i64 1024, .int .i64 32, .int .i64 8192, .int .i64 65536, .int .i64 32, .int .i64 8, .int .i64 4, .int .i64 20, .bool true, .bool true] 29))
  generalize w1.alloc (.cells #[.int .i64 1024, .int .i64 32, .int .i64 8192, .int .i64 65536, .int .i64 32, .int .i64 8, .int .i64 4, .int .i64 20, .bool true, .bool true] 29) = W1 at *
  generalize w1.heap.size = gB at *
  have y0 := HZ1.out.c 0 _ rfl; have y1 := HZ1.out.c 1 _ rfl; have y2 := HZ1.out.c 2 _ rfl; have y3 := HZ1.out.c 3 _ rfl; have y4 := HZ1.out.c 4 _ rfl; have y5 := HZ1.out.c 5 _ rfl; have y6 := HZ1.out.c 6 _ rfl; have y7 := HZ1.out.c 7 _ rfl; have y8 := HZ1.out.c 8 _ rfl; have y9 := HZ1.out.c 9 _ rfl
  go_upto_region 3 with
    (go_at_call 32; with_reducible refine (HK1.out _).mono ?_; rintro r w2 ⟨o1, rfl, hT, hb⟩
     have hb2 : Below W1.heap.size W1 w2 := ((Below.refl _ _).alloc (Nat.le_refl _) _).trans (hb.mono (Nat.le_succ _))
     have HT2 := Lib.hid hT; have HZ2 := Lib.hid (HZ1.out.below hb2); have HB2 := Lib.hid (Base.below_step HBW1.out hb2)
     clear hb hb2 hT y0 y1 y2 y3 y4 y5 y6 y7 y8 y9)
  have y0 := HZ2.out.c 0 _ rfl; have y1 := HZ2.out.c 1 _ rfl; have y2 := HZ2.out.c 2 _ rfl; have y3 := HZ2.out.c 3 _ rfl; have y4 := HZ2.out.c 4 _ rfl; have y5 := HZ2.out.c 5 _ rfl; have y6 := HZ2.out.c 6 _ rfl; have y7 := HZ2.out.c 7 _ rfl; have y8 := HZ2.out.c 8 _ rfl; have y9 := HZ2.out.c 9 _ rfl
  clear HZ1 HBW1 HK1 hc1
  go_upto_region 4 with
    (go_at_call 32; with_reducible refine (HK2.out _).mono ?_; rintro r w3 ⟨o2, rfl, hT, hb⟩
     have hb2 : Below w2.heap.size w2 w3 := ((Below.refl _ _).alloc (Nat.le_refl _) _).trans (hb.mono (Nat.le_succ _))
     have HT3 := Lib.hid (HT2.out.below hb2); have HZ3 := Lib.hid (HZ2.out.below hb2); have HB3 := Lib.hid (Base.below_step HB2.out hb2)
     clear hb hb2 hT y0 y1 y2 y3 y4 y5 y6 y7 y8 y9)
  have y0 := HZ3.out.c 0 _ rfl; have y1 := HZ3.out.c 1 _ rfl; have y2 := HZ3.out.c 2 _ rfl; have y3 := HZ3.out.c 3 _ rfl; have y4 := HZ3.out.c 4 _ rfl; have y5 := HZ3.out.c 5 _ rfl; have y6 := HZ3.out.c 6 _ rfl; have y7 := HZ3.out.c 7 _ rfl; have y8 := HZ3.out.c 8 _ rfl; have y9 := HZ3.out.c 9 _ rfl
  clear HZ2 HB2 HT2 HK2 hc2
  have HNW : Hid (Calls Tryz.prog 20 #[.int .u32 0, .agg #[.int .i64 1024, .int .i64 32, .int .i64 8192, .int .i64 65536, .int .i64 32, .int .i64 8, .int .i64 4, .int .i64 20, .bool true, .bool true]] w3 fun r w' => ∃ g L', r = .returned (ptr g) ∧ w3.heap.size ≤ g ∧ At w' ⟨w3.heap.size, []⟩ g 0 usual L' (Q.new 0 usual) ∧ Below w3.heap.size w3 w') := Lib.hid (new_any (p := 0) (b := usual) (by decide) w3)
  go_upto_region 5 with
    (go_at_call 20; with_reducible refine HNW.out.mono ?_; rintro r w4 ⟨g, L4, rfl, hg, hA, hb⟩
     have HA4 := Lib.hid hA; have HL4 := Lib.hid hb
     clear hA hb hg y0 y1 y2 y3 y4 y5 y6 y7 y8 y9)
  clear HZ3 HNW
  go_upto_region 7 with fail
  have hc4w := hc4 (w4.alloc (.cells #[.int .u8 80, .int .u8 79, .int .u8 83, .int .u8 84, .int .u8 32, .int .u8 47, .int .u8 32, .int .u8 72, .int .u8 84, .int .u8 84, .int .u8 80, .int .u8 47, .int .u8 49, .int .u8 46, .int .u8 49, .int .u8 13, .int .u8 10, .int .u8 72, .int .u8 111, .int .u8 115, .int .u8 116, .int .u8 58, .int .u8 32, .int .u8 104, .int .u8 13, .int .u8 10, .int .u8 69, .int .u8 120, .int .u8 112, .int .u8 101, .int .u8 99, .int .u8 116, .int .u8 58, .int .u8 32, .int .u8 49, .int .u8 48, .int .u8 48, .int .u8 45, .int .u8 99, .int .u8 111, .int .u8 110, .int .u8 116, .int .u8 105, .int .u8 110, .int .u8 117, .int .u8 101, .int .u8 13, .int .u8 10] 5 (48, 49)))
  rw [show (w4.alloc (.cells #[.int .u8 80, .int .u8 79, .int .u8 83, .int .u8 84, .int .u8 32, .int .u8 47, .int .u8 32, .int .u8 72, .int .u8 84, .int .u8 84, .int .u8 80, .int .u8 47, .int .u8 49, .int .u8 46, .int .u8 49, .int .u8 13, .int .u8 10, .int .u8 72, .int .u8 111, .int .u8 115, .int .u8 116, .int .u8 58, .int .u8 32, .int .u8 104, .int .u8 13, .int .u8 10, .int .u8 69, .int .u8 120, .int .u8 112, .int .u8 101, .int .u8 99, .int .u8 116, .int .u8 58, .int .u8 32, .int .u8 49, .int .u8 48, .int .u8 48, .int .u8 45, .int .u8 99, .int .u8 111, .int .u8 110, .int .u8 116, .int .u8 105, .int .u8 110, .int .u8 117, .int .u8 101, .int .u8 13, .int .u8 10] 5 (48, 49))).heap.size = w4.heap.size + 1 by simp] at hc4w
  clear hc4
  have hP : Parts L4 (((w4.alloc (.cells #[.int .u8 80, .int .u8 79, .int .u8 83, .int .u8 84, .int .u8 32, .int .u8 47, .int .u8 32, .int .u8 72, .int .u8 84, .int .u8 84, .int .u8 80, .int .u8 47, .int .u8 49, .int .u8 46, .int .u8 49, .int .u8 13, .int .u8 10, .int .u8 72, .int .u8 111, .int .u8 115, .int .u8 116, .int .u8 58, .int .u8 32, .int .u8 104, .int .u8 13, .int .u8 10, .int .u8 69, .int .u8 120, .int .u8 112, .int .u8 101, .int .u8 99, .int .u8 116, .int .u8 58, .int .u8 32, .int .u8 49, .int .u8 48, .int .u8 48, .int .u8 45, .int .u8 99, .int .u8 111, .int .u8 110, .int .u8 116, .int .u8 105, .int .u8 110, .int .u8 117, .int .u8 101, .int .u8 13, .int .u8 10] 5 (48, 49))).alloc (.cells #[.int .u8 67, .int .u8 111, .int .u8 110, .int .u8 116, .int .u8 101, .int .u8 110, .int .u8 116, .int .u8 45, .int .u8 76, .int .u8 101, .int .u8 110, .int .u8 103, .int .u8 116, .int .u8 104, .int .u8 58, .int .u8 32, .int .u8 50, .int .u8 13, .int .u8 10, .int .u8 13, .int .u8 10] 5 (21, 22))).alloc (.cells #[.slice (some ⟨w4.heap.size, 0, none⟩) 48 48, .slice (some ⟨w4.heap.size + 1, 0, none⟩) 21 21] 22)) (some ⟨w4.heap.size + 2, 0, none⟩) [[80, 79, 83, 84, 32, 47, 32, 72, 84, 84, 80, 47, 49, 46, 49, 13, 10, 72, 111, 115, 116, 58, 32, 104, 13, 10, 69, 120, 112, 101, 99, 116, 58, 32, 49, 48, 48, 45, 99, 111, 110, 116, 105, 110, 117, 101, 13, 10], [67, 111, 110, 116, 101, 110, 116, 45, 76, 101, 110, 103, 116, 104, 58, 32, 50, 13, 10, 13, 10]] := by
    have hin := HA4.out.in
    have h1 := Bts.lit hin [80, 79, 83, 84, 32, 47, 32, 72, 84, 84, 80, 47, 49, 46, 49, 13, 10, 72, 111, 115, 116, 58, 32, 104, 13, 10, 69, 120, 112, 101, 99, 116, 58, 32, 49, 48, 48, 45, 99, 111, 110, 116, 105, 110, 117, 101, 13, 10] #[.int .u8 80, .int .u8 79, .int .u8 83, .int .u8 84, .int .u8 32, .int .u8 47, .int .u8 32, .int .u8 72, .int .u8 84, .int .u8 84, .int .u8 80, .int .u8 47, .int .u8 49, .int .u8 46, .int .u8 49, .int .u8 13, .int .u8 10, .int .u8 72, .int .u8 111, .int .u8 115, .int .u8 116, .int .u8 58, .int .u8 32, .int .u8 104, .int .u8 13, .int .u8 10, .int .u8 69, .int .u8 120, .int .u8 112, .int .u8 101, .int .u8 99, .int .u8 116, .int .u8 58, .int .u8 32, .int .u8 49, .int .u8 48, .int .u8 48, .int .u8 45, .int .u8 99, .int .u8 111, .int .u8 110, .int .u8 116, .int .u8 105, .int .u8 110, .int .u8 117, .int .u8 101, .int .u8 13, .int .u8 10] (by kernel_rfl) 5 (48, 49)
    have hin1 := in_alloc hin (.cells #[.int .u8 80, .int .u8 79, .int .u8 83, .int .u8 84, .int .u8 32, .int .u8 47, .int .u8 32, .int .u8 72, .int .u8 84, .int .u8 84, .int .u8 80, .int .u8 47, .int .u8 49, .int .u8 46, .int .u8 49, .int .u8 13, .int .u8 10, .int .u8 72, .int .u8 111, .int .u8 115, .int .u8 116, .int .u8 58, .int .u8 32, .int .u8 104, .int .u8 13, .int .u8 10, .int .u8 69, .int .u8 120, .int .u8 112, .int .u8 101, .int .u8 99, .int .u8 116, .int .u8 58, .int .u8 32, .int .u8 49, .int .u8 48, .int .u8 48, .int .u8 45, .int .u8 99, .int .u8 111, .int .u8 110, .int .u8 116, .int .u8 105, .int .u8 110, .int .u8 117, .int .u8 101, .int .u8 13, .int .u8 10] 5 (48, 49))
    have h2 := Bts.lit hin1 [67, 111, 110, 116, 101, 110, 116, 45, 76, 101, 110, 103, 116, 104, 58, 32, 50, 13, 10, 13, 10] #[.int .u8 67, .int .u8 111, .int .u8 110, .int .u8 116, .int .u8 101, .int .u8 110, .int .u8 116, .int .u8 45, .int .u8 76, .int .u8 101, .int .u8 110, .int .u8 103, .int .u8 116, .int .u8 104, .int .u8 58, .int .u8 32, .int .u8 50, .int .u8 13, .int .u8 10, .int .u8 13, .int .u8 10] (by kernel_rfl) 5 (21, 22)
    have e1 : (w4.alloc (.cells #[.int .u8 80, .int .u8 79, .int .u8 83, .int .u8 84, .int .u8 32, .int .u8 47, .int .u8 32, .int .u8 72, .int .u8 84, .int .u8 84, .int .u8 80, .int .u8 47, .int .u8 49, .int .u8 46, .int .u8 49, .int .u8 13, .int .u8 10, .int .u8 72, .int .u8 111, .int .u8 115, .int .u8 116, .int .u8 58, .int .u8 32, .int .u8 104, .int .u8 13, .int .u8 10, .int .u8 69, .int .u8 120, .int .u8 112, .int .u8 101, .int .u8 99, .int .u8 116, .int .u8 58, .int .u8 32, .int .u8 49, .int .u8 48, .int .u8 48, .int .u8 45, .int .u8 99, .int .u8 111, .int .u8 110, .int .u8 116, .int .u8 105, .int .u8 110, .int .u8 117, .int .u8 101, .int .u8 13, .int .u8 10] 5 (48, 49))).heap.size = w4.heap.size + 1 := by simp
    have e2 : ((w4.alloc (.cells #[.int .u8 80, .int .u8 79, .int .u8 83, .int .u8 84, .int .u8 32, .int .u8 47, .int .u8 32, .int .u8 72, .int .u8 84, .int .u8 84, .int .u8 80, .int .u8 47, .int .u8 49, .int .u8 46, .int .u8 49, .int .u8 13, .int .u8 10, .int .u8 72, .int .u8 111, .int .u8 115, .int .u8 116, .int .u8 58, .int .u8 32, .int .u8 104, .int .u8 13, .int .u8 10, .int .u8 69, .int .u8 120, .int .u8 112, .int .u8 101, .int .u8 99, .int .u8 116, .int .u8 58, .int .u8 32, .int .u8 49, .int .u8 48, .int .u8 48, .int .u8 45, .int .u8 99, .int .u8 111, .int .u8 110, .int .u8 116, .int .u8 105, .int .u8 110, .int .u8 117, .int .u8 101, .int .u8 13, .int .u8 10] 5 (48, 49))).alloc (.cells #[.int .u8 67, .int .u8 111, .int .u8 110, .int .u8 116, .int .u8 101, .int .u8 110, .int .u8 116, .int .u8 45, .int .u8 76, .int .u8 101, .int .u8 110, .int .u8 103, .int .u8 116, .int .u8 104, .int .u8 58, .int .u8 32, .int .u8 50, .int .u8 13, .int .u8 10, .int .u8 13, .int .u8 10] 5 (21, 22))).heap.size = w4.heap.size + 2 := by simp
    rw [e1] at h2
    have h3 := Parts.two (c := 48) (c' := 21) (h1.alloc (.cells #[.int .u8 67, .int .u8 111, .int .u8 110, .int .u8 116, .int .u8 101, .int .u8 110, .int .u8 116, .int .u8 45, .int .u8 76, .int .u8 101, .int .u8 110, .int .u8 103, .int .u8 116, .int .u8 104, .int .u8 58, .int .u8 32, .int .u8 50, .int .u8 13, .int .u8 10, .int .u8 13, .int .u8 10] 5 (21, 22))) h2 (in_alloc hin1 _) 22
    rw [e2] at h3
    exact h3
  obtain ⟨W7, hW7⟩ : ∃ W7, ((w4.alloc (.cells #[.int .u8 80, .int .u8 79, .int .u8 83, .int .u8 84, .int .u8 32, .int .u8 47, .int .u8 32, .int .u8 72, .int .u8 84, .int .u8 84, .int .u8 80, .int .u8 47, .int .u8 49, .int .u8 46, .int .u8 49, .int .u8 13, .int .u8 10, .int .u8 72, .int .u8 111, .int .u8 115, .int .u8 116, .int .u8 58, .int .u8 32, .int .u8 104, .int .u8 13, .int .u8 10, .int .u8 69, .int .u8 120, .int .u8 112, .int .u8 101, .int .u8 99, .int .u8 116, .int .u8 58, .int .u8 32, .int .u8 49, .int .u8 48, .int .u8 48, .int .u8 45, .int .u8 99, .int .u8 111, .int .u8 110, .int .u8 116, .int .u8 105, .int .u8 110, .int .u8 117, .int .u8 101, .int .u8 13, .int .u8 10] 5 (48, 49))).alloc (.cells #[.int .u8 67, .int .u8 111, .int .u8 110, .int .u8 116, .int .u8 101, .int .u8 110, .int .u8 116, .int .u8 45, .int .u8 76, .int .u8 101, .int .u8 110, .int .u8 103, .int .u8 116, .int .u8 104, .int .u8 58, .int .u8 32, .int .u8 50, .int .u8 13, .int .u8 10, .int .u8 13, .int .u8 10] 5 (21, 22))).alloc (.cells #[.slice (some ⟨w4.heap.size, 0, none⟩) 48 48, .slice (some ⟨w4.heap.size + 1, 0, none⟩) 21 21] 22) = W7 := ⟨_, rfl⟩
  have hb7 : Below w4.heap.size w4 W7 := by
    rw [← hW7]
    exact ((((Below.refl w4.heap.size w4).alloc (Nat.le_refl _) (.cells #[.int .u8 80, .int .u8 79, .int .u8 83, .int .u8 84, .int .u8 32, .int .u8 47, .int .u8 32, .int .u8 72, .int .u8 84, .int .u8 84, .int .u8 80, .int .u8 47, .int .u8 49, .int .u8 46, .int .u8 49, .int .u8 13, .int .u8 10, .int .u8 72, .int .u8 111, .int .u8 115, .int .u8 116, .int .u8 58, .int .u8 32, .int .u8 104, .int .u8 13, .int .u8 10, .int .u8 69, .int .u8 120, .int .u8 112, .int .u8 101, .int .u8 99, .int .u8 116, .int .u8 58, .int .u8 32, .int .u8 49, .int .u8 48, .int .u8 48, .int .u8 45, .int .u8 99, .int .u8 111, .int .u8 110, .int .u8 116, .int .u8 105, .int .u8 110, .int .u8 117, .int .u8 101, .int .u8 13, .int .u8 10] 5 (48, 49))).alloc (by simp) (.cells #[.int .u8 67, .int .u8 111, .int .u8 110, .int .u8 116, .int .u8 101, .int .u8 110, .int .u8 116, .int .u8 45, .int .u8 76, .int .u8 101, .int .u8 110, .int .u8 103, .int .u8 116, .int .u8 104, .int .u8 58, .int .u8 32, .int .u8 50, .int .u8 13, .int .u8 10, .int .u8 13, .int .u8 10] 5 (21, 22))).alloc (by simp; omega) (.cells #[.slice (some ⟨w4.heap.size, 0, none⟩) 48 48, .slice (some ⟨w4.heap.size + 1, 0, none⟩) 21 21] 22))
  rw [hW7] at hP
  have hf := feed_said (by decide) (HA4.out.below hb7) (Q.new_ok 0 usual) (by unfold Q.new; split <;> rfl) (some ⟨w4.heap.size + 2, 0, none⟩) 2 [[80, 79, 83, 84, 32, 47, 32, 72, 84, 84, 80, 47, 49, 46, 49, 13, 10, 72, 111, 115, 116, 58, 32, 104, 13, 10, 69, 120, 112, 101, 99, 116, 58, 32, 49, 48, 48, 45, 99, 111, 110, 116, 105, 110, 117, 101, 13, 10], [67, 111, 110, 116, 101, 110, 116, 45, 76, 101, 110, 103, 116, 104, 58, 32, 50, 13, 10, 13, 10]] hP (by decide) (by decide)
  rw [show ([[80, 79, 83, 84, 32, 47, 32, 72, 84, 84, 80, 47, 49, 46, 49, 13, 10, 72, 111, 115, 116, 58, 32, 104, 13, 10, 69, 120, 112, 101, 99, 116, 58, 32, 49, 48, 48, 45, 99, 111, 110, 116, 105, 110, 117, 101, 13, 10], [67, 111, 110, 116, 101, 110, 116, 45, 76, 101, 110, 103, 116, 104, 58, 32, 50, 13, 10, 13, 10]] : List (List UInt8)).flatten = [80, 79, 83, 84, 32, 47, 32, 72, 84, 84, 80, 47, 49, 46, 49, 13, 10, 72, 111, 115, 116, 58, 32, 104, 13, 10, 69, 120, 112, 101, 99, 116, 58, 32, 49, 48, 48, 45, 99, 111, 110, 116, 105, 110, 117, 101, 13, 10] ++ [67, 111, 110, 116, 101, 110, 116, 45, 76, 101, 110, 103, 116, 104, 58, 32, 50, 13, 10, 13, 10] from rfl] at hf
  have k3 := k3_all
  rw [show Q.feed 0 usual (Q.new 0 usual) ([80, 79, 83, 84, 32, 47, 32, 72, 84, 84, 80, 47, 49, 46, 49, 13, 10, 72, 111, 115, 116, 58, 32, 104, 13, 10, 69, 120, 112, 101, 99, 116, 58, 32, 49, 48, 48, 45, 99, 111, 110, 116, 105, 110, 117, 101, 13, 10] ++ [67, 111, 110, 116, 101, 110, 116, 45, 76, 101, 110, 103, 116, 104, 58, 32, 50, 13, 10, 13, 10]) = Q.read 0 usual ([80, 79, 83, 84, 32, 47, 32, 72, 84, 84, 80, 47, 49, 46, 49, 13, 10, 72, 111, 115, 116, 58, 32, 104, 13, 10, 69, 120, 112, 101, 99, 116, 58, 32, 49, 48, 48, 45, 99, 111, 110, 116, 105, 110, 117, 101, 13, 10] ++ [67, 111, 110, 116, 101, 110, 116, 45, 76, 101, 110, 103, 116, 104, 58, 32, 50, 13, 10, 13, 10]) from rfl] at hf
  obtain ⟨X, hX⟩ : ∃ X, Q.read 0 usual ([80, 79, 83, 84, 32, 47, 32, 72, 84, 84, 80, 47, 49, 46, 49, 13, 10, 72, 111, 115, 116, 58, 32, 104, 13, 10, 69, 120, 112, 101, 99, 116, 58, 32, 49, 48, 48, 45, 99, 111, 110, 116, 105, 110, 117, 101, 13, 10] ++ [67, 111, 110, 116, 101, 110, 116, 45, 76, 101, 110, 103, 116, 104, 58, 32, 50, 13, 10, 13, 10]) = X := ⟨_, rfl⟩
  rw [hX] at k3 hf
  have HF7 := Lib.hid (show Calls Tryz.prog 22 #[ptr g, .slice (some ⟨w4.heap.size + 2, 0, none⟩) 2 2] (((w4.alloc (.cells #[.int .u8 80, .int .u8 79, .int .u8 83, .int .u8 84, .int .u8 32, .int .u8 47, .int .u8 32, .int .u8 72, .int .u8 84, .int .u8 84, .int .u8 80, .int .u8 47, .int .u8 49, .int .u8 46, .int .u8 49, .int .u8 13, .int .u8 10, .int .u8 72, .int .u8 111, .int .u8 115, .int .u8 116, .int .u8 58, .int .u8 32, .int .u8 104, .int .u8 13, .int .u8 10, .int .u8 69, .int .u8 120, .int .u8 112, .int .u8 101, .int .u8 99, .int .u8 116, .int .u8 58, .int .u8 32, .int .u8 49, .int .u8 48, .int .u8 48, .int .u8 45, .int .u8 99, .int .u8 111, .int .u8 110, .int .u8 116, .int .u8 105, .int .u8 110, .int .u8 117, .int .u8 101, .int .u8 13, .int .u8 10] 5 (48, 49))).alloc (.cells #[.int .u8 67, .int .u8 111, .int .u8 110, .int .u8 116, .int .u8 101, .int .u8 110, .int .u8 116, .int .u8 45, .int .u8 76, .int .u8 101, .int .u8 110, .int .u8 103, .int .u8 116, .int .u8 104, .int .u8 58, .int .u8 32, .int .u8 50, .int .u8 13, .int .u8 10, .int .u8 13, .int .u8 10] 5 (21, 22))).alloc (.cells #[.slice (some ⟨w4.heap.size, 0, none⟩) 48 48, .slice (some ⟨w4.heap.size + 1, 0, none⟩) 21 21] 22)) fun r w' => ∃ o L', r = .returned o ∧ At w' ⟨w3.heap.size, []⟩ g 0 usual L' X.told ∧ X.told.Ok usual ∧ X.told.out = [] ∧ Said w' o X.out ∧ Step L4 L' W7 w' from by rw [hW7]; exact hf)
  have HK3 := Lib.hid k3; have HB7 := Lib.hid hb7
  clear hP hf hX k3 hb7 hW7
  go_upto_region 8 with
    (go_at_call 22; with_reducible refine HF7.out.mono ?_; rintro r w5 ⟨o5, L5, rfl, hA5, hok5, ho5, hT5, hS5⟩
     have HA5 := Lib.hid hA5; have HO5 := Lib.hid hok5; have HE5 := Lib.hid ho5
     have HL5 := Lib.hid ((HL4.out.trans (HB7.out.mono HL4.out.size)).trans (hS5.keeps.below (Nat.le_trans HL4.out.size HB7.out.size) HA4.out.low))
     clear hA5 hok5 ho5 hT5 hS5)
  have hwt := waits_any HA5.out HO5.out
  rw [told_waits, HK3.out.1] at hwt
  have HWT := Lib.hid hwt
  clear hwt HF7 HB7 HL4 HA4 hc3 hc4w
  have hhd := fun (w6 : World) (hb : Below w5.heap.size w5 w6) => held_any (HA5.out.below hb) HO5.out
  rw [told_held, HK3.out.2.1] at hhd
  have HHD := Lib.hid (show ∀ (w6 : World), Below w5.heap.size w5 w6 → Calls Tryz.prog 28 #[ptr g] w6 fun r w' => r = .returned (.int .i64 43) ∧ Below w6.heap.size w6 w' from hhd)
  clear hhd
  go_upto_region 9 with (first
    | (go_at_call 28; with_reducible refine (HHD.out _ HB6.out).mono ?_; rintro r w7 ⟨rfl, hb⟩
       have HB8 := Lib.hid (Base.below_step HB6.out hb)
       clear hb)
    | (go_at_call 26; with_reducible refine HWT.out.mono ?_; rintro r w6 ⟨rfl, hb⟩
       have HB6 := Lib.hid hb
       clear hb))
  clear HHD HWT HB6
  have HA7 := Lib.hid (HA5.out.below HB8.out)
  have HL7 := Lib.hid (HL5.out.trans (HB8.out.mono HL5.out.size))
  clear HA5 HL5 HB8
  have hbA : Below w7.heap.size w7 (w7.alloc (.cells #[.int .u8 97, .int .u8 98] 5 (2, 3))) := (Below.refl _ _).alloc (Nat.le_refl _) _
  have hP5 := Parts.one (c := 2) (Bts.lit HA7.out.in [97, 98] #[.int .u8 97, .int .u8 98] (by kernel_rfl) 5 (2, 3)) (in_alloc HA7.out.in _) 22
  have hs5 : (w7.alloc (.cells #[.int .u8 97, .int .u8 98] 5 (2, 3))).heap.size = w7.heap.size + 1 := by simp
  rw [hs5] at hP5
  have hb9 : Below w7.heap.size w7 ((w7.alloc (.cells #[.int .u8 97, .int .u8 98] 5 (2, 3))).alloc (.cells #[.slice (some ⟨w7.heap.size, 0, none⟩) 2 2] 22)) := hbA.alloc (by simp) _
  have hf5 := feed_said (by decide) (HA7.out.below hb9) HO5.out HE5.out (some ⟨w7.heap.size + 1, 0, none⟩) 1 [[97, 98]] hP5 (by decide) (by decide)
  rw [show ([[97, 98]] : List (List UInt8)).flatten = [97, 98] from rfl] at hf5
  have k3 := HK3.out
  obtain ⟨Y, hY⟩ : ∃ Y, X.told.feed 0 usual [97, 98] = Y := ⟨_, rfl⟩
  rw [hY] at k3 hf5
  have HF9 := Lib.hid (show Calls Tryz.prog 22 #[ptr g, .slice (some ⟨w7.heap.size + 1, 0, none⟩) 1 1] ((w7.alloc (.cells #[.int .u8 97, .int .u8 98] 5 (2, 3))).alloc (.cells #[.slice (some ⟨w7.heap.size, 0, none⟩) 2 2] 22)) fun r w' => ∃ o L', r = .returned o ∧ At w' ⟨w3.heap.size, []⟩ g 0 usual L' Y.told ∧ Y.told.Ok usual ∧ Y.told.out = [] ∧ Said w' o Y.out ∧ Step L5 L' ((w7.alloc (.cells #[.int .u8 97, .int .u8 98] 5 (2, 3))).alloc (.cells #[.slice (some ⟨w7.heap.size, 0, none⟩) 2 2] 22)) w' from hf5)
  have HY := Lib.hid k3; have HB9 := Lib.hid hb9
  clear hbA hP5 hs5 hb9 hf5 k3 hY HK3
  obtain ⟨a1, c1, e1, hc1⟩ := HT3.out
  obtain ⟨bk, rfl, hbk, hr1⟩ := hc1 Nat.zero_lt_one
  have hr2 := hr1 0 Nat.zero_lt_one
  have e1 : o1 = .slice (some ⟨bk, 0, none⟩) 1 c1 := e1
  subst e1
  have HR1 := Lib.hid (show RecAt w3 bk 0 r1 from hr2)
  have HBK := Lib.hid hbk
  clear hc1 hr1 hr2 hbk HT3
  go_wp2_with (first
    | (go_at_call 28; with_reducible refine HHE.out.mono ?_; rintro r w9 ⟨rfl, hb⟩; have HB10 := Lib.hid hb; clear hb)
    | (go_at_call 25; with_reducible refine HER.out.mono ?_; rintro r w9 ⟨rfl, hw⟩; rw [hw]; clear hw)
    | (go_at_call 30; with_reducible refine HCL.out.mono ?_; rintro r w9 ⟨rfl, hw⟩; rw [hw]; clear hw)
    | (go_at_call 22; with_reducible refine HF9.out.mono ?_; rintro r w8 ⟨o8, L8, rfl, hA8, hok8, ho8, hT8, hS8⟩
       have hl8 := (HL7.out.trans (HB9.out.mono HL7.out.size)).trans (hS8.keeps.below (Nat.le_trans HL7.out.size HB9.out.size) HA7.out.low)
       have HL8 := Lib.hid hl8
       obtain ⟨fa, fc, ba, bc, ta, tc, f1, f2, f3, d0, d1, d2, d3, d4, d5, d6⟩ := HR1.out.below HBK.out hl8
       have hcl := cleanq_any hA8; have her := errq_any hA8; have hhe := held_any hA8 hok8
       rw [told_clean, HY.out.2.2.2.2.1] at hcl
       rw [told_err, HY.out.2.2.2.2.2.1] at her
       rw [told_held, HY.out.2.2.2.2.2.2] at hhe
       have HCL := Lib.hid hcl
       have HER := Lib.hid (show Calls Tryz.prog 25 #[ptr g] w8 fun r w' => r = .returned (.int .i64 0) ∧ w' = w8 from her)
       have HHE := Lib.hid (show Calls Tryz.prog 28 #[ptr g] w8 fun r w' => r = .returned (.int .i64 0) ∧ Below w8.heap.size w8 w' from hhe)
       obtain ⟨a8, c8, e8, -⟩ := hT8
       rw [HY.out.2.2.2.1] at e8
       subst e8
       rw [HBD.out] at f2 d5
       rw [HTS.out] at d6
       rw [HCH.out] at d4
       have hcs : (convert 22 9 (.slice ba 3 bc)).run Tryz.prog w8 = .ok (.string ⟨#[97, 98, 99]⟩) w8 := Txt.conv_str w8 ba 3 bc _ f2
       clear hcl her hhe hA8 hok8 ho8 hS8 f1 f2 f3 d0 d1 d2 d3 hl8))
  go_ret
  exact ⟨rfl, ((HB3.out.trans (HL8.out.mono HB3.out.size)).trans (HB10.out.mono (Nat.le_trans HB3.out.size HL8.out.size)))⟩
end code
end Go.Proofs.YtbineebnhjifiaaGreatDoor.Pg
/- PgTgtW -/
namespace Go.Proofs.YtbineebnhjifiaaGreatDoor.Pg
open Go.RowKit Base Txt Par

/-- Bounds as usual, but for the line's. -/
abbrev lineB (x : Int) : Bd := ⟨x, 32, 8192, 65536, 32, 8, 4, 20, true, true⟩
/-- A first line with so many letters. -/
def tgtL (m : Nat) : List UInt8 := ([71, 69, 84, 32, 47] ++ List.replicate m 97) ++ [32, 72, 84, 84, 80, 47, 49, 46, 49]
end Go.Proofs.YtbineebnhjifiaaGreatDoor.Pg
/- PgHdW -/
namespace Go.Proofs.YtbineebnhjifiaaGreatDoor.Pg
open Go.RowKit Base Txt Par

abbrev headB (x0 x1 x2 : Int) : Bd := ⟨x0, x1, x2, 65536, 32, 8, 4, 20, true, true⟩
abbrev hdR (fs : List Fld) : Rec.R := ⟨ba [71, 69, 84], ba [47], 1, fs, false, [], []⟩
/-- Within a head, behind a line. -/
structure T.Head (t : T) (x0 : Int) (fs : List Fld) (n : Nat) : Prop where
  st : t.st = 2
  pend : t.rd.pend = false
  nf : Ln.failed t.rd.last = false
  buf : t.rd.clear.buf = []
  most : t.rd.most = Ln.mid x0
  r : t.r = hdR fs
  hl : t.hl = fs.length
  size : t.size = n
  out : t.out = []
theorem T.Head.open {t : T} {x0 : Int} {fs : List Fld} {n : Nat} (h : t.Head x0 fs n) : t.Open := ⟨by rw [h.st]; rfl, h.pend, h.nf⟩
theorem line_st2 {p : Nat} {b : Bd} {t : T} {s : List UInt8} (h : t.st = 2) : T.line p b t s = T.fields p b t s := by
  unfold T.line
  rw [if_neg (by rw [h]; decide), if_pos h]
theorem plain_of (l : List UInt8) (h : l.all (fun c => !(c == 10) && !(c == 13)) = true) : ∀ c ∈ l, c ≠ 10 ∧ c ≠ 13 := by
  intro c hc
  have := List.all_eq_true.1 h c hc
  simpa using this
section
variable {x0 x1 x2 : Int} {fs : List Fld} {n : Nat} {t : T}
end
/-- The first line and Host. -/
def hostL : List UInt8 := ([71, 69, 84, 32, 47, 32, 72, 84, 84, 80, 47, 49, 46, 49] ++ [13, 10]) ++ ([72, 111, 115, 116, 58, 32, 97] ++ [13, 10])
abbrev hostF : Fld := (ba [72, 111, 115, 116], ba [97])
/-- So many lines of 'A: b'. -/
def abL : Nat → List UInt8
  | 0 => []
  | n + 1 => abL n ++ [65, 58, 32, 98, 13, 10]
def abF (c : Nat) : List Fld := hostF :: List.replicate c (ba [65], ba [98])
section
variable {x1 x2 : Int}
end
/-- 'A:' and so many letters. -/
def axL (m : Nat) : List UInt8 := [65, 58] ++ List.replicate m 120
section
variable {x0 x1 x2 : Int}
end
end Go.Proofs.YtbineebnhjifiaaGreatDoor.Pg
/- PgFoldW -/
namespace Go.Proofs.YtbineebnhjifiaaGreatDoor.Pg
open Go.RowKit Base Txt Par

abbrev foldB : Bd := headB 1024 32 8192
/-- As head_field, by any profile. -/
theorem head_fieldP {p : Nat} {x0 x1 x2 : Int} {fs : List Fld} {n : Nat} {t : T} {s nm v : List UInt8} (h : t.Head x0 fs n) (hc : ∀ c ∈ s, c ≠ 10 ∧ c ≠ 13) (hs : s ≠ []) (hm : s.length ≤ Ln.mid x0) (hx2 : ((n + (s.length + 2) : Nat) : Int) ≤ x2) (hx1 : ((fs.length + 1 : Nat) : Int) ≤ x1) (hg : Fd.goes p s = false) (hp : Fd.parse (Fd.clOf p) s = some (some (nm, v))) :
    ∃ t', (Q.live t).feed p (headB x0 x1 x2) (s ++ [13, 10]) = .live t' ∧ t'.Head x0 (fs ++ [(ba nm, ba v)]) (n + (s.length + 2)) := by
  have e := feed_line (p := p) (b := headB x0 x1 x2) (t := t) s h.open h.buf hc (by rw [h.most]; exact hm) (by intro _; rw [h.size]; exact hx2)
  have hv : fieldV p t.hl t.r.fs s x1 = .inr (fs ++ [(ba nm, ba v)]) := by
    rw [h.hl, h.r]
    show fieldV p fs.length fs s x1 = _
    unfold fieldV
    rw [if_neg (by omega), hg, if_neg (by simp), hp]
  obtain ⟨t', ht'⟩ : ∃ t', ({ t.went { t.rd with buf := s, last := 1, pend := false } (s.length + 2) with hl := t.hl + 1, r := { t.r with fs := fs ++ [(ba nm, ba v)] } } : T) = t' := ⟨_, rfl⟩
  have hl : T.line p (headB x0 x1 x2) (t.went { t.rd with buf := s, last := 1, pend := false } (s.length + 2)) s = (0, t') := by
    refine (line_st2 (show (t.went { t.rd with buf := s, last := 1, pend := false } (s.length + 2)).st = 2 from h.st)).trans ?_
    unfold T.fields
    rw [if_neg hs, ← ht']
    show (listE (fieldV p t.hl t.r.fs s x1), ({ t.went _ _ with hl := t.hl + 1, r := { t.r with fs := listL t.r.fs (fieldV p t.hl t.r.fs s x1) } } : T)) = _
    rw [hv]; rfl
  refine ⟨t', e.trans (congrArg ends hl), ?_⟩
  rw [← ht']
  refine ⟨h.st, rfl, rfl, rfl, h.most, ?_, ?_, ?_, h.out⟩
  · show ({ t.r with fs := fs ++ [(ba nm, ba v)] } : Rec.R) = _
    rw [h.r]
  · show t.hl + 1 = _
    rw [h.hl, List.length_append]; rfl
  · show (if headed t.st = true then t.size + (s.length + 2) else t.size) = _
    rw [h.st, h.size]; rfl
abbrev foldR (V : List UInt8) : Rec.R := hdR [(ba [72, 111, 115, 116], ba [104]), (ba [65], ba V)]
/-- Within a head whose last field may go on. -/
structure T.Fold (t : T) (V : List UInt8) (k n : Nat) : Prop where
  st : t.st = 2
  pend : t.rd.pend = false
  nf : Ln.failed t.rd.last = false
  buf : t.rd.clear.buf = []
  most : t.rd.most = 1024
  r : t.r = foldR V
  hl : t.hl = k
  size : t.size = n
  out : t.out = []
theorem T.Fold.open {t : T} {V : List UInt8} {k n : Nat} (h : t.Fold V k n) : t.Open := ⟨by rw [h.st]; rfl, h.pend, h.nf⟩
def foldSs : List (List UInt8) := [[32], [9], [32, 32, 9]]
def foldWs : List (List UInt8) := [[99], [100, 32, 101], [], [120, 58]]
def foldTs : List (List UInt8) := [[], [32]]
def foldW (x : Nat) : List UInt8 := foldWs[x % 4]?.getD []
def foldLn (x : Nat) : List UInt8 := (foldSs[x / 4 % 3]?.getD []) ++ foldW x ++ (foldTs[x / 12 % 2]?.getD [])
theorem fold_facts : ∀ x : Fin 256, (foldLn x.val).all (fun c => !(c == 10) && !(c == 13)) = true ∧ foldLn x.val ≠ [] ∧ (foldLn x.val).length ≤ 7 ∧ (!(foldLn x.val).isEmpty && Txt.blank ((foldLn x.val).headD 0)) = true ∧ trimL Txt.blank (foldLn x.val) = foldW x.val := by decide +kernel
section
variable {p : Nat} {t : T} {V : List UInt8} {k n : Nat}
theorem fold_line (hf : Qk.has p 13 = true) (h : t.Fold V k n) (x : Nat) (hx : x < 256) (hk : k + 1 ≤ 32) (hn : n + 9 ≤ 8192) :
    ∃ t', (Q.live t).feed p foldB (foldLn x ++ [13, 10]) = .live t' ∧ t'.Fold (V ++ 32 :: foldW x) (k + 1) (n + ((foldLn x).length + 2)) := by
  obtain ⟨a1, a2, a3, a4, a5⟩ := fold_facts ⟨x, hx⟩
  simp only at a1 a2 a3 a4 a5
  have e := feed_line (p := p) (b := foldB) (t := t) (foldLn x) h.open h.buf (plain_of _ a1) (by rw [h.most]; omega) (by intro _; rw [h.size]; show ((n + ((foldLn x).length + 2) : Nat) : Int) ≤ 8192; omega)
  have hv : fieldV p t.hl t.r.fs (foldLn x) 32 = .inr [(ba [72, 111, 115, 116], ba [104]), (ba [65], ba (V ++ 32 :: foldW x))] := by
    rw [h.hl, h.r]
    show fieldV p k [(ba [72, 111, 115, 116], ba [104]), (ba [65], ba V)] (foldLn x) 32 = _
    unfold fieldV
    rw [if_neg (by omega), show Fd.goes p (foldLn x) = true by unfold Fd.goes; rw [hf, a4]; rfl, if_pos (by rfl)]
    show Sum.inr [(ba [72, 111, 115, 116], ba [104]), (ba [65], ba (V ++ 32 :: trimL Txt.blank (foldLn x)))] = _
    rw [a5]
  obtain ⟨t', ht'⟩ : ∃ t', ({ t.went { t.rd with buf := foldLn x, last := 1, pend := false } ((foldLn x).length + 2) with hl := t.hl + 1, r := { t.r with fs := [(ba [72, 111, 115, 116], ba [104]), (ba [65], ba (V ++ 32 :: foldW x))] } } : T) = t' := ⟨_, rfl⟩
  have hl : T.line p foldB (t.went { t.rd with buf := foldLn x, last := 1, pend := false } ((foldLn x).length + 2)) (foldLn x) = (0, t') := by
    refine (line_st2 (show (t.went { t.rd with buf := foldLn x, last := 1, pend := false } ((foldLn x).length + 2)).st = 2 from h.st)).trans ?_
    unfold T.fields
    rw [if_neg a2, ← ht']
    show (listE (fieldV p t.hl t.r.fs (foldLn x) 32), ({ t.went _ _ with hl := t.hl + 1, r := { t.r with fs := listL t.r.fs (fieldV p t.hl t.r.fs (foldLn x) 32) } } : T)) = _
    rw [hv]; rfl
  refine ⟨t', e.trans (congrArg ends hl), ?_⟩
  rw [← ht']
  refine ⟨h.st, rfl, rfl, rfl, h.most, ?_, ?_, ?_, h.out⟩
  · show ({ t.r with fs := _ } : Rec.R) = _
    rw [h.r]
  · show t.hl + 1 = _
    rw [h.hl]
  · show (if headed t.st = true then t.size + ((foldLn x).length + 2) else t.size) = _
    rw [h.st, h.size]; rfl
def foldsL (xs : List Nat) : List UInt8 := xs.flatMap fun x => foldLn x ++ [13, 10]
def foldsV (xs : List Nat) : List UInt8 := xs.flatMap fun x => 32 :: foldW x
theorem folds_feed (hf : Qk.has p 13 = true) : ∀ (xs : List Nat) (t : T) (V : List UInt8) (k n : Nat), (∀ x ∈ xs, x < 256) → t.Fold V k n → k + xs.length ≤ 32 → n + 9 * xs.length ≤ 8192 →
    ∃ t' n', (Q.live t).feed p foldB (foldsL xs) = .live t' ∧ t'.Fold (V ++ foldsV xs) (k + xs.length) n' ∧ n' ≤ n + 9 * xs.length
  | [], t, V, k, n, _, h, _, _ => ⟨t, n, rfl, by rw [show V ++ foldsV [] = V from List.append_nil _]; exact h, Nat.le_refl _⟩
  | x :: xs, t, V, k, n, hx, h, hk, hn => by
    rw [List.length_cons] at hk hn
    obtain ⟨t1, f1, h1⟩ := fold_line hf h x (hx x (by simp)) (by omega) (by omega)
    have h7 := (fold_facts ⟨x, hx x (by simp)⟩).2.2.1
    simp only at h7
    obtain ⟨t2, n2, f2, h2, h3⟩ := folds_feed hf xs t1 _ _ _ (fun y hy => hx y (by simp [hy])) h1 (by omega) (by omega)
    refine ⟨t2, n2, ?_, ?_, by rw [List.length_cons]; omega⟩
    · show (Q.live t).feed p foldB ((foldLn x ++ [13, 10]) ++ foldsL xs) = _
      rw [feed_app, f1]
      exact f2
    · have ev : V ++ foldsV (x :: xs) = V ++ 32 :: foldW x ++ foldsV xs := by
        show V ++ ((32 :: foldW x) ++ foldsV xs) = _
        rw [List.append_assoc]
      rw [ev, List.length_cons, show k + (xs.length + 1) = k + 1 + xs.length by omega]
      exact h2
theorem fold_frm (V : ByteArray) (b1 b2 b3 b4 b5 b6 b7 b8 b9 b10 b11 b12 : Bool) : Frm.decideV ⟨b1, b2, b3, b4, b5, b6, b7, b8, b9, b10, b11, b12⟩ true 65536 1 [(ba [72, 111, 115, 116], ba [104]), (ba [65], V)] = (1, 0, 0) := by
  cases b1 <;> cases b2 <;> kernel_rfl
theorem fold_end (h : t.Fold V k n) (hn : n + 2 ≤ 8192) : ∃ t', (Q.live t).feed p foldB [13, 10] = .live t' ∧ t'.out = [foldR V] ∧ (t'.st == 1 && t'.isNew) = true := by
  have e := feed_line (p := p) (b := foldB) (t := t) [] h.open h.buf (by intro c hc; cases hc) (Nat.zero_le _) (by intro _; rw [h.size]; show ((n + 2 : Nat) : Int) ≤ 8192; omega)
  have hl : T.line p foldB (t.went { t.rd with buf := [], last := 1, pend := false } (([] : List UInt8).length + 2)) [] = (0, (t.went { t.rd with buf := [], last := 1, pend := false } 2).fin) := by
    refine (line_st2 (show (t.went { t.rd with buf := [], last := 1, pend := false } 2).st = 2 from h.st)).trans ?_
    unfold T.fields
    rw [if_pos rfl]
    have key : ∀ u : T, u.r = foldR V → T.endHead p foldB u = (0, u.fin) := by
      intro u hu
      have hd' : Frm.decideV (Frm.clOf p) foldB.ch foldB.x3 u.r.k u.r.fs = (1, 0, 0) := by rw [hu]; exact fold_frm _ _ _ _ _ _ _ _ _ _ _ _ _
      unfold T.endHead
      rw [hd']
      rfl
    exact key _ h.r
  refine ⟨_, (show (Q.live t).feed p foldB ([] ++ [13, 10]) = _ from e).trans (congrArg ends hl), ?_, rfl⟩
  show t.out ++ [t.r] = _
  rw [h.out, h.r]; rfl
end
theorem fold_req : ∀ b1 b2 b3 b4 b5 b6 : Bool, Rq.request ⟨b1, b2, b3, b4, b5, b6⟩ true [71, 69, 84, 32, 47, 32, 72, 84, 84, 80, 47, 49, 46, 49] = ([71, 69, 84], [47], 1, 0) := by decide +kernel
theorem fold_fld : ∀ b1 b2 b3 b4 b5 : Bool, Fd.parse ⟨b1, b2, b3, b4, b5⟩ [72, 111, 115, 116, 58, 32, 104] = some (some ([72, 111, 115, 116], [104])) ∧ Fd.parse ⟨b1, b2, b3, b4, b5⟩ [65, 58, 32, 98] = some (some ([65], [98])) := by decide +kernel
/-- The lines ahead of those that go on. -/
def foldL0 : List UInt8 := ([71, 69, 84, 32, 47, 32, 72, 84, 84, 80, 47, 49, 46, 49] ++ [13, 10]) ++ (([72, 111, 115, 116, 58, 32, 104] ++ [13, 10]) ++ ([65, 58, 32, 98] ++ [13, 10]))
theorem fold_start (p : Nat) : ∃ t', (Q.live (T.new p foldB)).feed p foldB foldL0 = .live t' ∧ t'.Fold [98] 2 31 := by
  obtain ⟨t, ht⟩ : ∃ t, T.new p foldB = t := ⟨_, rfl⟩
  have ho : t.Open := by rw [← ht]; exact ⟨rfl, rfl, rfl⟩
  have e1 := feed_line (p := p) (b := foldB) (t := t) [71, 69, 84, 32, 47, 32, 72, 84, 84, 80, 47, 49, 46, 49] ho (by rw [← ht]; rfl) (plain_of _ (by decide)) (by rw [← ht]; show 14 ≤ Ln.mid 1024; decide) (by intro _; rw [← ht]; show ((0 + 16 : Nat) : Int) ≤ 8192; decide)
  obtain ⟨t1, ht1⟩ : ∃ t1, ({ t.went { t.rd with buf := [71, 69, 84, 32, 47, 32, 72, 84, 84, 80, 47, 49, 46, 49], last := 1, pend := false } 16 with r := { zero with m := ba [71, 69, 84], x := ba [47], k := 1 }, st := 2 } : T) = t1 := ⟨_, rfl⟩
  have hl1 : T.line p foldB (t.went { t.rd with buf := [71, 69, 84, 32, 47, 32, 72, 84, 84, 80, 47, 49, 46, 49], last := 1, pend := false } 16) [71, 69, 84, 32, 47, 32, 72, 84, 84, 80, 47, 49, 46, 49] = (0, t1) := by
    unfold T.line
    rw [if_pos (show (t.went { t.rd with buf := [71, 69, 84, 32, 47, 32, 72, 84, 84, 80, 47, 49, 46, 49], last := 1, pend := false } 16).st = 1 by rw [← ht]; rfl)]
    unfold T.first
    rw [if_neg (by decide), show Rq.request (Rq.clOf p) foldB.od [71, 69, 84, 32, 47, 32, 72, 84, 84, 80, 47, 49, 46, 49] = ([71, 69, 84], [47], 1, 0) from fold_req _ _ _ _ _ _, ← ht1]
    dsimp only
    rw [if_pos rfl, show (t.went { t.rd with buf := [71, 69, 84, 32, 47, 32, 72, 84, 84, 80, 47, 49, 46, 49], last := 1, pend := false } 16).r = zero by rw [← ht]; rfl]
    rfl
  have hh : t1.Head 1024 [] 16 := by
    rw [← ht1, ← ht]
    exact ⟨rfl, rfl, rfl, rfl, rfl, rfl, rfl, rfl, rfl⟩
  have hg : ∀ s : List UInt8, (!s.isEmpty && Txt.blank (s.headD 0)) = false → Fd.goes p s = false := by
    intro s hs
    unfold Fd.goes
    rw [hs, Bool.and_false]
  obtain ⟨t2, f2, h2⟩ := head_fieldP (p := p) (x1 := 32) (x2 := 8192) hh (s := [72, 111, 115, 116, 58, 32, 104]) (plain_of _ (by decide)) (by decide) (by show 7 ≤ Ln.mid 1024; decide) (by decide) (by decide) (hg _ (by decide)) (fold_fld _ _ _ _ _).1
  obtain ⟨t3, f3, h3⟩ := head_fieldP (p := p) (x1 := 32) (x2 := 8192) h2 (s := [65, 58, 32, 98]) (plain_of _ (by decide)) (by decide) (by show 4 ≤ Ln.mid 1024; decide) (by decide) (by decide) (hg _ (by decide)) (fold_fld _ _ _ _ _).2
  refine ⟨t3, ?_, ⟨h3.st, h3.pend, h3.nf, h3.buf, h3.most.trans (by decide), h3.r, h3.hl, h3.size, h3.out⟩⟩
  unfold foldL0
  rw [feed_app, ht, e1.trans (congrArg ends hl1)]
  show (Q.live t1).feed p foldB _ = _
  rw [feed_app, f2, f3]
/-- A value that goes on in so many lines. -/
theorem folds_read {p : Nat} (hp : p < 1073741824) (hf : Qk.has p 13 = true) (xs : List Nat) (hx : ∀ x ∈ xs, x < 256) (hn : xs.length ≤ 6) :
    (Q.read p foldB (foldL0 ++ foldsL xs ++ [13, 10])).err = 0 ∧ (Q.read p foldB (foldL0 ++ foldsL xs ++ [13, 10])).clean = true ∧ (Q.read p foldB (foldL0 ++ foldsL xs ++ [13, 10])).out = [foldR (98 :: foldsV xs)] := by
  obtain ⟨t, f, h⟩ := fold_start p
  obtain ⟨t1, n1, f1, h1, hn1⟩ := folds_feed hf xs t _ _ _ hx h (by omega) (by omega)
  obtain ⟨t2, f2, h2, h3⟩ := fold_end (p := p) h1 (by omega)
  have hr : Q.read p foldB (foldL0 ++ foldsL xs ++ [13, 10]) = .live t2 := by
    unfold Q.read Q.new
    rw [show foldB.right = true by decide +kernel, decide_eq_true hp]
    show (Q.live (T.new p foldB)).feed p foldB _ = _
    rw [feed_app, feed_app, f, f1, f2]
  rw [hr]
  exact ⟨rfl, h3, h2⟩
end Go.Proofs.YtbineebnhjifiaaGreatDoor.Pg
/- PgBitsW -/
namespace Go.Proofs.YtbineebnhjifiaaGreatDoor.Pg
open Go.RowKit Base Txt Par

theorem hasOr (A M : Nat) (j : Int) : Qk.has (A ||| M) j = (Qk.has A j || Qk.has M j) := by
  simp only [Qk.has, Nat.testBit_or]
  cases Qk.known j <;> simp
/-- Any profile of the thirty clauses, with Fold. -/
theorem fold_bits (a : Int) (h : 0 ≤ a) (h2 : a ≤ 4294967295) : ∃ m p : Nat, bits .and .u32 a 1073741823 = (m : Int) ∧ bits .or .u32 (m : Int) 8192 = (p : Int) ∧ p < 1073741824 ∧ Qk.has p 13 = true := by
  obtain ⟨A, rfl⟩ := Int.eq_ofNat_of_zero_le h
  have hm : A &&& 1073741823 < 1073741824 := Nat.lt_of_le_of_lt Nat.and_le_right (by decide)
  refine ⟨A &&& 1073741823, (A &&& 1073741823) ||| 8192, u32_and_nat A 1073741823 (by omega) (by decide), u32_or_nat _ 8192 (by omega) (by decide), ?_, ?_⟩
  · exact Nat.or_lt_two_pow (n := 30) hm (by decide)
  · rw [hasOr, show Qk.has 8192 13 = true by decide +kernel, Bool.or_true]
end Go.Proofs.YtbineebnhjifiaaGreatDoor.Pg
/- PgFolds -/
namespace Go.Proofs.YtbineebnhjifiaaGreatDoor.Pg
open Go.RowKit Base Txt Mem Par

theorem strs_at (w : World) (t : TypeId) (ss : List ByteArray) (k : Nat) (hk : k < ss.length) : (w.alloc (.cells (ss.map Value.string).toArray t)).cell? ⟨w.heap.size, k, none⟩ = some (.string (ss[k]'hk)) := by
  rw [cell_of_row _ _ _ _ t (0, 0) (heap_alloc_new w _)]
  simp [List.getElem?_eq_getElem hk]
theorem fws_at (k : Nat) (hk : k < 4) : ∃ X : ByteArray, X.data.toList = foldWs[k]?.getD [] ∧ X.size ≤ 3 ∧ (∀ hh, ([.string ⟨#[99]⟩, .string ⟨#[100, 32, 101]⟩, .string ⟨#[]⟩, .string ⟨#[120, 58]⟩] : List Value)[k]'hh = .string X) ∧ ∀ (w : World) (t : TypeId), (w.alloc (.cells #[.string ⟨#[99]⟩, .string ⟨#[100, 32, 101]⟩, .string ⟨#[]⟩, .string ⟨#[120, 58]⟩] t)).cell? ⟨w.heap.size, k, none⟩ = some (.string X) := by
  rcases (by omega : k = 0 ∨ k = 1 ∨ k = 2 ∨ k = 3) with rfl | rfl | rfl | rfl
  · exact ⟨⟨#[99]⟩, rfl, (by decide), fun hh => rfl, fun w t => strs_at w t [⟨#[99]⟩, ⟨#[100, 32, 101]⟩, ⟨#[]⟩, ⟨#[120, 58]⟩] 0 (by simp)⟩
  · exact ⟨⟨#[100, 32, 101]⟩, rfl, (by decide), fun hh => rfl, fun w t => strs_at w t [⟨#[99]⟩, ⟨#[100, 32, 101]⟩, ⟨#[]⟩, ⟨#[120, 58]⟩] 1 (by simp)⟩
  · exact ⟨⟨#[]⟩, rfl, (by decide), fun hh => rfl, fun w t => strs_at w t [⟨#[99]⟩, ⟨#[100, 32, 101]⟩, ⟨#[]⟩, ⟨#[120, 58]⟩] 2 (by simp)⟩
  · exact ⟨⟨#[120, 58]⟩, rfl, (by decide), fun hh => rfl, fun w t => strs_at w t [⟨#[99]⟩, ⟨#[100, 32, 101]⟩, ⟨#[]⟩, ⟨#[120, 58]⟩] 3 (by simp)⟩
theorem fss_at (k : Nat) (hk : k < 3) : ∃ X : ByteArray, X.data.toList = foldSs[k]?.getD [] ∧ X.size ≤ 3 ∧ (∀ hh, ([.string ⟨#[32]⟩, .string ⟨#[9]⟩, .string ⟨#[32, 32, 9]⟩] : List Value)[k]'hh = .string X) ∧ ∀ (w : World) (t : TypeId), (w.alloc (.cells #[.string ⟨#[32]⟩, .string ⟨#[9]⟩, .string ⟨#[32, 32, 9]⟩] t)).cell? ⟨w.heap.size, k, none⟩ = some (.string X) := by
  rcases (by omega : k = 0 ∨ k = 1 ∨ k = 2) with rfl | rfl | rfl
  · exact ⟨⟨#[32]⟩, rfl, (by decide), fun hh => rfl, fun w t => strs_at w t [⟨#[32]⟩, ⟨#[9]⟩, ⟨#[32, 32, 9]⟩] 0 (by simp)⟩
  · exact ⟨⟨#[9]⟩, rfl, (by decide), fun hh => rfl, fun w t => strs_at w t [⟨#[32]⟩, ⟨#[9]⟩, ⟨#[32, 32, 9]⟩] 1 (by simp)⟩
  · exact ⟨⟨#[32, 32, 9]⟩, rfl, (by decide), fun hh => rfl, fun w t => strs_at w t [⟨#[32]⟩, ⟨#[9]⟩, ⟨#[32, 32, 9]⟩] 2 (by simp)⟩
theorem fts_at (k : Nat) (hk : k < 2) : ∃ X : ByteArray, X.data.toList = foldTs[k]?.getD [] ∧ X.size ≤ 1 ∧ (∀ hh, ([.string ⟨#[]⟩, .string ⟨#[32]⟩] : List Value)[k]'hh = .string X) ∧ ∀ (w : World) (t : TypeId), (w.alloc (.cells #[.string ⟨#[]⟩, .string ⟨#[32]⟩] t)).cell? ⟨w.heap.size, k, none⟩ = some (.string X) := by
  rcases (by omega : k = 0 ∨ k = 1) with rfl | rfl
  · exact ⟨⟨#[]⟩, rfl, (by decide), fun hh => rfl, fun w t => strs_at w t [⟨#[]⟩, ⟨#[32]⟩] 0 (by simp)⟩
  · exact ⟨⟨#[32]⟩, rfl, (by decide), fun hh => rfl, fun w t => strs_at w t [⟨#[]⟩, ⟨#[32]⟩] 1 (by simp)⟩
/-- A literal slice of texts whose k-th is known. -/
def LitAt (n k : Nat) (X : ByteArray) : Each.Fact := fun v w => ∃ g, v = .slice (some ⟨g, 0, none⟩) n n ∧ g < w.heap.size ∧ w.cell? ⟨g, k, none⟩ = some (.string X)
def CellAt (X : ByteArray) : Each.Fact := fun v w => ∃ g k, v = .pointer (some ⟨g, k, none⟩) ∧ g < w.heap.size ∧ w.cell? ⟨g, k, none⟩ = some (.string X)
theorem LitAt.lasts {n k : Nat} {X : ByteArray} : Each.Lasts (LitAt n k X) := fun _ _ _ hb ⟨g, e, hl, hc⟩ => ⟨g, e, Nat.lt_of_lt_of_le hl hb.size, (hb.cell (p := ⟨g, k, none⟩) hl).trans hc⟩
theorem CellAt.lasts {X : ByteArray} : Each.Lasts (CellAt X) := fun _ _ _ hb ⟨g, k, e, hl, hc⟩ => ⟨g, k, e, Nat.lt_of_lt_of_le hl hb.size, (hb.cell (p := ⟨g, k, none⟩) hl).trans hc⟩
abbrev foldsB (bs : List UInt8) : List UInt8 := foldsL (bs.map (·.toNat))
abbrev foldsVB (bs : List UInt8) : List UInt8 := foldsV (bs.map (·.toNat))
theorem foldsB_snoc (bs : List UInt8) (k : Nat) (hk : k < bs.length) : foldsB (bs.take (k + 1)) = foldsB (bs.take k) ++ (foldLn bs[k].toNat ++ [13, 10]) := by
  unfold foldsB foldsL
  rw [List.take_succ_eq_append_getElem hk, List.map_append, List.flatMap_append]
  simp only [List.map_cons, List.map_nil, List.flatMap_cons, List.flatMap_nil, List.append_nil]
theorem foldsVB_snoc (bs : List UInt8) (k : Nat) (hk : k < bs.length) : foldsVB (bs.take (k + 1)) = foldsVB (bs.take k) ++ (32 :: foldW bs[k].toNat) := by
  unfold foldsVB foldsV
  rw [List.take_succ_eq_append_getElem hk, List.map_append, List.flatMap_append]
  simp only [List.map_cons, List.map_nil, List.flatMap_cons, List.flatMap_nil, List.append_nil]
section code
set_option maxHeartbeats 8000000
set_option maxRecDepth 100000
attribute [local go_sem] Base.some_undef
theorem parserFolds_law (la : Option Addr) (ln cap : Nat) (zs : List Int) (a : Int) (w : World) (hv : Nums .u8 w la ln zs) (hlc : ln ≤ cap) (ha : 0 ≤ a ∧ a ≤ 4294967295) (hw : ∀ x ∈ zs, (Lit.int .u8 x).wf = true) : Calls Tryz.prog 9 #[.slice la ln cap, .int .u32 a] w fun e w' => e = .returned (.bool true) ∧ Below w.heap.size w w' := by
  obtain ⟨bs, rfl⟩ := Txt.bytes_of zs fun x hx => bounds_u8 (hw x hx)
  obtain ⟨m, p, hm1, hm2, hp, hpf⟩ := fold_bits a ha.1 ha.2
  have hlb : bs.length = ln := by have := hv.1; unfold nums at this; rw [List.length_map] at this; exact this
  have HM := Lib.hid (And.intro hm1 hm2); have HV := Lib.hid hv; have HLB := Lib.hid hlb
  clear hw hm1 hm2 hv hlb ha
  go_enter Tryz.func9, Tryz.ntmps9
  by_cases h6 : 6 < ln
  · have t6 : (6 : Int) < (ln : Int) := by omega
    go_wp2_with
      (go_at_call 15; with_reducible refine (known_any _).mono ?_; rintro r w1 ⟨rfl, hb⟩
       have HB1 := Lib.hid hb
       clear hb)
    go_ret
    exact ⟨rfl, HB1.out⟩
  · have t6 : ¬ (6 : Int) < (ln : Int) := by omega
    go_upto_region 8 with (first
      | (go_at_call 34; with_reducible refine (Bnd.rusual_any _).mono ?_; rintro r w2 ⟨rfl, hb⟩
         have HB2 := Lib.hid (Base.below_step HB1.out hb)
         clear hb)
      | (go_at_call 15; with_reducible refine (known_any _).mono ?_; rintro r w1 ⟨rfl, hb⟩
         have HB1 := Lib.hid hb
         clear hb))
    have HZ2 := Lib.hid (Rec.Bk.new w2 w2.heap.size rfl 29 [.int .i64 1024, .int .i64 32, .int .i64 8192, .int .i64 65536, .int .i64 32, .int .i64 8, .int .i64 4, .int .i64 20, .bool true, .bool true])
    have HBW := Lib.hid (HB2.out.alloc HB2.out.size (.cells #[.int .i64 1024, .int .i64 32, .int .i64 8192, .int .i64 65536, .int .i64 32, .int .i64 8, .int .i64 4, .int .i64 20, .bool true, .bool true] 29))
    have HGB := Lib.hid (show w2.heap.size < (w2.alloc (.cells #[.int .i64 1024, .int .i64 32, .int .i64 8192, .int .i64 65536, .int .i64 32, .int .i64 8, .int .i64 4, .int .i64 20, .bool true, .bool true] 29)).heap.size by simp)
    generalize w2.alloc (.cells #[.int .i64 1024, .int .i64 32, .int .i64 8192, .int .i64 65536, .int .i64 32, .int .i64 8, .int .i64 4, .int .i64 20, .bool true, .bool true] 29) = W2 at *
    generalize w2.heap.size = gB at *
    clear t6
    go_loopw [6, 7, 8] (fun s wt i wr => ∃ (q : Nat) (S V : ByteArray), q ≤ ln ∧ i = .int .i64 q ∧ s = .string S ∧ wt = .string V ∧ S.size ≤ 31 + 9 * q ∧ V.size ≤ 1 + 4 * q ∧ Hid (Below W2.heap.size W2 wr) ∧ Hid (S.data.toList = foldL0 ++ foldsB (bs.take q)) ∧ Hid (V.data.toList = 98 :: foldsVB (bs.take q))) (fun _ _ i _ => ln - (intOf i).toNat)
    case atStart => exact ⟨0, _, _, Nat.zero_le _, rfl, rfl, rfl, by decide, by decide, Lib.hid (Below.refl _ _), Lib.hid rfl, Lib.hid rfl⟩
    case round =>
      obtain ⟨q, S, V, hq, rfl, rfl, rfl, hS, hV, hbr, hSL, hVL⟩ := hrel
      rcases Nat.lt_or_ge q ln with hlt | hge
      · have hkl : q < bs.length := by rw [HLB.out]; exact hlt
        have hv0 := HV.out
        obtain ⟨bl, off, rfl, hbl, hc⟩ := hv0.2 (by omega)
        have hck := hc q hlt
        rw [nums_at bs q hkl] at hck
        have hs1 := foldsB_snoc bs q hkl; have hs2 := foldsVB_snoc bs q hkl
        have hx9 : bs[q].toNat < 256 := bs[q].toNat_lt
        generalize bs[q].toNat = xn at *
        have hbw : Below w.heap.size w wr := HBW.out.trans (hbr.out.mono HBW.out.size)
        have HCQ0 := Lib.hid ((hbw.cell (p := ⟨bl, off + q, none⟩) hbl).trans hck); have HBL0 := Lib.hid (Nat.lt_of_lt_of_le hbl hbw.size)
        obtain ⟨r4, hr4⟩ : ∃ r, xn % 4 = r := ⟨_, rfl⟩
        obtain ⟨d4, hd4⟩ : ∃ r, xn / 4 = r := ⟨_, rfl⟩
        obtain ⟨r3, hr3⟩ : ∃ r, d4 % 3 = r := ⟨_, rfl⟩
        obtain ⟨d12, hd12⟩ : ∃ r, xn / 12 = r := ⟨_, rfl⟩
        obtain ⟨r2, hr2⟩ : ∃ r, d12 % 2 = r := ⟨_, rfl⟩
        have l4 : r4 < 4 := by omega
        have l3 : r3 < 3 := by omega
        have l2 : r2 < 2 := by omega
        obtain ⟨X4, a4, b4, c4, z4⟩ := fws_at r4 l4
        obtain ⟨X3, a3, b3, c3, z3⟩ := fss_at r3 l3
        obtain ⟨X2, a2, b2, c2, z2⟩ := fts_at r2 l2
        have hln : foldLn xn = X3.data.toList ++ X4.data.toList ++ X2.data.toList := by unfold foldLn foldW; rw [hr4, hd4, hr3, hd12, hr2, a4, a3, a2]
        have hfw : foldW xn = X4.data.toList := by unfold foldW; rw [hr4, a4]
        have HS1 := Lib.hid (show foldsB (bs.take (q + 1)) = foldsB (bs.take q) ++ (X3.data.toList ++ X4.data.toList ++ X2.data.toList ++ [13, 10]) by rw [hs1, hln])
        have HS5 := Lib.hid (show foldsVB (bs.take (q + 1)) = foldsVB (bs.take q) ++ (32 :: X4.data.toList) by rw [hs2, hfw])
        have Hr4 := Lib.hid (show Int.tmod ((xn : Nat) : Int) 4 = (r4 : Int) by rw [Int.tmod_eq_emod_of_nonneg (by omega)]; omega)
        have Hd4 := Lib.hid (show Int.tdiv ((xn : Nat) : Int) 4 = (d4 : Int) ∧ (d4 : Int) % 256 = (d4 : Int) by rw [Int.tdiv_eq_ediv_of_nonneg (by omega)]; omega)
        have Hr3 := Lib.hid (show Int.tmod ((d4 : Nat) : Int) 3 = (r3 : Int) by rw [Int.tmod_eq_emod_of_nonneg (by omega)]; omega)
        have Hd12 := Lib.hid (show Int.tdiv ((xn : Nat) : Int) 12 = (d12 : Int) ∧ (d12 : Int) % 256 = (d12 : Int) by rw [Int.tdiv_eq_ediv_of_nonneg (by omega)]; omega)
        have Hr2 := Lib.hid (show Int.tmod ((d12 : Nat) : Int) 2 = (r2 : Int) by rw [Int.tmod_eq_emod_of_nonneg (by omega)]; omega)
        have HVS := Lib.hid (show (¬ 9223372036854775807 < S.size + X3.size) ∧ (¬ 9223372036854775807 < S.size + X3.size + X4.size) ∧ (¬ 9223372036854775807 < S.size + X3.size + X4.size + X2.size) ∧ (¬ 9223372036854775807 < S.size + X3.size + X4.size + X2.size + 2) by omega)
        have HVW := Lib.hid (show (¬ 9223372036854775807 < V.size + 1) ∧ (¬ 9223372036854775807 < V.size + 1 + X4.size) by omega)
        have HSZ := Lib.hid (show S.size + X3.size + X4.size + X2.size + 2 ≤ 31 + 9 * (q + 1) ∧ V.size + 1 + X4.size ≤ 1 + 4 * (q + 1) by omega)
        have HS4 := Lib.hid z4; have HC4 := Lib.hid c4; have HS3 := Lib.hid z3; have HS2 := Lib.hid z2; have T1 := Lib.hid (show (q : Int) < (ln : Int) by omega)
        have Lr3 := Lib.hid l3; have Lr2 := Lib.hid l2
        have l4i : (r4 : Int) < 4 := by omega
        clear hc hkl hv0 hck hs1 hs2 hx9 hbw hr4 hd4 hr3 hd12 hr2 l3 l2 a4 a3 a2 b4 b3 b2 c4 c3 c2 z4 z3 z2 hln hfw hS hV
        have hcq : ∀ o : Obj, (wr.alloc o).cell? ⟨bl, off + q, none⟩ = some (.int .u8 ((xn : Nat) : Int)) := fun o => (((Below.refl wr.heap.size wr).alloc (Nat.le_refl _) o).cell (p := ⟨bl, off + q, none⟩) HBL0.out).trans HCQ0.out
        have g1 := Hr4.out; have g2 := HC4.out; have g3 := HS4.out wr 9; have t1 := T1.out
        go_upto_region 11 with fail
        have hb5 : Below wr.heap.size wr (wr.alloc (.cells #[.string ⟨#[99]⟩, .string ⟨#[100, 32, 101]⟩, .string ⟨#[]⟩, .string ⟨#[120, 58]⟩] 9)) := (Below.refl _ _).alloc (Nat.le_refl _) _
        have HB5 := Lib.hid hb5; have HCQ5 := Lib.hid (hcq (.cells #[.string ⟨#[99]⟩, .string ⟨#[100, 32, 101]⟩, .string ⟨#[]⟩, .string ⟨#[120, 58]⟩] 9)); have HBL5 := Lib.hid (Nat.lt_of_lt_of_le HBL0.out hb5.size)
        clear g1 g2 g3 t1 hcq hb5 l4 l4i
        generalize wr.alloc (.cells #[.string ⟨#[99]⟩, .string ⟨#[100, 32, 101]⟩, .string ⟨#[]⟩, .string ⟨#[120, 58]⟩] 9) = w5 at *
        have hdw : Below w5.heap.size w5 (w5.drewN 1) := Base.below_drewN (Below.refl w5.heap.size w5) 1
        have HCQ := Lib.hid ((hdw.cell (p := ⟨bl, off + q, none⟩) HBL5.out).trans HCQ5.out)
        have HBL := Lib.hid (Nat.lt_of_lt_of_le HBL5.out hdw.size)
        clear hdw
        refine Each.region 24 [34, 35, 36, 37, 38, 39, 40, 41, 42, 43, 44, 45, 46, 47, 48, 49, 50, 51, 52, 53, 54, 55, 56, 57]
            [fun v _ => v = .string S,
              LitAt 3 r3 X3,
              fun v _ => v = .slice (some ⟨bl, off, none⟩) ln cap,
              fun v _ => v = .int .i64 (q : Int),
              fun v _ => v = .pointer (some ⟨bl, off + q, none⟩),
              fun v _ => v = .int .u8 ((xn : Nat) : Int),
              fun v _ => v = .int .u8 ((d4 : Nat) : Int),
              fun v _ => v = .int .u8 ((r3 : Nat) : Int),
              CellAt X3,
              fun v _ => v = .string X3,
              fun v _ => v = .string (S ++ X3),
              fun v _ => v = .string X4,
              fun v _ => v = .string (S ++ X3 ++ X4),
              LitAt 2 r2 X2,
              fun v _ => v = .slice (some ⟨bl, off, none⟩) ln cap,
              fun v _ => v = .int .i64 (q : Int),
              fun v _ => v = .pointer (some ⟨bl, off + q, none⟩),
              fun v _ => v = .int .u8 ((xn : Nat) : Int),
              fun v _ => v = .int .u8 ((d12 : Nat) : Int),
              fun v _ => v = .int .u8 ((r2 : Nat) : Int),
              CellAt X2,
              fun v _ => v = .string X2,
              fun v _ => v = .string (S ++ X3 ++ X4 ++ X2),
              fun v _ => v = .string (S ++ X3 ++ X4 ++ X2 ++ ⟨#[13, 10]⟩)]
            (.quiet 24 .done) (by kernel_rfl) (by kernel_rfl) (by kernel_rfl) (by kernel_rfl) (fun _ _ d _ _ h => by cases d <;> exact h) (by rfl) (by rfl)
            ⟨Each.Lasts.eq _, (LitAt.lasts), Each.Lasts.eq _, Each.Lasts.eq _, Each.Lasts.eq _, Each.Lasts.eq _, Each.Lasts.eq _, Each.Lasts.eq _, (CellAt.lasts), Each.Lasts.eq _, Each.Lasts.eq _, Each.Lasts.eq _, Each.Lasts.eq _, (LitAt.lasts), Each.Lasts.eq _, Each.Lasts.eq _, Each.Lasts.eq _, Each.Lasts.eq _, Each.Lasts.eq _, Each.Lasts.eq _, (CellAt.lasts), Each.Lasts.eq _, Each.Lasts.eq _, Each.Lasts.eq _, trivial⟩ ?_ ?_
        · refine ⟨?_, ?_, ?_, ?_, ?_, ?_, ?_, ?_, ?_, ?_, ?_, ?_, ?_, ?_, ?_, ?_, ?_, ?_, ?_, ?_, ?_, ?_, ?_, ?_, trivial⟩
          · refine Each.fine rfl (fun ev w1 hR hb hh => ?_)
            clear hh
            have e6 := hR.old 6 rfl
            simp only [Array.getD_eq_getD_getElem?, List.getElem?_toArray, List.getElem?_cons_succ, List.getElem?_cons_zero, Option.getD_some] at e6
            refine Each.Goes.same ?_
            go_simp
            try with_reducible rfl
          · refine Each.fine rfl (fun ev w1 hR hb hh => ?_)
            clear hh
            have ec := hR.const
            exact Each.Goes.value (.slice (some ⟨w1.heap.size, 0, none⟩) 3 3) (w1.alloc (.cells #[.string ⟨#[32]⟩, .string ⟨#[9]⟩, .string ⟨#[32, 32, 9]⟩] 9)) (by go_simp) ((Below.refl _ _).alloc (Nat.le_refl _) _) ⟨w1.heap.size, rfl, by simp, HS3.out w1 _⟩
          · refine Each.fine rfl (fun ev w1 hR hb hh => ?_)
            clear hh
            have e0 := hR.old 0 rfl
            simp only [Array.getD_eq_getD_getElem?, List.getElem?_toArray, List.getElem?_cons_zero, Option.getD_some] at e0
            refine Each.Goes.same ?_
            go_simp
            try with_reducible rfl
          · refine Each.fine rfl (fun ev w1 hR hb hh => ?_)
            clear hh
            have e8 := hR.old 8 rfl
            simp only [Array.getD_eq_getD_getElem?, List.getElem?_toArray, List.getElem?_cons_succ, List.getElem?_cons_zero, Option.getD_some] at e8
            refine Each.Goes.same ?_
            go_simp
            try with_reducible rfl
          · refine Each.fine rfl (fun ev w1 hR hb hh => ?_)
            have e36 : (ev (.tmp 36) = .slice (some ⟨bl, off, none⟩) ln cap) := hh.at 0
            have e37 : (ev (.tmp 37) = .int .i64 (q : Int)) := hh.at 1
            clear hh
            have h01 : (0 : Int) ≤ (q : Int) := by omega
            have t1 := T1.out
            refine Each.Goes.same ?_
            go_simp
            all_goals (try with_reducible rfl)
          · refine Each.fine rfl (fun ev w1 hR hb hh => ?_)
            have e38 : (ev (.tmp 38) = .pointer (some ⟨bl, off + q, none⟩)) := hh.at 0
            clear hh
            have qc := (hb.cell (p := ⟨bl, off + q, none⟩) HBL.out).trans HCQ.out
            refine Each.Goes.same ?_
            go_simp
            try with_reducible rfl
          · refine Each.fine rfl (fun ev w1 hR hb hh => ?_)
            have e39 : (ev (.tmp 39) = .int .u8 ((xn : Nat) : Int)) := hh.at 0
            clear hh
            have ec := hR.const
            obtain ⟨g1, g2⟩ := Hd4.out
            refine Each.Goes.same ?_
            go_simp
            rw [IntKind.wrap_u8]
            exact g2
          · refine Each.fine rfl (fun ev w1 hR hb hh => ?_)
            have e40 : (ev (.tmp 40) = .int .u8 ((d4 : Nat) : Int)) := hh.at 0
            clear hh
            have ec := hR.const
            have g1 := Hr3.out
            refine Each.Goes.same ?_
            go_simp
            try with_reducible rfl
          · refine Each.fine rfl (fun ev w1 hR hb hh => ?_)
            have e35 : ((LitAt 3 r3 X3) (ev (.tmp 35)) w1) := hh.at 0
            have e41 : (ev (.tmp 41) = .int .u8 ((r3 : Nat) : Int)) := hh.at 1
            clear hh
            obtain ⟨g, eg, hg1, hg2⟩ := e35
            have h01 : (0 : Int) ≤ (r3 : Int) := by omega
            have h02 : (r3 : Int) < 3 := by have := Lr3.out; omega
            exact Each.Goes.value (.pointer (some ⟨g, r3, none⟩)) w1 (by go_simp) (Below.refl _ _) ⟨g, r3, rfl, hg1, hg2⟩
          · refine Each.fine rfl (fun ev w1 hR hb hh => ?_)
            have e42 : ((CellAt X3) (ev (.tmp 42)) w1) := hh.at 0
            clear hh
            obtain ⟨g, k9, eg, hg1, hg2⟩ := e42
            refine Each.Goes.same ?_
            go_simp
            try with_reducible rfl
          · refine Each.fine rfl (fun ev w1 hR hb hh => ?_)
            have e34 : (ev (.tmp 34) = .string S) := hh.at 0
            have e43 : (ev (.tmp 43) = .string X3) := hh.at 1
            clear hh
            obtain ⟨v1, v2, v3, v4⟩ := HVS.out
            refine Each.Goes.same ?_
            go_simp
            try with_reducible rfl
          · refine Each.fine rfl (fun ev w1 hR hb hh => ?_)
            clear hh
            have e9 := hR.old 9 rfl
            simp only [Array.getD_eq_getD_getElem?, List.getElem?_toArray, List.getElem?_cons_succ, List.getElem?_cons_zero, Option.getD_some] at e9
            refine Each.Goes.same ?_
            go_simp
            try with_reducible rfl
          · refine Each.fine rfl (fun ev w1 hR hb hh => ?_)
            have e44 : (ev (.tmp 44) = .string (S ++ X3)) := hh.at 0
            have e45 : (ev (.tmp 45) = .string X4) := hh.at 1
            clear hh
            obtain ⟨v1, v2, v3, v4⟩ := HVS.out
            refine Each.Goes.same ?_
            go_simp
            try with_reducible rfl
          · refine Each.fine rfl (fun ev w1 hR hb hh => ?_)
            clear hh
            have ec := hR.const
            exact Each.Goes.value (.slice (some ⟨w1.heap.size, 0, none⟩) 2 2) (w1.alloc (.cells #[.string ⟨#[]⟩, .string ⟨#[32]⟩] 9)) (by go_simp) ((Below.refl _ _).alloc (Nat.le_refl _) _) ⟨w1.heap.size, rfl, by simp, HS2.out w1 _⟩
          · refine Each.fine rfl (fun ev w1 hR hb hh => ?_)
            clear hh
            have e0 := hR.old 0 rfl
            simp only [Array.getD_eq_getD_getElem?, List.getElem?_toArray, List.getElem?_cons_zero, Option.getD_some] at e0
            refine Each.Goes.same ?_
            go_simp
            try with_reducible rfl
          · refine Each.fine rfl (fun ev w1 hR hb hh => ?_)
            clear hh
            have e8 := hR.old 8 rfl
            simp only [Array.getD_eq_getD_getElem?, List.getElem?_toArray, List.getElem?_cons_succ, List.getElem?_cons_zero, Option.getD_some] at e8
            refine Each.Goes.same ?_
            go_simp
            try with_reducible rfl
          · refine Each.fine rfl (fun ev w1 hR hb hh => ?_)
            have e48 : (ev (.tmp 48) = .slice (some ⟨bl, off, none⟩) ln cap) := hh.at 0
            have e49 : (ev (.tmp 49) = .int .i64 (q : Int)) := hh.at 1
            clear hh
            have h01 : (0 : Int) ≤ (q : Int) := by omega
            have t1 := T1.out
            refine Each.Goes.same ?_
            go_simp
            all_goals (try with_reducible rfl)
          · refine Each.fine rfl (fun ev w1 hR hb hh => ?_)
            have e50 : (ev (.tmp 50) = .pointer (some ⟨bl, off + q, none⟩)) := hh.at 0
            clear hh
            have qc := (hb.cell (p := ⟨bl, off + q, none⟩) HBL.out).trans HCQ.out
            refine Each.Goes.same ?_
            go_simp
            try with_reducible rfl
          · refine Each.fine rfl (fun ev w1 hR hb hh => ?_)
            have e51 : (ev (.tmp 51) = .int .u8 ((xn : Nat) : Int)) := hh.at 0
            clear hh
            have ec := hR.const
            obtain ⟨g1, g2⟩ := Hd12.out
            refine Each.Goes.same ?_
            go_simp
            rw [IntKind.wrap_u8]
            exact g2
          · refine Each.fine rfl (fun ev w1 hR hb hh => ?_)
            have e52 : (ev (.tmp 52) = .int .u8 ((d12 : Nat) : Int)) := hh.at 0
            clear hh
            have ec := hR.const
            have g1 := Hr2.out
            refine Each.Goes.same ?_
            go_simp
            try with_reducible rfl
          · refine Each.fine rfl (fun ev w1 hR hb hh => ?_)
            have e47 : ((LitAt 2 r2 X2) (ev (.tmp 47)) w1) := hh.at 0
            have e53 : (ev (.tmp 53) = .int .u8 ((r2 : Nat) : Int)) := hh.at 1
            clear hh
            obtain ⟨g, eg, hg1, hg2⟩ := e47
            have h01 : (0 : Int) ≤ (r2 : Int) := by omega
            have h02 : (r2 : Int) < 2 := by have := Lr2.out; omega
            exact Each.Goes.value (.pointer (some ⟨g, r2, none⟩)) w1 (by go_simp) (Below.refl _ _) ⟨g, r2, rfl, hg1, hg2⟩
          · refine Each.fine rfl (fun ev w1 hR hb hh => ?_)
            have e54 : ((CellAt X2) (ev (.tmp 54)) w1) := hh.at 0
            clear hh
            obtain ⟨g, k9, eg, hg1, hg2⟩ := e54
            refine Each.Goes.same ?_
            go_simp
            try with_reducible rfl
          · refine Each.fine rfl (fun ev w1 hR hb hh => ?_)
            have e46 : (ev (.tmp 46) = .string (S ++ X3 ++ X4)) := hh.at 0
            have e55 : (ev (.tmp 55) = .string X2) := hh.at 1
            clear hh
            obtain ⟨v1, v2, v3, v4⟩ := HVS.out
            refine Each.Goes.same ?_
            go_simp
            try with_reducible rfl
          · refine Each.fine rfl (fun ev w1 hR hb hh => ?_)
            have e56 : (ev (.tmp 56) = .string (S ++ X3 ++ X4 ++ X2)) := hh.at 0
            clear hh
            have ec := hR.const
            obtain ⟨v1, v2, v3, v4⟩ := HVS.out
            refine Each.Goes.same ?_
            go_simp
            try with_reducible rfl
        intro ga w6 hb6 hf
        have z57 : (ga 57 = .string (S ++ X3 ++ X4 ++ X2 ++ ⟨#[13, 10]⟩)) := hf.at 23
        clear hf
        simp only [Each.putg, Act.put, List.setIfInBounds_toArray, List.set_cons_zero, List.set_cons_succ]
        rw [z57]
        simp only [Tree.grow, Tree.put1, List.getElem?_cons_zero, List.getElem?_cons_succ]
        refine Tree.assign _ (by rfl) (by rfl) ?_
        simp only [Act.put, Act.eval, Array.getD_eq_getD_getElem?, List.getElem?_toArray, List.getElem?_cons_zero, List.getElem?_cons_succ, Option.getD_some, List.setIfInBounds_toArray, List.set_cons_zero, List.set_cons_succ]
        refine Tree.done ?_
        have HB7 := Lib.hid (show Below W2.heap.size W2 w6 from Base.below_step (Base.below_step hbr.out HB5.out) hb6)
        clear hb6
        obtain ⟨v5, v6⟩ := HVW.out
        go_wp2_with fail
        clear v5 v6
        go_roundw
        case rel => exact ⟨q + 1, _, _, by omega, by go_num, (by first | rfl | trivial), (by first | rfl | trivial), (by simp only [ByteArray.size_append]; exact HSZ.out.1), (by simp only [ByteArray.size_append]; exact HSZ.out.2), HB7, Lib.hid (by rw [HS1.out]; simp only [ByteArray.data_append, Array.toList_append, hSL.out, List.append_assoc]), Lib.hid (by rw [HS5.out]; simp only [ByteArray.data_append, Array.toList_append, hVL.out, List.append_assoc, List.cons_append]; rfl)⟩
        case measure => simp [intOf]; omega
      · obtain rfl : q = ln := by omega
        have hS2 := hSL.out; have hV2 := hVL.out
        rw [List.take_of_length_le (by rw [HLB.out]; exact Nat.le_refl _)] at hS2 hV2
        have t1 : ¬ (q : Int) < (q : Int) := by omega
        have v1 : ¬ 9223372036854775807 < S.size + 2 := by omega
        obtain ⟨N, hN⟩ : ∃ N, S.size = N := ⟨_, rfl⟩
        obtain ⟨k1, k2, k3⟩ := folds_read hp hpf (bs.map (·.toNat)) (by intro x hx; obtain ⟨c, -, rfl⟩ := List.mem_map.1 hx; exact c.toNat_lt) (by rw [List.length_map, HLB.out]; omega)
        obtain ⟨W5, cap5, hcv, hby, hlt5, hb5⟩ := By.conv_bytes (S ++ (⟨#[13, 10]⟩ : ByteArray)) wr
        have hsz3 : (S ++ (⟨#[13, 10]⟩ : ByteArray)).size = N + 2 := by rw [ByteArray.size_append, hN]; rfl
        have hl3 : (S ++ (⟨#[13, 10]⟩ : ByteArray)).data.toList = foldL0 ++ foldsB bs ++ [13, 10] := by rw [ByteArray.data_append, Array.toList_append, hS2]
        have hbt := Bts.conv (L := []) (in_nil wr) _ hby hlt5
        have hlen : (foldL0 ++ foldsB bs ++ [13, 10]).length = N + 2 := by rw [← hl3, len]; exact hsz3
        rw [hl3] at hbt
        rw [hsz3] at hcv
        have hrd := read_said (p := p) (by omega) foldB W5 _ cap5 _ hbt (by rw [hlen]; omega) 0 true _ k1 k2 k3
        rw [hlen] at hrd
        have hbr2 := hbr.out
        have HRD := Lib.hid (show Calls Tryz.prog 32 #[.int .u32 (p : Int), .agg #[.int .i64 1024, .int .i64 32, .int .i64 8192, .int .i64 65536, .int .i64 32, .int .i64 8, .int .i64 4, .int .i64 20, .bool true, .bool true], .slice (some ⟨wr.heap.size, 0, none⟩) (N + 2) cap5] W5 fun r w' => ∃ o, r = .returned (.tuple #[o, .int .i64 0, .bool true]) ∧ Said w' o [foldR (98 :: foldsVB bs)] ∧ Below W5.heap.size W5 w' from hrd)
        have hW5 : Below w.heap.size w W5 := Base.below_step (Base.below_step HBW.out hbr2) hb5
        have HB5 := Lib.hid hW5
        have hz := HZ2.out.below hbr2
        have y0 := hz.c 0 _ rfl; have y1 := hz.c 1 _ rfl; have y2 := hz.c 2 _ rfl; have y3 := hz.c 3 _ rfl; have y4 := hz.c 4 _ rfl; have y5 := hz.c 5 _ rfl; have y6 := hz.c 6 _ rfl; have y7 := hz.c 7 _ rfl; have y8 := hz.c 8 _ rfl; have y9 := hz.c 9 _ rfl
        have hV3 : V = ba (98 :: foldsVB bs) := by rw [← hV2]; rfl
        obtain ⟨f1, f2⟩ := HM.out
        clear hby hlt5 hb5 hsz3 hl3 hbt hlen k1 k2 k3 hrd hS hV hS2 hV2 hbr2 hW5 hz hSL hVL
        subst hV3
        go_wp2_with
          (go_at_call 32; with_reducible refine HRD.out.mono ?_; rintro r w6 ⟨o, rfl, hT, hb⟩
           obtain ⟨a8, c1, e8, hc8⟩ := hT
           obtain ⟨bk, rfl, hbk, hr8⟩ := hc8 Nat.zero_lt_one
           obtain ⟨fa, fc, ba1, bc, ta, tc, p1, p2, p3, d0, d1, d2, d3, d4, d5, d6⟩ := hr8 0 Nat.zero_lt_one
           have e8 : o = .slice (some ⟨bk, 0, none⟩) 1 c1 := e8
           subst e8
           obtain ⟨fb, foff, rfl, hfb, hcs⟩ := p1.2 (show 0 < 2 by decide)
           have q1 : w6.cell? ⟨fb, foff + 2 + 1, none⟩ = some (.string (ba (98 :: foldsVB bs))) := (hcs 1 (show 1 < 2 by decide)).2
           replace d3 : w6.cell? ⟨bk, 0 + 3, none⟩ = some (.slice (some ⟨fb, foff, none⟩) 2 fc) := d3
           have HB6 := Lib.hid hb
           clear hb p1 p2 p3 d0 d1 d2 d4 d5 d6 hc8 hr8 hcs y0 y1 y2 y3 y4 y5 y6 y7 y8 y9)
        go_ret
        exact ⟨rfl, Base.below_step HB5.out HB6.out⟩
end code
end Go.Proofs.YtbineebnhjifiaaGreatDoor.Pg
