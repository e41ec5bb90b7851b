/-
  Layer 10 (framing): the laws' own fields of few numbers: some fields, of bounded sizes; the profile of quiet clauses: some profile. (Printed by tools/gen_frmseat.py.)
-/
import Derived.Test.YtoakalklbpoknaaDoorText
import Derived.Test.YtoakalklbpoknaaDoorSeat
import Derived.WalkKit
import Derived.Deep.Draws
namespace Go.Proofs.YtoakalklbpoknaaDoor.Frm
open Go.RowKit Base Txt

def tbl : List Fld := [(⟨#[72, 111, 115, 116]⟩, ⟨#[97]⟩), (⟨#[104, 111, 115, 116]⟩, ⟨#[98, 58, 56, 48]⟩), (⟨#[72, 111, 115, 116]⟩, ⟨#[97, 32, 98]⟩), (⟨#[84, 114, 97, 110, 115, 102, 101, 114, 45, 69, 110, 99, 111, 100, 105, 110, 103]⟩, ⟨#[99, 104, 117, 110, 107, 101, 100]⟩), (⟨#[116, 114, 97, 110, 115, 102, 101, 114, 45, 101, 110, 99, 111, 100, 105, 110, 103]⟩, ⟨#[103, 122, 105, 112]⟩), (⟨#[84, 114, 97, 110, 115, 102, 101, 114, 45, 69, 110, 99, 111, 100, 105, 110, 103]⟩, ⟨#[103, 122, 105, 112, 44, 32, 99, 104, 117, 110, 107, 101, 100]⟩), (⟨#[84, 114, 97, 110, 115, 102, 101, 114, 45, 69, 110, 99, 111, 100, 105, 110, 103]⟩, ⟨#[11, 99, 104, 117, 110, 107, 101, 100]⟩), (⟨#[84, 114, 97, 110, 115, 102, 101, 114, 45, 69, 110, 99, 111, 100, 105, 110, 103]⟩, ⟨#[]⟩), (⟨#[67, 111, 110, 116, 101, 110, 116, 45, 76, 101, 110, 103, 116, 104]⟩, ⟨#[53]⟩), (⟨#[99, 111, 110, 116, 101, 110, 116, 45, 108, 101, 110, 103, 116, 104]⟩, ⟨#[53]⟩), (⟨#[67, 111, 110, 116, 101, 110, 116, 45, 76, 101, 110, 103, 116, 104]⟩, ⟨#[54]⟩), (⟨#[67, 111, 110, 116, 101, 110, 116, 45, 76, 101, 110, 103, 116, 104]⟩, ⟨#[43, 53]⟩), (⟨#[67, 111, 110, 116, 101, 110, 116, 45, 76, 101, 110, 103, 116, 104]⟩, ⟨#[53, 44, 32, 53]⟩), (⟨#[67, 111, 110, 116, 101, 110, 116, 45, 76, 101, 110, 103, 116, 104]⟩, ⟨#[53, 44, 54]⟩), (⟨#[67, 111, 110, 116, 101, 110, 116, 45, 76, 101, 110, 103, 116, 104]⟩, ⟨#[]⟩), (⟨#[67, 111, 110, 116, 101, 110, 116, 45, 76, 101, 110, 103, 116, 104]⟩, ⟨#[57, 57, 57, 57, 57, 57, 57, 57, 57, 57, 57, 57, 57, 57, 57, 57, 57, 57, 57, 57]⟩), (⟨#[88]⟩, ⟨#[121]⟩), (⟨#[84, 114, 97, 110, 115, 102, 101, 114, 45, 69, 110, 99, 111, 100, 105, 110, 103]⟩, ⟨#[99, 104, 117, 110, 107, 101, 100, 44, 32, 99, 104, 117, 110, 107, 101, 100]⟩)]
theorem tbl_sizes : (tbl.all fun f => decide (f.1.size ≤ 30) && decide (f.2.size ≤ 30)) = true := by decide +kernel
theorem tbl_at (r : Nat) (hr : r < 18) : ∃ X0 X1 : ByteArray, X0.size ≤ 30 ∧ X1.size ≤ 30 ∧ ∀ w : World, (w.alloc (.cells #[.string ⟨#[72, 111, 115, 116]⟩, .string ⟨#[97]⟩, .string ⟨#[104, 111, 115, 116]⟩, .string ⟨#[98, 58, 56, 48]⟩, .string ⟨#[72, 111, 115, 116]⟩, .string ⟨#[97, 32, 98]⟩, .string ⟨#[84, 114, 97, 110, 115, 102, 101, 114, 45, 69, 110, 99, 111, 100, 105, 110, 103]⟩, .string ⟨#[99, 104, 117, 110, 107, 101, 100]⟩, .string ⟨#[116, 114, 97, 110, 115, 102, 101, 114, 45, 101, 110, 99, 111, 100, 105, 110, 103]⟩, .string ⟨#[103, 122, 105, 112]⟩, .string ⟨#[84, 114, 97, 110, 115, 102, 101, 114, 45, 69, 110, 99, 111, 100, 105, 110, 103]⟩, .string ⟨#[103, 122, 105, 112, 44, 32, 99, 104, 117, 110, 107, 101, 100]⟩, .string ⟨#[84, 114, 97, 110, 115, 102, 101, 114, 45, 69, 110, 99, 111, 100, 105, 110, 103]⟩, .string ⟨#[11, 99, 104, 117, 110, 107, 101, 100]⟩, .string ⟨#[84, 114, 97, 110, 115, 102, 101, 114, 45, 69, 110, 99, 111, 100, 105, 110, 103]⟩, .string ⟨#[]⟩, .string ⟨#[67, 111, 110, 116, 101, 110, 116, 45, 76, 101, 110, 103, 116, 104]⟩, .string ⟨#[53]⟩, .string ⟨#[99, 111, 110, 116, 101, 110, 116, 45, 108, 101, 110, 103, 116, 104]⟩, .string ⟨#[53]⟩, .string ⟨#[67, 111, 110, 116, 101, 110, 116, 45, 76, 101, 110, 103, 116, 104]⟩, .string ⟨#[54]⟩, .string ⟨#[67, 111, 110, 116, 101, 110, 116, 45, 76, 101, 110, 103, 116, 104]⟩, .string ⟨#[43, 53]⟩, .string ⟨#[67, 111, 110, 116, 101, 110, 116, 45, 76, 101, 110, 103, 116, 104]⟩, .string ⟨#[53, 44, 32, 53]⟩, .string ⟨#[67, 111, 110, 116, 101, 110, 116, 45, 76, 101, 110, 103, 116, 104]⟩, .string ⟨#[53, 44, 54]⟩, .string ⟨#[67, 111, 110, 116, 101, 110, 116, 45, 76, 101, 110, 103, 116, 104]⟩, .string ⟨#[]⟩, .string ⟨#[67, 111, 110, 116, 101, 110, 116, 45, 76, 101, 110, 103, 116, 104]⟩, .string ⟨#[57, 57, 57, 57, 57, 57, 57, 57, 57, 57, 57, 57, 57, 57, 57, 57, 57, 57, 57, 57]⟩, .string ⟨#[88]⟩, .string ⟨#[121]⟩, .string ⟨#[84, 114, 97, 110, 115, 102, 101, 114, 45, 69, 110, 99, 111, 100, 105, 110, 103]⟩, .string ⟨#[99, 104, 117, 110, 107, 101, 100, 44, 32, 99, 104, 117, 110, 107, 101, 100]⟩] 34)).cell? ⟨w.heap.size, r * 2, none⟩ = some (.string X0) ∧ (w.alloc (.cells #[.string ⟨#[72, 111, 115, 116]⟩, .string ⟨#[97]⟩, .string ⟨#[104, 111, 115, 116]⟩, .string ⟨#[98, 58, 56, 48]⟩, .string ⟨#[72, 111, 115, 116]⟩, .string ⟨#[97, 32, 98]⟩, .string ⟨#[84, 114, 97, 110, 115, 102, 101, 114, 45, 69, 110, 99, 111, 100, 105, 110, 103]⟩, .string ⟨#[99, 104, 117, 110, 107, 101, 100]⟩, .string ⟨#[116, 114, 97, 110, 115, 102, 101, 114, 45, 101, 110, 99, 111, 100, 105, 110, 103]⟩, .string ⟨#[103, 122, 105, 112]⟩, .string ⟨#[84, 114, 97, 110, 115, 102, 101, 114, 45, 69, 110, 99, 111, 100, 105, 110, 103]⟩, .string ⟨#[103, 122, 105, 112, 44, 32, 99, 104, 117, 110, 107, 101, 100]⟩, .string ⟨#[84, 114, 97, 110, 115, 102, 101, 114, 45, 69, 110, 99, 111, 100, 105, 110, 103]⟩, .string ⟨#[11, 99, 104, 117, 110, 107, 101, 100]⟩, .string ⟨#[84, 114, 97, 110, 115, 102, 101, 114, 45, 69, 110, 99, 111, 100, 105, 110, 103]⟩, .string ⟨#[]⟩, .string ⟨#[67, 111, 110, 116, 101, 110, 116, 45, 76, 101, 110, 103, 116, 104]⟩, .string ⟨#[53]⟩, .string ⟨#[99, 111, 110, 116, 101, 110, 116, 45, 108, 101, 110, 103, 116, 104]⟩, .string ⟨#[53]⟩, .string ⟨#[67, 111, 110, 116, 101, 110, 116, 45, 76, 101, 110, 103, 116, 104]⟩, .string ⟨#[54]⟩, .string ⟨#[67, 111, 110, 116, 101, 110, 116, 45, 76, 101, 110, 103, 116, 104]⟩, .string ⟨#[43, 53]⟩, .string ⟨#[67, 111, 110, 116, 101, 110, 116, 45, 76, 101, 110, 103, 116, 104]⟩, .string ⟨#[53, 44, 32, 53]⟩, .string ⟨#[67, 111, 110, 116, 101, 110, 116, 45, 76, 101, 110, 103, 116, 104]⟩, .string ⟨#[53, 44, 54]⟩, .string ⟨#[67, 111, 110, 116, 101, 110, 116, 45, 76, 101, 110, 103, 116, 104]⟩, .string ⟨#[]⟩, .string ⟨#[67, 111, 110, 116, 101, 110, 116, 45, 76, 101, 110, 103, 116, 104]⟩, .string ⟨#[57, 57, 57, 57, 57, 57, 57, 57, 57, 57, 57, 57, 57, 57, 57, 57, 57, 57, 57, 57]⟩, .string ⟨#[88]⟩, .string ⟨#[121]⟩, .string ⟨#[84, 114, 97, 110, 115, 102, 101, 114, 45, 69, 110, 99, 111, 100, 105, 110, 103]⟩, .string ⟨#[99, 104, 117, 110, 107, 101, 100, 44, 32, 99, 104, 117, 110, 107, 101, 100]⟩] 34)).cell? ⟨w.heap.size, r * 2 + 1, none⟩ = some (.string X1) := by
  have hl : r < tbl.length := hr
  obtain ⟨h0, h1⟩ := cells_at tbl r hl
  have hz := List.all_eq_true.1 tbl_sizes _ (List.getElem_mem hl)
  rw [Bool.and_eq_true, decide_eq_true_eq, decide_eq_true_eq] at hz
  have he : tbl[r]?.getD dflt = tbl[r] := by rw [List.getElem?_eq_getElem hl]; rfl
  rw [he] at h0 h1
  refine ⟨_, _, hz.1, hz.2, fun w => ⟨?_, ?_⟩⟩
  · refine (cell_of_row (w.alloc _) w.heap.size (r * 2) _ _ (0, 0) (heap_alloc_new w _)).trans ?_
    show ((cells tbl).toArray)[r * 2]? = _
    rw [List.getElem?_toArray]; exact h0
  · refine (cell_of_row (w.alloc _) w.heap.size (r * 2 + 1) _ _ (0, 0) (heap_alloc_new w _)).trans ?_
    show ((cells tbl).toArray)[r * 2 + 1]? = _
    rw [List.getElem?_toArray]; exact h1
theorem qints_at (k : Nat) (hk : k < 9) : ∃ c : Int, ∀ w : World, (w.alloc (.cells #[.int .i64 6, .int .i64 17, .int .i64 18, .int .i64 20, .int .i64 21, .int .i64 22, .int .i64 27, .int .i64 28, .int .i64 29] 3)).cell? ⟨w.heap.size, k, none⟩ = some (.int .i64 c) := by
  refine ⟨([6, 17, 18, 20, 21, 22, 27, 28, 29] : List Int)[k]'hk, fun w => ?_⟩
  refine (cell_of_row (w.alloc _) w.heap.size k _ _ (0, 0) (heap_alloc_new w _)).trans ?_
  rcases (by omega : k = 0 ∨ k = 1 ∨ k = 2 ∨ k = 3 ∨ k = 4 ∨ k = 5 ∨ k = 6 ∨ k = 7 ∨ k = 8) with rfl | rfl | rfl | rfl | rfl | rfl | rfl | rfl | rfl <;> rfl

section code
set_option maxHeartbeats 4000000
set_option maxRecDepth 10000
attribute [local go_sem] Base.some_undef
theorem head_any (a : Option Addr) (n cap : Nat) (bs : List UInt8) (w : World) (hv : Nums .u8 w a n (nums bs)) (hn : n ≤ 1000) :
    Calls Tryd.prog 12 #[.slice a n cap] w fun e w' => ∃ b c fs, e = .returned (.slice b n c) ∧ Flds w' b n fs ∧ (∀ f ∈ fs, f.1.size ≤ 30 ∧ f.2.size ≤ 30) ∧ Below w.heap.size w w' := by
  have hl : bs.length = n := by have := hv.1; rwa [nums, List.length_map] at this
  have HL := Lib.hid hl
  have HC := Lib.hid (fun r (hr : r < 18) => tbl_at r hr)
  have HB := Lib.hid (show Below w.heap.size w (w.alloc (.cells #[.string ⟨#[72, 111, 115, 116]⟩, .string ⟨#[97]⟩, .string ⟨#[104, 111, 115, 116]⟩, .string ⟨#[98, 58, 56, 48]⟩, .string ⟨#[72, 111, 115, 116]⟩, .string ⟨#[97, 32, 98]⟩, .string ⟨#[84, 114, 97, 110, 115, 102, 101, 114, 45, 69, 110, 99, 111, 100, 105, 110, 103]⟩, .string ⟨#[99, 104, 117, 110, 107, 101, 100]⟩, .string ⟨#[116, 114, 97, 110, 115, 102, 101, 114, 45, 101, 110, 99, 111, 100, 105, 110, 103]⟩, .string ⟨#[103, 122, 105, 112]⟩, .string ⟨#[84, 114, 97, 110, 115, 102, 101, 114, 45, 69, 110, 99, 111, 100, 105, 110, 103]⟩, .string ⟨#[103, 122, 105, 112, 44, 32, 99, 104, 117, 110, 107, 101, 100]⟩, .string ⟨#[84, 114, 97, 110, 115, 102, 101, 114, 45, 69, 110, 99, 111, 100, 105, 110, 103]⟩, .string ⟨#[11, 99, 104, 117, 110, 107, 101, 100]⟩, .string ⟨#[84, 114, 97, 110, 115, 102, 101, 114, 45, 69, 110, 99, 111, 100, 105, 110, 103]⟩, .string ⟨#[]⟩, .string ⟨#[67, 111, 110, 116, 101, 110, 116, 45, 76, 101, 110, 103, 116, 104]⟩, .string ⟨#[53]⟩, .string ⟨#[99, 111, 110, 116, 101, 110, 116, 45, 108, 101, 110, 103, 116, 104]⟩, .string ⟨#[53]⟩, .string ⟨#[67, 111, 110, 116, 101, 110, 116, 45, 76, 101, 110, 103, 116, 104]⟩, .string ⟨#[54]⟩, .string ⟨#[67, 111, 110, 116, 101, 110, 116, 45, 76, 101, 110, 103, 116, 104]⟩, .string ⟨#[43, 53]⟩, .string ⟨#[67, 111, 110, 116, 101, 110, 116, 45, 76, 101, 110, 103, 116, 104]⟩, .string ⟨#[53, 44, 32, 53]⟩, .string ⟨#[67, 111, 110, 116, 101, 110, 116, 45, 76, 101, 110, 103, 116, 104]⟩, .string ⟨#[53, 44, 54]⟩, .string ⟨#[67, 111, 110, 116, 101, 110, 116, 45, 76, 101, 110, 103, 116, 104]⟩, .string ⟨#[]⟩, .string ⟨#[67, 111, 110, 116, 101, 110, 116, 45, 76, 101, 110, 103, 116, 104]⟩, .string ⟨#[57, 57, 57, 57, 57, 57, 57, 57, 57, 57, 57, 57, 57, 57, 57, 57, 57, 57, 57, 57]⟩, .string ⟨#[88]⟩, .string ⟨#[121]⟩, .string ⟨#[84, 114, 97, 110, 115, 102, 101, 114, 45, 69, 110, 99, 111, 100, 105, 110, 103]⟩, .string ⟨#[99, 104, 117, 110, 107, 101, 100, 44, 32, 99, 104, 117, 110, 107, 101, 100]⟩] 34)) from (Below.refl _ _).alloc (Nat.le_refl _) _)
  have HV := Lib.hid (hv.below (w' := w.alloc (.cells #[.string ⟨#[72, 111, 115, 116]⟩, .string ⟨#[97]⟩, .string ⟨#[104, 111, 115, 116]⟩, .string ⟨#[98, 58, 56, 48]⟩, .string ⟨#[72, 111, 115, 116]⟩, .string ⟨#[97, 32, 98]⟩, .string ⟨#[84, 114, 97, 110, 115, 102, 101, 114, 45, 69, 110, 99, 111, 100, 105, 110, 103]⟩, .string ⟨#[99, 104, 117, 110, 107, 101, 100]⟩, .string ⟨#[116, 114, 97, 110, 115, 102, 101, 114, 45, 101, 110, 99, 111, 100, 105, 110, 103]⟩, .string ⟨#[103, 122, 105, 112]⟩, .string ⟨#[84, 114, 97, 110, 115, 102, 101, 114, 45, 69, 110, 99, 111, 100, 105, 110, 103]⟩, .string ⟨#[103, 122, 105, 112, 44, 32, 99, 104, 117, 110, 107, 101, 100]⟩, .string ⟨#[84, 114, 97, 110, 115, 102, 101, 114, 45, 69, 110, 99, 111, 100, 105, 110, 103]⟩, .string ⟨#[11, 99, 104, 117, 110, 107, 101, 100]⟩, .string ⟨#[84, 114, 97, 110, 115, 102, 101, 114, 45, 69, 110, 99, 111, 100, 105, 110, 103]⟩, .string ⟨#[]⟩, .string ⟨#[67, 111, 110, 116, 101, 110, 116, 45, 76, 101, 110, 103, 116, 104]⟩, .string ⟨#[53]⟩, .string ⟨#[99, 111, 110, 116, 101, 110, 116, 45, 108, 101, 110, 103, 116, 104]⟩, .string ⟨#[53]⟩, .string ⟨#[67, 111, 110, 116, 101, 110, 116, 45, 76, 101, 110, 103, 116, 104]⟩, .string ⟨#[54]⟩, .string ⟨#[67, 111, 110, 116, 101, 110, 116, 45, 76, 101, 110, 103, 116, 104]⟩, .string ⟨#[43, 53]⟩, .string ⟨#[67, 111, 110, 116, 101, 110, 116, 45, 76, 101, 110, 103, 116, 104]⟩, .string ⟨#[53, 44, 32, 53]⟩, .string ⟨#[67, 111, 110, 116, 101, 110, 116, 45, 76, 101, 110, 103, 116, 104]⟩, .string ⟨#[53, 44, 54]⟩, .string ⟨#[67, 111, 110, 116, 101, 110, 116, 45, 76, 101, 110, 103, 116, 104]⟩, .string ⟨#[]⟩, .string ⟨#[67, 111, 110, 116, 101, 110, 116, 45, 76, 101, 110, 103, 116, 104]⟩, .string ⟨#[57, 57, 57, 57, 57, 57, 57, 57, 57, 57, 57, 57, 57, 57, 57, 57, 57, 57, 57, 57]⟩, .string ⟨#[88]⟩, .string ⟨#[121]⟩, .string ⟨#[84, 114, 97, 110, 115, 102, 101, 114, 45, 69, 110, 99, 111, 100, 105, 110, 103]⟩, .string ⟨#[99, 104, 117, 110, 107, 101, 100, 44, 32, 99, 104, 117, 110, 107, 101, 100]⟩] 34)) ((Below.refl _ _).alloc (Nat.le_refl _) _))
  have hgW : w.heap.size < (w.alloc (.cells #[.string ⟨#[72, 111, 115, 116]⟩, .string ⟨#[97]⟩, .string ⟨#[104, 111, 115, 116]⟩, .string ⟨#[98, 58, 56, 48]⟩, .string ⟨#[72, 111, 115, 116]⟩, .string ⟨#[97, 32, 98]⟩, .string ⟨#[84, 114, 97, 110, 115, 102, 101, 114, 45, 69, 110, 99, 111, 100, 105, 110, 103]⟩, .string ⟨#[99, 104, 117, 110, 107, 101, 100]⟩, .string ⟨#[116, 114, 97, 110, 115, 102, 101, 114, 45, 101, 110, 99, 111, 100, 105, 110, 103]⟩, .string ⟨#[103, 122, 105, 112]⟩, .string ⟨#[84, 114, 97, 110, 115, 102, 101, 114, 45, 69, 110, 99, 111, 100, 105, 110, 103]⟩, .string ⟨#[103, 122, 105, 112, 44, 32, 99, 104, 117, 110, 107, 101, 100]⟩, .string ⟨#[84, 114, 97, 110, 115, 102, 101, 114, 45, 69, 110, 99, 111, 100, 105, 110, 103]⟩, .string ⟨#[11, 99, 104, 117, 110, 107, 101, 100]⟩, .string ⟨#[84, 114, 97, 110, 115, 102, 101, 114, 45, 69, 110, 99, 111, 100, 105, 110, 103]⟩, .string ⟨#[]⟩, .string ⟨#[67, 111, 110, 116, 101, 110, 116, 45, 76, 101, 110, 103, 116, 104]⟩, .string ⟨#[53]⟩, .string ⟨#[99, 111, 110, 116, 101, 110, 116, 45, 108, 101, 110, 103, 116, 104]⟩, .string ⟨#[53]⟩, .string ⟨#[67, 111, 110, 116, 101, 110, 116, 45, 76, 101, 110, 103, 116, 104]⟩, .string ⟨#[54]⟩, .string ⟨#[67, 111, 110, 116, 101, 110, 116, 45, 76, 101, 110, 103, 116, 104]⟩, .string ⟨#[43, 53]⟩, .string ⟨#[67, 111, 110, 116, 101, 110, 116, 45, 76, 101, 110, 103, 116, 104]⟩, .string ⟨#[53, 44, 32, 53]⟩, .string ⟨#[67, 111, 110, 116, 101, 110, 116, 45, 76, 101, 110, 103, 116, 104]⟩, .string ⟨#[53, 44, 54]⟩, .string ⟨#[67, 111, 110, 116, 101, 110, 116, 45, 76, 101, 110, 103, 116, 104]⟩, .string ⟨#[]⟩, .string ⟨#[67, 111, 110, 116, 101, 110, 116, 45, 76, 101, 110, 103, 116, 104]⟩, .string ⟨#[57, 57, 57, 57, 57, 57, 57, 57, 57, 57, 57, 57, 57, 57, 57, 57, 57, 57, 57, 57]⟩, .string ⟨#[88]⟩, .string ⟨#[121]⟩, .string ⟨#[84, 114, 97, 110, 115, 102, 101, 114, 45, 69, 110, 99, 111, 100, 105, 110, 103]⟩, .string ⟨#[99, 104, 117, 110, 107, 101, 100, 44, 32, 99, 104, 117, 110, 107, 101, 100]⟩] 34)).heap.size := by simp
  have HW : Hid (∀ r, r < 18 → ∃ X0 X1 : ByteArray, X0.size ≤ 30 ∧ X1.size ≤ 30 ∧ (w.alloc (.cells #[.string ⟨#[72, 111, 115, 116]⟩, .string ⟨#[97]⟩, .string ⟨#[104, 111, 115, 116]⟩, .string ⟨#[98, 58, 56, 48]⟩, .string ⟨#[72, 111, 115, 116]⟩, .string ⟨#[97, 32, 98]⟩, .string ⟨#[84, 114, 97, 110, 115, 102, 101, 114, 45, 69, 110, 99, 111, 100, 105, 110, 103]⟩, .string ⟨#[99, 104, 117, 110, 107, 101, 100]⟩, .string ⟨#[116, 114, 97, 110, 115, 102, 101, 114, 45, 101, 110, 99, 111, 100, 105, 110, 103]⟩, .string ⟨#[103, 122, 105, 112]⟩, .string ⟨#[84, 114, 97, 110, 115, 102, 101, 114, 45, 69, 110, 99, 111, 100, 105, 110, 103]⟩, .string ⟨#[103, 122, 105, 112, 44, 32, 99, 104, 117, 110, 107, 101, 100]⟩, .string ⟨#[84, 114, 97, 110, 115, 102, 101, 114, 45, 69, 110, 99, 111, 100, 105, 110, 103]⟩, .string ⟨#[11, 99, 104, 117, 110, 107, 101, 100]⟩, .string ⟨#[84, 114, 97, 110, 115, 102, 101, 114, 45, 69, 110, 99, 111, 100, 105, 110, 103]⟩, .string ⟨#[]⟩, .string ⟨#[67, 111, 110, 116, 101, 110, 116, 45, 76, 101, 110, 103, 116, 104]⟩, .string ⟨#[53]⟩, .string ⟨#[99, 111, 110, 116, 101, 110, 116, 45, 108, 101, 110, 103, 116, 104]⟩, .string ⟨#[53]⟩, .string ⟨#[67, 111, 110, 116, 101, 110, 116, 45, 76, 101, 110, 103, 116, 104]⟩, .string ⟨#[54]⟩, .string ⟨#[67, 111, 110, 116, 101, 110, 116, 45, 76, 101, 110, 103, 116, 104]⟩, .string ⟨#[43, 53]⟩, .string ⟨#[67, 111, 110, 116, 101, 110, 116, 45, 76, 101, 110, 103, 116, 104]⟩, .string ⟨#[53, 44, 32, 53]⟩, .string ⟨#[67, 111, 110, 116, 101, 110, 116, 45, 76, 101, 110, 103, 116, 104]⟩, .string ⟨#[53, 44, 54]⟩, .string ⟨#[67, 111, 110, 116, 101, 110, 116, 45, 76, 101, 110, 103, 116, 104]⟩, .string ⟨#[]⟩, .string ⟨#[67, 111, 110, 116, 101, 110, 116, 45, 76, 101, 110, 103, 116, 104]⟩, .string ⟨#[57, 57, 57, 57, 57, 57, 57, 57, 57, 57, 57, 57, 57, 57, 57, 57, 57, 57, 57, 57]⟩, .string ⟨#[88]⟩, .string ⟨#[121]⟩, .string ⟨#[84, 114, 97, 110, 115, 102, 101, 114, 45, 69, 110, 99, 111, 100, 105, 110, 103]⟩, .string ⟨#[99, 104, 117, 110, 107, 101, 100, 44, 32, 99, 104, 117, 110, 107, 101, 100]⟩] 34)).cell? ⟨w.heap.size, r * 2, none⟩ = some (.string X0) ∧ (w.alloc (.cells #[.string ⟨#[72, 111, 115, 116]⟩, .string ⟨#[97]⟩, .string ⟨#[104, 111, 115, 116]⟩, .string ⟨#[98, 58, 56, 48]⟩, .string ⟨#[72, 111, 115, 116]⟩, .string ⟨#[97, 32, 98]⟩, .string ⟨#[84, 114, 97, 110, 115, 102, 101, 114, 45, 69, 110, 99, 111, 100, 105, 110, 103]⟩, .string ⟨#[99, 104, 117, 110, 107, 101, 100]⟩, .string ⟨#[116, 114, 97, 110, 115, 102, 101, 114, 45, 101, 110, 99, 111, 100, 105, 110, 103]⟩, .string ⟨#[103, 122, 105, 112]⟩, .string ⟨#[84, 114, 97, 110, 115, 102, 101, 114, 45, 69, 110, 99, 111, 100, 105, 110, 103]⟩, .string ⟨#[103, 122, 105, 112, 44, 32, 99, 104, 117, 110, 107, 101, 100]⟩, .string ⟨#[84, 114, 97, 110, 115, 102, 101, 114, 45, 69, 110, 99, 111, 100, 105, 110, 103]⟩, .string ⟨#[11, 99, 104, 117, 110, 107, 101, 100]⟩, .string ⟨#[84, 114, 97, 110, 115, 102, 101, 114, 45, 69, 110, 99, 111, 100, 105, 110, 103]⟩, .string ⟨#[]⟩, .string ⟨#[67, 111, 110, 116, 101, 110, 116, 45, 76, 101, 110, 103, 116, 104]⟩, .string ⟨#[53]⟩, .string ⟨#[99, 111, 110, 116, 101, 110, 116, 45, 108, 101, 110, 103, 116, 104]⟩, .string ⟨#[53]⟩, .string ⟨#[67, 111, 110, 116, 101, 110, 116, 45, 76, 101, 110, 103, 116, 104]⟩, .string ⟨#[54]⟩, .string ⟨#[67, 111, 110, 116, 101, 110, 116, 45, 76, 101, 110, 103, 116, 104]⟩, .string ⟨#[43, 53]⟩, .string ⟨#[67, 111, 110, 116, 101, 110, 116, 45, 76, 101, 110, 103, 116, 104]⟩, .string ⟨#[53, 44, 32, 53]⟩, .string ⟨#[67, 111, 110, 116, 101, 110, 116, 45, 76, 101, 110, 103, 116, 104]⟩, .string ⟨#[53, 44, 54]⟩, .string ⟨#[67, 111, 110, 116, 101, 110, 116, 45, 76, 101, 110, 103, 116, 104]⟩, .string ⟨#[]⟩, .string ⟨#[67, 111, 110, 116, 101, 110, 116, 45, 76, 101, 110, 103, 116, 104]⟩, .string ⟨#[57, 57, 57, 57, 57, 57, 57, 57, 57, 57, 57, 57, 57, 57, 57, 57, 57, 57, 57, 57]⟩, .string ⟨#[88]⟩, .string ⟨#[121]⟩, .string ⟨#[84, 114, 97, 110, 115, 102, 101, 114, 45, 69, 110, 99, 111, 100, 105, 110, 103]⟩, .string ⟨#[99, 104, 117, 110, 107, 101, 100, 44, 32, 99, 104, 117, 110, 107, 101, 100]⟩] 34)).cell? ⟨w.heap.size, r * 2 + 1, none⟩ = some (.string X1)) :=
    Lib.hid fun r hr => by obtain ⟨X0, X1, z0, z1, h⟩ := HC.out r hr; exact ⟨X0, X1, z0, z1, h w⟩
  clear hv hl HC
  obtain ⟨i0, hi, hz0, hz1, hz2⟩ := info_parts field_info
  have G1 := Lib.hid hi; have G2 := Lib.hid hz0; have G3 := Lib.hid hz1; have G4 := Lib.hid hz2
  clear hi hz0 hz1 hz2
  go_enter Tryd.func12, Tryd.ntmps12
  go_wp2
  generalize w.alloc (.cells #[.string ⟨#[72, 111, 115, 116]⟩, .string ⟨#[97]⟩, .string ⟨#[104, 111, 115, 116]⟩, .string ⟨#[98, 58, 56, 48]⟩, .string ⟨#[72, 111, 115, 116]⟩, .string ⟨#[97, 32, 98]⟩, .string ⟨#[84, 114, 97, 110, 115, 102, 101, 114, 45, 69, 110, 99, 111, 100, 105, 110, 103]⟩, .string ⟨#[99, 104, 117, 110, 107, 101, 100]⟩, .string ⟨#[116, 114, 97, 110, 115, 102, 101, 114, 45, 101, 110, 99, 111, 100, 105, 110, 103]⟩, .string ⟨#[103, 122, 105, 112]⟩, .string ⟨#[84, 114, 97, 110, 115, 102, 101, 114, 45, 69, 110, 99, 111, 100, 105, 110, 103]⟩, .string ⟨#[103, 122, 105, 112, 44, 32, 99, 104, 117, 110, 107, 101, 100]⟩, .string ⟨#[84, 114, 97, 110, 115, 102, 101, 114, 45, 69, 110, 99, 111, 100, 105, 110, 103]⟩, .string ⟨#[11, 99, 104, 117, 110, 107, 101, 100]⟩, .string ⟨#[84, 114, 97, 110, 115, 102, 101, 114, 45, 69, 110, 99, 111, 100, 105, 110, 103]⟩, .string ⟨#[]⟩, .string ⟨#[67, 111, 110, 116, 101, 110, 116, 45, 76, 101, 110, 103, 116, 104]⟩, .string ⟨#[53]⟩, .string ⟨#[99, 111, 110, 116, 101, 110, 116, 45, 108, 101, 110, 103, 116, 104]⟩, .string ⟨#[53]⟩, .string ⟨#[67, 111, 110, 116, 101, 110, 116, 45, 76, 101, 110, 103, 116, 104]⟩, .string ⟨#[54]⟩, .string ⟨#[67, 111, 110, 116, 101, 110, 116, 45, 76, 101, 110, 103, 116, 104]⟩, .string ⟨#[43, 53]⟩, .string ⟨#[67, 111, 110, 116, 101, 110, 116, 45, 76, 101, 110, 103, 116, 104]⟩, .string ⟨#[53, 44, 32, 53]⟩, .string ⟨#[67, 111, 110, 116, 101, 110, 116, 45, 76, 101, 110, 103, 116, 104]⟩, .string ⟨#[53, 44, 54]⟩, .string ⟨#[67, 111, 110, 116, 101, 110, 116, 45, 76, 101, 110, 103, 116, 104]⟩, .string ⟨#[]⟩, .string ⟨#[67, 111, 110, 116, 101, 110, 116, 45, 76, 101, 110, 103, 116, 104]⟩, .string ⟨#[57, 57, 57, 57, 57, 57, 57, 57, 57, 57, 57, 57, 57, 57, 57, 57, 57, 57, 57, 57]⟩, .string ⟨#[88]⟩, .string ⟨#[121]⟩, .string ⟨#[84, 114, 97, 110, 115, 102, 101, 114, 45, 69, 110, 99, 111, 100, 105, 110, 103]⟩, .string ⟨#[99, 104, 117, 110, 107, 101, 100, 44, 32, 99, 104, 117, 110, 107, 101, 100]⟩] 34) = W at *
  generalize hgw : w.heap.size = g at *
  have HGW := Lib.hid hgw
  clear hgw
  go_loopw [4, 5] (fun v i wr => ∃ (k : Nat) (L : List Fld), k ≤ n ∧ i = .int .i64 k ∧ Hid (L.length = k) ∧ Hid (∀ f ∈ L, f.1.size ≤ 30 ∧ f.2.size ≤ 30) ∧ Hid (wr.ownsRow W.heap.size 34 2 v k (cells L)) ∧ Hid (Below W.heap.size W wr)) (fun _ i _ => n - (intOf i).toNat)
  case atStart => exact ⟨0, [], Nat.zero_le _, rfl, Lib.hid rfl, Lib.hid (fun _ h => absurd h (List.not_mem_nil)), Lib.hid ⟨rfl, .inl ⟨rfl, rfl⟩⟩, Lib.hid (Below.refl _ _)⟩
  case round =>
    obtain ⟨k, L, hk, rfl, HLk, HLz, hown, hbr⟩ := hrel
    rcases Nat.lt_or_ge k n with hlt | hge
    · have hkl : k < bs.length := by rw [HL.out]; exact hlt
      obtain ⟨bl, off, rfl, _, hc⟩ := (HV.out.below hbr.out).2 (by omega)
      have hck := hc k hlt
      rw [nums_at bs k hkl] at hck
      generalize bs[k] = x at *
      have t1 : (k : Int) < (n : Int) := by omega
      have hr : x.toNat % 18 < 18 := Nat.mod_lt _ (by decide)
      have him : Int.tmod ((x.toNat : Nat) : Int) 18 = ((x.toNat % 18 : Nat) : Int) := by rw [Int.tmod_eq_emod_of_nonneg (by omega)]; omega
      have hwr : wrap64 ((x.toNat : Nat) : Int) = ((x.toNat : Nat) : Int) := by have := x.toNat_lt; unfold wrap64; omega
      obtain ⟨X0, X1, s0, s1, h0, h1⟩ := HW.out (x.toNat % 18) hr
      obtain ⟨r, hrr⟩ : ∃ r, x.toNat % 18 = r := ⟨_, rfl⟩
      rw [hrr] at hr him h0 h1
      clear hrr
      have hc0 := (hbr.out.cell (p := ⟨g, r * 2, none⟩) hgW).trans h0
      have hc1 := (hbr.out.cell (p := ⟨g, r * 2 + 1, none⟩) hgW).trans h1
      have hr2 : (r : Int) < 18 := by omega
      have HLk2 := Lib.hid (show (L ++ [(X0, X1)]).length = k + 1 by rw [List.length_append, HLk.out]; rfl)
      have HLz2 := Lib.hid (show ∀ f ∈ L ++ [(X0, X1)], f.1.size ≤ 30 ∧ f.2.size ≤ 30 from fun f hf => by
        rcases List.mem_append.1 hf with h | h
        · exact HLz.out f h
        · obtain rfl : f = (X0, X1) := by simpa using h
          exact ⟨s0, s1⟩)
      clear hc hkl h0 h1 s0 s1
      go_wp2_with (at_builtin; refine wpList_append_own _ rfl _ _ 22 rfl W.heap.size 34 i0 (.agg #[.string ByteArray.empty, .string ByteArray.empty]) 2 32 Tryd.underlying22 G1.out G2.out G3.out G4.out rfl (by decide) _ _ _ rfl (hown.out.alloc _) ⟨wr.heap.size, 0, none⟩ 1 1 [.string X0, .string X1] rfl rfl ?c1 ?c2 ?c3 ?c4 ?c5 ?_)
      case c1 =>
        intro j u hu
        have hj : j = 0 ∨ j = 1 := by
          rcases Nat.lt_or_ge j 2 with h | h
          · omega
          · rw [List.getElem?_eq_none (by simpa using h)] at hu; cases hu
        have key := cell_of_row (wr.alloc (.cells #[.string X0, .string X1] 34)) wr.heap.size j #[.string X0, .string X1] 34 (0, 0) (heap_alloc_new wr _)
        have e2 : Addr.add ⟨wr.heap.size, 0, none⟩ j = ⟨wr.heap.size, j, none⟩ := by unfold Addr.add; rcases hj with rfl | rfl <;> simp
        rw [e2]
        refine key.trans ?_
        rcases hj with rfl | rfl <;> simpa using hu
      case c2 => intro u hu; rcases (by simpa using hu : u = .string X0 ∨ u = .string X1) with rfl | rfl <;> rfl
      case c3 => unfold maxLen; omega
      case c4 => omega
      case c5 => have := hbr.out.size; simp; omega
      intro v' w' hown' hgr _
      have H2 : Hid (w'.ownsRow W.heap.size 34 2 v' (k + 1) (cells (L ++ [(X0, X1)]))) := Lib.hid (by rw [cells_snoc]; simpa using hown')
      have H3 := Lib.hid ((hbr.out.alloc (by have := hbr.out.size; omega) _).grown hgr (by have := hbr.out.size; simp; omega) (own_base hown.out))
      clear hown' hgr hown
      go_wp2
      go_roundw
      case rel => exact ⟨k + 1, _, by omega, by go_num, HLk2, HLz2, H2, H3⟩
      case measure => simp [intOf]; omega
    · obtain rfl : k = n := by omega
      obtain ⟨A, c, rfl, hA⟩ := Flds.of_own (fs := L) hown.out
      have HA := Lib.hid hA
      have H3 : Hid (Below w.heap.size w wr) := Lib.hid (Base.below_step (a := w) (by rw [HGW.out]; exact HB.out) hbr.out)
      clear hA hown
      go_wp2
      go_ret
      exact ⟨A, c, L, rfl, HA.out, HLz.out, H3.out⟩
theorem quiet_any (k : Nat) (w : World) : Calls Tryd.prog 13 #[.int .u8 k] w fun e w' => ∃ P : Nat, e = .returned (.int .u32 (P : Nat)) ∧ P < 1073741824 ∧ Below w.heap.size w w' := by
  have HC := Lib.hid (fun r (hr : r < 9) => qints_at r hr)
  have HB := Lib.hid (show Below w.heap.size w (w.alloc (.cells #[.int .i64 6, .int .i64 17, .int .i64 18, .int .i64 20, .int .i64 21, .int .i64 22, .int .i64 27, .int .i64 28, .int .i64 29] 3)) from (Below.refl _ _).alloc (Nat.le_refl _) _)
  have hgW : w.heap.size < (w.alloc (.cells #[.int .i64 6, .int .i64 17, .int .i64 18, .int .i64 20, .int .i64 21, .int .i64 22, .int .i64 27, .int .i64 28, .int .i64 29] 3)).heap.size := by simp
  have HW : Hid (∀ r, r < 9 → ∃ c : Int, (w.alloc (.cells #[.int .i64 6, .int .i64 17, .int .i64 18, .int .i64 20, .int .i64 21, .int .i64 22, .int .i64 27, .int .i64 28, .int .i64 29] 3)).cell? ⟨w.heap.size, r, none⟩ = some (.int .i64 c)) :=
    Lib.hid fun r hr => by obtain ⟨c, h⟩ := HC.out r hr; exact ⟨c, h w⟩
  clear HC
  go_enter Tryd.func13, Tryd.ntmps13
  go_wp2
  generalize w.alloc (.cells #[.int .i64 6, .int .i64 17, .int .i64 18, .int .i64 20, .int .i64 21, .int .i64 22, .int .i64 27, .int .i64 28, .int .i64 29] 3) = W at *
  generalize hgw : w.heap.size = g at *
  have HGW := Lib.hid hgw
  clear hgw
  go_loopw [4, 5] (fun v i wr => ∃ (j : Nat) (P : Nat), j ≤ 9 ∧ i = .int .i64 j ∧ v = .int .u32 (P : Nat) ∧ P < 1073741824 ∧ Hid (Below W.heap.size W wr)) (fun _ i _ => 9 - (intOf i).toNat)
  case atStart => exact ⟨0, 0, Nat.zero_le _, rfl, rfl, by decide, Lib.hid (Below.refl _ _)⟩
  case round =>
    obtain ⟨j, P, hj, rfl, rfl, hP, hbr⟩ := hrel
    rcases Nat.lt_or_ge j 9 with hlt | hge
    · have t1 : (j : Int) < 9 := by omega
      have him : Int.tmod (j : Int) 8 = ((j % 8 : Nat) : Int) := by rw [Int.tmod_eq_emod_of_nonneg (by omega)]; omega
      obtain ⟨c, hc⟩ := HW.out j hlt
      have hcj := (hbr.out.cell (p := ⟨g, j, none⟩) hgW).trans hc
      have HO := Lib.hid (fun w b (hi : Ints w b 1 [c]) => Qk.rof_any b 1 1 [c] w hi (by decide))
      have hq := Qk.ofL_lt [c]
      generalize Qk.ofL [c] = Q at *
      have hPQ : P ||| Q < 1073741824 := Nat.or_lt_two_pow (n := 30) hP hq
      have N2 : bits .or .u32 (P : Int) (Q : Int) = ((P ||| Q : Nat) : Int) := u32_or_nat P Q (by omega) (by omega)
      have hj8 : j % 8 < 8 := Nat.mod_lt _ (by decide)
      obtain ⟨r, hr⟩ : ∃ r, j % 8 = r := ⟨_, rfl⟩
      rw [hr] at him hj8
      clear hr hc
      go_wp2_with (go_at_call 19; (with_reducible refine (HO.out _ _ (Ints.one _ _ rfl _ _)).mono ?_); rintro e w8 ⟨rfl, hw⟩; rw [hw]; clear hw)
      all_goals
        go_roundw
        case rel => first | exact ⟨j + 1, P ||| Q, by omega, by go_num, rfl, hPQ, Lib.hid (hbr.out.alloc hbr.out.size _)⟩ | exact ⟨j + 1, P, by omega, by go_num, rfl, hP, hbr⟩
        case measure => simp [intOf]; omega
    · obtain rfl : j = 9 := by omega
      have H3 : Hid (Below w.heap.size w wr) := Lib.hid (Base.below_step (a := w) (by rw [HGW.out]; exact HB.out) hbr.out)
      go_wp2_with fail
      go_ret
      exact ⟨P, rfl, hP, H3.out⟩
end code
end Go.Proofs.YtoakalklbpoknaaDoor.Frm
