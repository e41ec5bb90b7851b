/-
  Layer 2 (number): the walk of NumberTells: it returns true, and writes nothing that was there.
-/
import Derived.Test.YtnjlloiifdkcgaaDoorNumBack
namespace Go.Proofs.YtnjlloiifdkcgaaDoor.Num
open Go.RowKit Base Oct

/-- The pieces of the drawn texts. -/
def pieces : Nat → ByteArray
  | 0 => ⟨#[48]⟩ | 1 => ⟨#[49]⟩ | 2 => ⟨#[57]⟩ | 3 => ⟨#[48, 48]⟩ | 4 => ⟨#[97]⟩ | 5 => ⟨#[70]⟩ | 6 => ⟨#[120]⟩ | 7 => ⟨#[43]⟩ | 8 => ⟨#[32]⟩
  | 9 => ⟨#[57, 50, 50, 51, 51, 55, 50, 48, 51, 54, 56, 53, 52, 55, 55, 53, 56, 48, 55]⟩ | 10 => ⟨#[102, 102, 102, 102, 102, 102, 102, 102, 102, 102, 102, 102, 102, 102, 102, 102]⟩ | 11 => ⟨#[55]⟩ | 12 => ⟨#[56]⟩ | _ => ⟨#[103]⟩
theorem pieces_size : ∀ k : Fin 14, (pieces k.val).size ≤ 19 := by decide +kernel
theorem pieces_cell (w : World) (t : TypeId) (k : Nat) (hk : k < 14) :
    (w.alloc (.cells #[.string ⟨#[48]⟩, .string ⟨#[49]⟩, .string ⟨#[57]⟩, .string ⟨#[48, 48]⟩, .string ⟨#[97]⟩, .string ⟨#[70]⟩, .string ⟨#[120]⟩, .string ⟨#[43]⟩, .string ⟨#[32]⟩, .string ⟨#[57, 50, 50, 51, 51, 55, 50, 48, 51, 54, 56, 53, 52, 55, 55, 53, 56, 48, 55]⟩, .string ⟨#[102, 102, 102, 102, 102, 102, 102, 102, 102, 102, 102, 102, 102, 102, 102, 102]⟩, .string ⟨#[55]⟩, .string ⟨#[56]⟩, .string ⟨#[103]⟩] t)).cell? ⟨w.heap.size, k, none⟩ = some (.string (pieces k)) := by
  rw [cell_of_row (w.alloc _) w.heap.size k _ t (0, 0) (heap_alloc_new w _)]
  rcases (by omega : k = 0 ∨ k = 1 ∨ k = 2 ∨ k = 3 ∨ k = 4 ∨ k = 5 ∨ k = 6 ∨ k = 7 ∨ k = 8 ∨ k = 9 ∨ k = 10 ∨ k = 11 ∨ k = 12 ∨ k = 13) with rfl | rfl | rfl | rfl | rfl | rfl | rfl | rfl | rfl | rfl | rfl | rfl | rfl | rfl <;> rfl
/-- One of five, by its place. -/
def fifth {α : Type} (x0 x1 x2 x3 x4 : α) : Nat → α
  | 0 => x0 | 1 => x1 | 2 => x2 | 3 => x3 | _ => x4
theorem fifth_cell {α : Type} (f : α → Value) (w : World) (t : TypeId) (x0 x1 x2 x3 x4 : α) (k : Nat) (hk : k < 5) : (w.alloc (.cells #[f x0, f x1, f x2, f x3, f x4] t)).cell? ⟨w.heap.size, k, none⟩ = some (f (fifth x0 x1 x2 x3 x4 k)) := by
  rw [cell_of_row (w.alloc _) w.heap.size k _ t (0, 0) (heap_alloc_new w _)]
  rcases (by omega : k = 0 ∨ k = 1 ∨ k = 2 ∨ k = 3 ∨ k = 4) with rfl | rfl | rfl | rfl | rfl <;> rfl
theorem fifth_of {α : Type} (p : α → Prop) (x0 x1 x2 x3 x4 : α) (h0 : p x0) (h1 : p x1) (h2 : p x2) (h3 : p x3) (h4 : p x4) : ∀ k, p (fifth x0 x1 x2 x3 x4 k)
  | 0 => h0 | 1 => h1 | 2 => h2 | 3 => h3 | _ + 4 => h4
theorem half (n : Int) : ∃ H, n.tdiv 2 = H ∧ (0 ≤ n → 0 ≤ H ∧ H ≤ n) ∧ (n < 0 → n ≤ H ∧ H ≤ 0) := by
  refine ⟨_, rfl, fun h => ?_, fun h => ?_⟩
  · rw [Int.tdiv_eq_ediv_of_nonneg h]; omega
  · have e : n.tdiv 2 = -((-n).tdiv 2) := by rw [Int.neg_tdiv]; omega
    rw [e, Int.tdiv_eq_ediv_of_nonneg (by omega)]; omega

section code
set_option maxHeartbeats 2000000
theorem some_any (a : Option Addr) (len cap : Nat) (zs : List Int) (w : World) (hz : Nums .u8 w a len zs) (hl : len ≤ 12) (hb : ∀ n ∈ zs, 0 ≤ n ∧ n ≤ 255) :
    Calls Tryd.prog 8 #[.slice a len cap] w fun e w' => (∃ r : ByteArray, e = .returned (.string r) ∧ r.size ≤ 228) ∧ Below w.heap.size w w' := by
  have HZ := Lib.hid hz
  have HB := Lib.hid hb
  clear hz hb
  go_enter Tryd.func8, Tryd.ntmps8
  go_wp2
  have hcell := pieces_cell w 9
  have hbase : Below w.heap.size w (w.alloc (.cells #[.string ⟨#[48]⟩, .string ⟨#[49]⟩, .string ⟨#[57]⟩, .string ⟨#[48, 48]⟩, .string ⟨#[97]⟩, .string ⟨#[70]⟩, .string ⟨#[120]⟩, .string ⟨#[43]⟩, .string ⟨#[32]⟩, .string ⟨#[57, 50, 50, 51, 51, 55, 50, 48, 51, 54, 56, 53, 52, 55, 55, 53, 56, 48, 55]⟩, .string ⟨#[102, 102, 102, 102, 102, 102, 102, 102, 102, 102, 102, 102, 102, 102, 102, 102]⟩, .string ⟨#[55]⟩, .string ⟨#[56]⟩, .string ⟨#[103]⟩] 9)) := (Below.refl _ _).alloc (Nat.le_refl _) _
  generalize w.alloc (.cells #[.string ⟨#[48]⟩, .string ⟨#[49]⟩, .string ⟨#[57]⟩, .string ⟨#[48, 48]⟩, .string ⟨#[97]⟩, .string ⟨#[70]⟩, .string ⟨#[120]⟩, .string ⟨#[43]⟩, .string ⟨#[32]⟩, .string ⟨#[57, 50, 50, 51, 51, 55, 50, 48, 51, 54, 56, 53, 52, 55, 55, 53, 56, 48, 55]⟩, .string ⟨#[102, 102, 102, 102, 102, 102, 102, 102, 102, 102, 102, 102, 102, 102, 102, 102]⟩, .string ⟨#[55]⟩, .string ⟨#[56]⟩, .string ⟨#[103]⟩] 9) = W at *
  have HI := Lib.hid (HZ.out.below hbase)
  have HC := Lib.hid hcell
  have HBB := Lib.hid hbase
  clear hcell HZ hbase
  go_loop [4, 5] (fun x i => ∃ (j : Nat) (r : ByteArray), j ≤ len ∧ x = .string r ∧ r.size ≤ 19 * j ∧ i = .int .i64 j) (fun _ i => len - (intOf i).toNat)
  case atStart => exact ⟨0, ByteArray.empty, Nat.zero_le _, rfl, by decide, rfl⟩
  case round =>
    obtain ⟨j, r, hj, rfl, hr, rfl⟩ := hrel
    rcases Nat.lt_or_ge j len with hlt | hge
    · obtain ⟨b, off, rfl, _, hc⟩ := HI.out.2 (by omega)
      have hck := hc j hlt
      have hin : 0 ≤ zs[j]?.getD 0 ∧ zs[j]?.getD 0 ≤ 255 := by
        have : j < zs.length := by rw [HI.out.1]; exact hlt
        rw [List.getElem?_eq_getElem this]
        exact HB.out _ (List.getElem_mem _)
      clear hc
      generalize zs[j]?.getD 0 = x at *
      obtain ⟨x0, x1⟩ := hin
      have e1 : x.tmod 14 = x % 14 := Int.tmod_eq_emod_of_nonneg x0
      have hq0 : 0 ≤ x % 14 := by omega
      have hq1 : x % 14 < 14 := by omega
      have hcq := HC.out (x % 14).toNat (by omega)
      have hps := pieces_size ⟨(x % 14).toNat, by omega⟩
      simp only at hps
      generalize pieces (x % 14).toNat = P at *
      have hov : ¬ 9223372036854775807 < r.size + P.size := by omega
      go_wp2
      go_round
      case rel => exact ⟨j + 1, r ++ P, by omega, rfl, by rw [ByteArray.size_append]; omega, by go_num⟩
      case measure => simp [intOf]; omega
    · go_wp2
      go_ret
      exact ⟨⟨r, rfl, by omega⟩, HBB.out⟩
end code
end Go.Proofs.YtnjlloiifdkcgaaDoor.Num
