/-
  The laws' text made of pieces, by numbers (parallaxlaw11): some text, of a bounded size. (Printed by tools/gen_some.py.)
-/
import Derived.Test.YtonedklnjkjcgaaDoorTextWords
import Derived.WalkKit
import Derived.Deep.Draws
namespace Go.Proofs.YtonedklnjkjcgaaDoor.Chk
open Go.RowKit Base Txt

theorem strs_at (w : World) (t : TypeId) (ss : List ByteArray) (k : Nat) (hk : k < ss.length) : (w.alloc (.cells ((ss.map Value.string).toArray) t)).cell? ⟨w.heap.size, k, none⟩ = some (.string (ss[k]?.getD ByteArray.empty)) := by
  rw [cell_of_row (w.alloc _) w.heap.size k _ t (0, 0) (heap_alloc_new w _)]
  simp [List.getElem?_eq_getElem hk]
theorem size_at (ss : List ByteArray) (m : Nat) (h : ss.all (fun x => decide (x.size ≤ m)) = true) (k : Nat) (hk : k < ss.length) : (ss[k]?.getD ByteArray.empty).size ≤ m := by
  rw [List.all_eq_true] at h
  rw [List.getElem?_eq_getElem hk, Option.getD_some]
  simpa using h _ (List.getElem_mem hk)
theorem some_at (k : Nat) (hk : k < 14) : ∃ X : ByteArray, X.size ≤ 17 ∧ ∀ w : World, (w.alloc (.cells #[.string ⟨#[48]⟩, .string ⟨#[97]⟩, .string ⟨#[70]⟩, .string ⟨#[48, 120]⟩, .string ⟨#[32]⟩, .string ⟨#[9]⟩, .string ⟨#[59]⟩, .string ⟨#[120, 61, 121]⟩, .string ⟨#[0]⟩, .string ⟨#[49, 48, 48, 48, 48]⟩, .string ⟨#[102, 102, 102, 102, 102, 102, 102, 102, 102, 102, 102, 102, 102, 102, 102, 102, 102]⟩, .string ⟨#[195, 169]⟩, .string ⟨#[48, 88, 49]⟩, .string ⟨#[59, 59]⟩] 9)).cell? ⟨w.heap.size, k, none⟩ = some (.string X) :=
  ⟨_, size_at [⟨#[48]⟩, ⟨#[97]⟩, ⟨#[70]⟩, ⟨#[48, 120]⟩, ⟨#[32]⟩, ⟨#[9]⟩, ⟨#[59]⟩, ⟨#[120, 61, 121]⟩, ⟨#[0]⟩, ⟨#[49, 48, 48, 48, 48]⟩, ⟨#[102, 102, 102, 102, 102, 102, 102, 102, 102, 102, 102, 102, 102, 102, 102, 102, 102]⟩, ⟨#[195, 169]⟩, ⟨#[48, 88, 49]⟩, ⟨#[59, 59]⟩] 17 (by decide) k hk, fun w => strs_at w 9 [⟨#[48]⟩, ⟨#[97]⟩, ⟨#[70]⟩, ⟨#[48, 120]⟩, ⟨#[32]⟩, ⟨#[9]⟩, ⟨#[59]⟩, ⟨#[120, 61, 121]⟩, ⟨#[0]⟩, ⟨#[49, 48, 48, 48, 48]⟩, ⟨#[102, 102, 102, 102, 102, 102, 102, 102, 102, 102, 102, 102, 102, 102, 102, 102, 102]⟩, ⟨#[195, 169]⟩, ⟨#[48, 88, 49]⟩, ⟨#[59, 59]⟩] k hk⟩

section code
set_option maxHeartbeats 4000000
set_option maxRecDepth 10000
attribute [local go_sem] Base.some_undef
theorem some_any (a : Option Addr) (n cap : Nat) (bs : List UInt8) (w : World) (hv : Nums .u8 w a n (nums bs)) (hn : n ≤ 1000000) :
    Calls Tryd.prog 10 #[.slice a n cap] w fun e w' => (∃ L : ByteArray, e = .returned (.string L) ∧ L.size ≤ 17 * n) ∧ Below w.heap.size w w' := by
  have HV := Lib.hid (hv.below ((Below.refl w.heap.size w).alloc (Nat.le_refl _) (.cells #[.string ⟨#[48]⟩, .string ⟨#[97]⟩, .string ⟨#[70]⟩, .string ⟨#[48, 120]⟩, .string ⟨#[32]⟩, .string ⟨#[9]⟩, .string ⟨#[59]⟩, .string ⟨#[120, 61, 121]⟩, .string ⟨#[0]⟩, .string ⟨#[49, 48, 48, 48, 48]⟩, .string ⟨#[102, 102, 102, 102, 102, 102, 102, 102, 102, 102, 102, 102, 102, 102, 102, 102, 102]⟩, .string ⟨#[195, 169]⟩, .string ⟨#[48, 88, 49]⟩, .string ⟨#[59, 59]⟩] 9)))
  have hl : bs.length = n := by have := hv.1; rwa [nums, List.length_map] at this
  have HL := Lib.hid hl
  have HC := Lib.hid (fun k (hk : k < 14) => some_at k hk)
  have HB := Lib.hid (show Below w.heap.size w (w.alloc (.cells #[.string ⟨#[48]⟩, .string ⟨#[97]⟩, .string ⟨#[70]⟩, .string ⟨#[48, 120]⟩, .string ⟨#[32]⟩, .string ⟨#[9]⟩, .string ⟨#[59]⟩, .string ⟨#[120, 61, 121]⟩, .string ⟨#[0]⟩, .string ⟨#[49, 48, 48, 48, 48]⟩, .string ⟨#[102, 102, 102, 102, 102, 102, 102, 102, 102, 102, 102, 102, 102, 102, 102, 102, 102]⟩, .string ⟨#[195, 169]⟩, .string ⟨#[48, 88, 49]⟩, .string ⟨#[59, 59]⟩] 9)) from (Below.refl _ _).alloc (Nat.le_refl _) _)
  clear hv hl
  go_enter Tryd.func10, Tryd.ntmps10
  go_wp2
  go_loop [4, 5] (fun s i => ∃ (k : Nat) (S : ByteArray), k ≤ n ∧ i = .int .i64 k ∧ s = .string S ∧ S.size ≤ 17 * k) (fun _ i => n - (intOf i).toNat)
  case atStart => exact ⟨0, ⟨#[]⟩, Nat.zero_le _, rfl, rfl, Nat.le_refl _⟩
  case round =>
    obtain ⟨k, S, hk, rfl, rfl, hS⟩ := hrel
    rcases Nat.lt_or_ge k n with hlt | hge
    · have hkl : k < bs.length := by rw [HL.out]; exact hlt
      obtain ⟨bl, off, rfl, _, hc⟩ := HV.out.2 (by omega)
      have hck := hc k hlt
      rw [nums_at bs k hkl] at hck
      generalize bs[k] = x at *
      have t1 : (k : Int) < (n : Int) := by omega
      have hr : x.toNat % 14 < 14 := Nat.mod_lt _ (by decide)
      have him : Int.tmod ((x.toNat : Nat) : Int) 14 = ((x.toNat % 14 : Nat) : Int) := by rw [Int.tmod_eq_emod_of_nonneg (by omega)]; omega
      have hwr : wrap64 ((x.toNat : Nat) : Int) = ((x.toNat : Nat) : Int) := by have := x.toNat_lt; unfold wrap64; omega
      obtain ⟨X, hps, hpw⟩ := HC.out (x.toNat % 14) hr
      have hpc := hpw w
      clear hpw
      obtain ⟨r, hrr⟩ : ∃ r, x.toNat % 14 = r := ⟨_, rfl⟩
      rw [hrr] at hr him hpc
      clear hrr
      have hr2 : (r : Int) < 14 := by omega
      have hv1 : ¬ 9223372036854775807 < S.size + X.size := by omega
      clear hc hkl
      go_wp2
      go_round
      case rel => exact ⟨k + 1, S ++ X, by omega, by go_num, rfl, by rw [ByteArray.size_append]; omega⟩
      case measure => simp [intOf]; omega
    · obtain rfl : k = n := by omega
      go_wp2
      go_ret
      exact ⟨⟨S, rfl, hS⟩, HB.out⟩
end code
end Go.Proofs.YtonedklnjkjcgaaDoor.Chk
