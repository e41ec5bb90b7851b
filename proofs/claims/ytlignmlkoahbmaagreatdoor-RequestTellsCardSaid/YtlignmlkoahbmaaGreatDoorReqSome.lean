/-
  Layer 8 (request): the laws' 'some': a text made of pieces, by numbers.
-/
import Derived.Test.YtlignmlkoahbmaaGreatDoorTextWords
import Derived.Test.YtlignmlkoahbmaaGreatDoorTextBase
import Derived.WalkKit
import Derived.Deep.Draws
namespace Go.Proofs.YtlignmlkoahbmaaGreatDoor.Rq
open Go.RowKit Base Txt

def pieces : List (List UInt8) := [[71, 69, 84], [32], [32, 32], [9], [47], [47, 97], [72, 84, 84, 80, 47, 49, 46, 49], [72, 84, 84, 80, 47, 49, 46, 48], [104, 116, 116, 112, 47, 49, 46, 49], [72, 84, 84, 80, 47, 49, 46, 57], [120], [1], [195, 169], [72, 84, 84, 80, 47, 50, 46, 48], [47, 97, 32, 98]]
def piece (k : Nat) : List UInt8 := pieces[k]?.getD []
def someL (bs : List UInt8) : List UInt8 := bs.flatMap fun b => piece (b.toNat % 15)
theorem piece_le (k : Nat) : (piece k).length ≤ 8 := by
  rcases Nat.lt_or_ge k 15 with h | h
  · have : ∀ k : Fin 15, (piece k.val).length ≤ 8 := by decide +kernel
    exact this ⟨k, h⟩
  · unfold piece
    rw [List.getElem?_eq_none (by show 15 ≤ k; exact h)]; simp
theorem piece_cell (w : World) (t : TypeId) (k : Nat) (hk : k < 15) : (w.alloc (.cells #[.string ⟨#[71, 69, 84]⟩, .string ⟨#[32]⟩, .string ⟨#[32, 32]⟩, .string ⟨#[9]⟩, .string ⟨#[47]⟩, .string ⟨#[47, 97]⟩, .string ⟨#[72, 84, 84, 80, 47, 49, 46, 49]⟩, .string ⟨#[72, 84, 84, 80, 47, 49, 46, 48]⟩, .string ⟨#[104, 116, 116, 112, 47, 49, 46, 49]⟩, .string ⟨#[72, 84, 84, 80, 47, 49, 46, 57]⟩, .string ⟨#[120]⟩, .string ⟨#[1]⟩, .string ⟨#[195, 169]⟩, .string ⟨#[72, 84, 84, 80, 47, 50, 46, 48]⟩, .string ⟨#[47, 97, 32, 98]⟩] t)).cell? ⟨w.heap.size, k, none⟩ = some (.string (ba (piece k))) := by
  rw [cell_of_row (w.alloc _) w.heap.size k _ t (0, 0) (heap_alloc_new w _)]
  have h : ∀ k : Fin 15, (#[.string ⟨#[71, 69, 84]⟩, .string ⟨#[32]⟩, .string ⟨#[32, 32]⟩, .string ⟨#[9]⟩, .string ⟨#[47]⟩, .string ⟨#[47, 97]⟩, .string ⟨#[72, 84, 84, 80, 47, 49, 46, 49]⟩, .string ⟨#[72, 84, 84, 80, 47, 49, 46, 48]⟩, .string ⟨#[104, 116, 116, 112, 47, 49, 46, 49]⟩, .string ⟨#[72, 84, 84, 80, 47, 49, 46, 57]⟩, .string ⟨#[120]⟩, .string ⟨#[1]⟩, .string ⟨#[195, 169]⟩, .string ⟨#[72, 84, 84, 80, 47, 50, 46, 48]⟩, .string ⟨#[47, 97, 32, 98]⟩] : Array Value)[k.val]? = some (.string (ba (piece k.val))) := by
    intro k
    rcases k with ⟨k, hk⟩
    match k, hk with
    | 0, _ => rfl
    | 1, _ => rfl
    | 2, _ => rfl
    | 3, _ => rfl
    | 4, _ => rfl
    | 5, _ => rfl
    | 6, _ => rfl
    | 7, _ => rfl
    | 8, _ => rfl
    | 9, _ => rfl
    | 10, _ => rfl
    | 11, _ => rfl
    | 12, _ => rfl
    | 13, _ => rfl
    | 14, _ => rfl
    | k + 15, h => exact absurd h (by omega)
  exact h ⟨k, hk⟩
theorem someL_snoc (bs : List UInt8) (k : Nat) (h : k < bs.length) : someL (bs.take (k + 1)) = someL (bs.take k) ++ piece (bs[k].toNat % 15) := by
  unfold someL
  rw [List.take_succ_eq_append_getElem h, List.flatMap_append, List.flatMap_singleton]
theorem someL_le (bs : List UInt8) : (someL bs).length ≤ 8 * bs.length := by
  induction bs with
  | nil => simp [someL]
  | cons b r ih =>
    have h := piece_le (b.toNat % 15)
    have e : someL (b :: r) = piece (b.toNat % 15) ++ someL r := rfl
    rw [e, List.length_append, List.length_cons]; omega

section code
set_option maxHeartbeats 1000000
theorem some_any (a : Option Addr) (n cap : Nat) (bs : List UInt8) (w : World) (hv : Nums .u8 w a n (nums bs)) (hn : n ≤ 1000000) :
    Calls Tryz.prog 7 #[.slice a n cap] w fun e w' => e = .returned (.string (ba (someL bs))) ∧ Below w.heap.size w w' := by
  have HV := Lib.hid (hv.below ((Below.refl w.heap.size w).alloc (Nat.le_refl _) (.cells #[.string ⟨#[71, 69, 84]⟩, .string ⟨#[32]⟩, .string ⟨#[32, 32]⟩, .string ⟨#[9]⟩, .string ⟨#[47]⟩, .string ⟨#[47, 97]⟩, .string ⟨#[72, 84, 84, 80, 47, 49, 46, 49]⟩, .string ⟨#[72, 84, 84, 80, 47, 49, 46, 48]⟩, .string ⟨#[104, 116, 116, 112, 47, 49, 46, 49]⟩, .string ⟨#[72, 84, 84, 80, 47, 49, 46, 57]⟩, .string ⟨#[120]⟩, .string ⟨#[1]⟩, .string ⟨#[195, 169]⟩, .string ⟨#[72, 84, 84, 80, 47, 50, 46, 48]⟩, .string ⟨#[47, 97, 32, 98]⟩] 9)))
  have hl : bs.length = n := by have := hv.1; rwa [nums, List.length_map] at this
  have HL := Lib.hid hl
  have HC := Lib.hid (fun k (hk : k < 15) => piece_cell w 9 k hk)
  have HB := Lib.hid (show Below w.heap.size w (w.alloc (.cells #[.string ⟨#[71, 69, 84]⟩, .string ⟨#[32]⟩, .string ⟨#[32, 32]⟩, .string ⟨#[9]⟩, .string ⟨#[47]⟩, .string ⟨#[47, 97]⟩, .string ⟨#[72, 84, 84, 80, 47, 49, 46, 49]⟩, .string ⟨#[72, 84, 84, 80, 47, 49, 46, 48]⟩, .string ⟨#[104, 116, 116, 112, 47, 49, 46, 49]⟩, .string ⟨#[72, 84, 84, 80, 47, 49, 46, 57]⟩, .string ⟨#[120]⟩, .string ⟨#[1]⟩, .string ⟨#[195, 169]⟩, .string ⟨#[72, 84, 84, 80, 47, 50, 46, 48]⟩, .string ⟨#[47, 97, 32, 98]⟩] 9)) from (Below.refl _ _).alloc (Nat.le_refl _) _)
  clear hv hl
  obtain ⟨A, hA⟩ : ∃ A, someL bs = A := ⟨_, rfl⟩
  rw [hA]
  have HA := Lib.hid hA
  clear hA
  go_enter Tryz.func7, Tryz.ntmps7
  go_wp2
  generalize w.alloc (.cells #[.string ⟨#[71, 69, 84]⟩, .string ⟨#[32]⟩, .string ⟨#[32, 32]⟩, .string ⟨#[9]⟩, .string ⟨#[47]⟩, .string ⟨#[47, 97]⟩, .string ⟨#[72, 84, 84, 80, 47, 49, 46, 49]⟩, .string ⟨#[72, 84, 84, 80, 47, 49, 46, 48]⟩, .string ⟨#[104, 116, 116, 112, 47, 49, 46, 49]⟩, .string ⟨#[72, 84, 84, 80, 47, 49, 46, 57]⟩, .string ⟨#[120]⟩, .string ⟨#[1]⟩, .string ⟨#[195, 169]⟩, .string ⟨#[72, 84, 84, 80, 47, 50, 46, 48]⟩, .string ⟨#[47, 97, 32, 98]⟩] 9) = W at *
  go_loop [4, 5] (fun s i => ∃ (k : Nat) (S : ByteArray), k ≤ n ∧ i = .int .i64 k ∧ s = .string S ∧ S.size ≤ 8 * k ∧ Hid (S.data.toList = someL (bs.take k))) (fun _ i => n - (intOf i).toNat)
  case atStart => exact ⟨0, ⟨#[]⟩, Nat.zero_le _, rfl, rfl, Nat.le_refl _, Lib.hid rfl⟩
  case round =>
    obtain ⟨k, S, hk, rfl, rfl, hS, hSS⟩ := hrel
    rcases Nat.lt_or_ge k n with hlt | hge
    · have hkl : k < bs.length := by rw [HL.out]; exact hlt
      obtain ⟨bl, off, rfl, _, hc⟩ := HV.out.2 (by omega)
      have hck := hc k hlt
      rw [nums_at bs k hkl] at hck
      have hsn := Lib.hid (someL_snoc bs k hkl)
      generalize bs[k] = x at *
      have t1 : (k : Int) < (n : Int) := by omega
      have hr : x.toNat % 15 < 15 := Nat.mod_lt _ (by decide)
      have him : Int.tmod ((x.toNat : Nat) : Int) 15 = ((x.toNat % 15 : Nat) : Int) := by rw [Int.tmod_eq_emod_of_nonneg (by omega)]; omega
      have hwr : wrap64 ((x.toNat : Nat) : Int) = ((x.toNat : Nat) : Int) := by have := x.toNat_lt; unfold wrap64; omega
      have hpc := HC.out (x.toNat % 15) hr
      have hps := piece_le (x.toNat % 15)
      obtain ⟨r, hrr⟩ : ∃ r, x.toNat % 15 = r := ⟨_, rfl⟩
      rw [hrr] at hr him hpc hps hsn
      clear hrr
      have hr2 : (r : Int) < 15 := by omega
      have hpz : (ba (piece r)).size ≤ 8 := by rw [len_mk]; exact hps
      have hv1 : ¬ 9223372036854775807 < S.size + (ba (piece r)).size := by omega
      clear hc hkl
      go_wp2
      go_round
      case rel => exact ⟨k + 1, S ++ ba (piece r), by omega, by go_num, rfl, by rw [ByteArray.size_append]; omega, Lib.hid (by rw [hsn.out, ← hSS.out]; simp [ba])⟩
      case measure => simp [intOf]; omega
    · obtain rfl : k = n := by omega
      have hS2 := hSS.out
      rw [List.take_of_length_le (by rw [HL.out]; exact Nat.le_refl _), HA.out] at hS2
      have HS := Lib.hid (show S = ba A from ba_ext (by rw [hS2]; rfl))
      clear hSS hS2
      go_wp2
      go_ret
      exact ⟨by rw [← HS.out]; rfl, HB.out⟩
end code
end Go.Proofs.YtlignmlkoahbmaaGreatDoor.Rq
