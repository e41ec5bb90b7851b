/-
  A slice of bytes that reads as a list of bytes; a slice of such slices; the conversion of such a slice to a text.
-/
import Derived.Test.YtlignmlkoahbmaaGreatDoorTextWords
import Derived.Laws.IdiomStrings
import Derived.Laws.BytesString
namespace Go.Proofs.YtlignmlkoahbmaaGreatDoor.Txt
open Go.RowKit Base

def nums (bs : List UInt8) : List Int := bs.map fun b => (b.toNat : Int)
theorem bytes_of : ∀ zs : List Int, (∀ n ∈ zs, 0 ≤ n ∧ n ≤ 255) → ∃ bs, zs = nums bs
  | [], _ => ⟨[], rfl⟩
  | z :: zs, h => by
    obtain ⟨bs, e⟩ := bytes_of zs fun n hn => h n (by simp [hn])
    obtain ⟨h0, h1⟩ := h z (by simp)
    refine ⟨UInt8.ofNat z.toNat :: bs, ?_⟩
    rw [nums, List.map_cons, e]
    congr 1
    rw [UInt8.toNat_ofNat_of_lt' (by show z.toNat < 256; omega)]; omega
theorem nums_at (bs : List UInt8) (k : Nat) (h : k < bs.length) : (nums bs)[k]?.getD 0 = (bs[k].toNat : Int) := by
  rw [nums, List.getElem?_map, List.getElem?_eq_getElem h]; rfl
theorem conv_str (w : World) (a : Option Addr) (n cap : Nat) (bs : List UInt8) (h : Nums .u8 w a n (nums bs)) : (convert 22 9 (.slice a n cap)).run Tryz.prog w = .ok (.string (ba bs)) w := by
  have hl : bs.length = n := by have := h.1; rwa [nums, List.length_map] at this
  have key : ∀ b off, (∀ k, k < n → w.cell? ⟨b, off + k, none⟩ = some (.int .u8 ((nums bs)[k]?.getD 0))) → (convert 22 9 (.slice (some ⟨b, off, none⟩) n cap)).run Tryz.prog w = .ok (.string (ba bs)) w := by
    intro b off hc
    have := run_convert_bytes_back (P := Tryz.prog) w 22 9 5 ⟨b, off, none⟩ cap bs Tryz.underlying22 Tryz.underlying5 Tryz.underlying9 (fun j hj => by
      have e : (⟨b, off, none⟩ : Addr).add j = ⟨b, off + j, none⟩ := by unfold Addr.add; by_cases h : j = 0 <;> simp [h]
      rw [e, hc j (by omega), nums_at bs j hj])
    rw [hl] at this
    exact this
  rcases Nat.eq_zero_or_pos n with h0 | hp
  · subst h0
    obtain rfl : bs = [] := List.length_eq_zero_iff.1 hl
    cases a with
    | none => rw [run_convert_bytes_string w 22 9 5 none 0 cap Tryz.underlying22 Tryz.underlying5 Tryz.underlying9]; rfl
    | some x =>
      exact run_convert_bytes_back (P := Tryz.prog) w 22 9 5 x cap [] Tryz.underlying22 Tryz.underlying5 Tryz.underlying9 (fun j hj => by simp at hj)
  · obtain ⟨b, off, rfl, _, hc⟩ := h.2 hp
    exact key b off hc
/-- A slice of slices of bytes. -/
def Lines (w : World) (a : Option Addr) (n : Nat) (ls : List (List UInt8)) : Prop :=
  ls.length = n ∧ (0 < n → ∃ b off, a = some ⟨b, off, none⟩ ∧ b < w.heap.size ∧ ∀ k, k < n → ∃ ak ck, w.cell? ⟨b, off + k, none⟩ = some (.slice ak (ls[k]?.getD []).length ck) ∧ Nums .u8 w ak (ls[k]?.getD []).length (nums (ls[k]?.getD [])))
theorem Lines.below {w w' : World} {a : Option Addr} {n : Nat} {ls : List (List UInt8)} (h : Lines w a n ls) (hb : Below w.heap.size w w') : Lines w' a n ls := by
  refine ⟨h.1, fun hn => ?_⟩
  obtain ⟨b, off, e, hlt, hc⟩ := h.2 hn
  refine ⟨b, off, e, Nat.lt_of_lt_of_le hlt hb.size, fun k hk => ?_⟩
  obtain ⟨ak, ck, h1, h2⟩ := hc k hk
  exact ⟨ak, ck, (hb.cell (p := ⟨b, off + k, none⟩) hlt).trans h1, h2.below hb⟩
end Go.Proofs.YtlignmlkoahbmaaGreatDoor.Txt
