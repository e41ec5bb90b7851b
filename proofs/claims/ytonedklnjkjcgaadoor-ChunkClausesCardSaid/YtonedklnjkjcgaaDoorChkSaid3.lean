/-
  Layer 11 (chunk): the walk of ChunkClauses at whole numbers, as the frame asks it.
-/
import Derived.Test.YtonedklnjkjcgaaDoorChkClauses
import Derived.Test.YtonedklnjkjcgaaDoorFrame
namespace Go.Proofs.YtonedklnjkjcgaaDoor.Chk
open Go.RowKit Base Txt

theorem chunkClauses_law (n a : Int) (which : Bool) (x : Int) (e : Bool) (W : World) (hn : 0 ≤ n ∧ n ≤ 65535) (ha : 0 ≤ a ∧ a ≤ 4294967295) (hx : 0 ≤ x ∧ x ≤ 255) :
    Calls Tryd.prog 5 #[.int .u16 n, .int .u32 a, .bool which, .int .u8 x, .bool e] W fun en w' => en = .returned (.bool true) ∧ Below W.heap.size W w' := by
  obtain ⟨n, rfl⟩ := Int.eq_ofNat_of_zero_le hn.1
  obtain ⟨a, rfl⟩ := Int.eq_ofNat_of_zero_le ha.1
  obtain ⟨x, rfl⟩ := Int.eq_ofNat_of_zero_le hx.1
  exact chunkClauses_any n a which x e W (by omega) (by omega)
end Go.Proofs.YtonedklnjkjcgaaDoor.Chk
