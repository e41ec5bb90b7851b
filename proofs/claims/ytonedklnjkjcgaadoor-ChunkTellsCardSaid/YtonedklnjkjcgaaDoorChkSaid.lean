/-
  Layer 11 (chunk): the walk of ChunkTells at whole numbers, as the frame asks it.
-/
import Derived.Test.YtonedklnjkjcgaaDoorChkTells
import Derived.Test.YtonedklnjkjcgaaDoorFrame
namespace Go.Proofs.YtonedklnjkjcgaaDoor.Chk
open Go.RowKit Base Txt

theorem chunkTells_law (s : ByteArray) (a1 : Option Addr) (l1 c1 : Nat) (zs : List Int) (a k n : Int) (W : World)
    (z0 : s.size ≤ 140737488351232) (i1 : Nums .u8 W a1 l1 zs) (m1 : l1 ≤ maxLen) (w1 : ∀ x ∈ zs, (Lit.int .u8 x).wf = true) (ha : 0 ≤ a ∧ a ≤ 4294967295) (hk : 0 ≤ k ∧ k ≤ 255) (hn : 0 ≤ n ∧ n ≤ 65535) :
    Calls Tryd.prog 3 #[.string s, .slice a1 l1 c1, .int .u32 a, .int .u8 k, .int .u16 n] W fun e w' => e = .returned (.bool true) ∧ Below W.heap.size W w' := by
  obtain ⟨bs, rfl⟩ := Txt.bytes_of zs fun x hx => bounds_u8 (w1 x hx)
  obtain ⟨a, rfl⟩ := Int.eq_ofNat_of_zero_le ha.1
  obtain ⟨k, rfl⟩ := Int.eq_ofNat_of_zero_le hk.1
  obtain ⟨n, rfl⟩ := Int.eq_ofNat_of_zero_le hn.1
  exact chunkTells_any s a1 l1 c1 bs a k n W z0 i1 m1 (by omega) (by omega) (by omega)
end Go.Proofs.YtonedklnjkjcgaaDoor.Chk
