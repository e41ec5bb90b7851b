/-
  Layer 11 (chunk): the walk of ChunkExts at whole numbers, as the frame asks it.
-/
import Derived.Test.YtonedklnjkjcgaaDoorChkExts
import Derived.Test.YtonedklnjkjcgaaDoorFrame
namespace Go.Proofs.YtonedklnjkjcgaaDoor.Chk
open Go.RowKit Base Txt

theorem chunkExts_law (n : Int) (a1 : Option Addr) (l1 c1 : Nat) (zs : List Int) (m : Int) (W : World)
    (hn : 0 ≤ n ∧ n ≤ 65535) (i1 : Nums .u8 W a1 l1 zs) (m1 : l1 ≤ maxLen) (w1 : ∀ x ∈ zs, (Lit.int .u8 x).wf = true) (hm : 0 ≤ m ∧ m ≤ 255) :
    Calls Tryd.prog 6 #[.int .u16 n, .slice a1 l1 c1, .int .u8 m] W fun e w' => e = .returned (.bool true) ∧ Below W.heap.size W w' := by
  obtain ⟨bs, rfl⟩ := Txt.bytes_of zs fun x hx => bounds_u8 (w1 x hx)
  obtain ⟨n, rfl⟩ := Int.eq_ofNat_of_zero_le hn.1
  obtain ⟨m, rfl⟩ := Int.eq_ofNat_of_zero_le hm.1
  exact chunkExts_any n a1 l1 c1 bs m W (by omega) i1 m1
end Go.Proofs.YtonedklnjkjcgaaDoor.Chk
