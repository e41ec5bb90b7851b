/-
  Layer 10 (framing): the walk of FramingParts at whole numbers, as the frame asks it.
-/
import Derived.Test.YtoakalklbpoknaaDoorFrmParts
import Derived.Test.YtoakalklbpoknaaDoorFrame
namespace Go.Proofs.YtoakalklbpoknaaDoor.Frm
open Go.RowKit Base Txt

theorem framingParts_law (a0 : Option Addr) (l0 c0 : Nat) (vs : List ByteArray) (a1 : Option Addr) (l1 c1 : Nat) (zs : List Int) (a k most : Int) (W : World)
    (i0 : Strs W a0 l0 vs) (i1 : Nums .u8 W a1 l1 zs) (w1 : ∀ x ∈ zs, (Lit.int .u8 x).wf = true) (ha : 0 ≤ a ∧ a ≤ 4294967295) (hk : 0 ≤ k ∧ k ≤ 255) (hm : -9223372036854775808 ≤ most ∧ most ≤ 9223372036854775807) :
    Calls Tryd.prog 4 #[.slice a0 l0 c0, .slice a1 l1 c1, .int .u32 a, .int .u8 k, .int .i64 most] W fun e w' => e = .returned (.bool true) ∧ Below W.heap.size W w' := by
  obtain ⟨bs, rfl⟩ := Txt.bytes_of zs fun x hx => bounds_u8 (w1 x hx)
  obtain ⟨a, rfl⟩ := Int.eq_ofNat_of_zero_le ha.1
  obtain ⟨k, rfl⟩ := Int.eq_ofNat_of_zero_le hk.1
  exact framingParts_any a0 l0 c0 vs a1 l1 c1 bs a k most W i0 i1 (by omega) (by omega) hm.2
end Go.Proofs.YtoakalklbpoknaaDoor.Frm
