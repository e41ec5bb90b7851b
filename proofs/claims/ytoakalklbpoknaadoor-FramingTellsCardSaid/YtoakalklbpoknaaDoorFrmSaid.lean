/-
  Layer 10 (framing): the walk of FramingTells at whole numbers, as the frame asks it.
-/
import Derived.Test.YtoakalklbpoknaaDoorFrmTells
import Derived.Test.YtoakalklbpoknaaDoorFrame
namespace Go.Proofs.YtoakalklbpoknaaDoor.Frm
open Go.RowKit Base Txt

theorem framingTells_law (a0 : Option Addr) (l0 c0 : Nat) (fs : List Fld) (a1 : Option Addr) (l1 c1 : Nat) (zs : List Int) (a k minor : Int) (host : Bool) (W : World)
    (i0 : Flds W a0 l0 fs) (m0 : l0 ≤ maxLen) (w0 : ∀ f ∈ fs, f.1.size ≤ 140737488351232 ∧ f.2.size ≤ 140737488351232) (i1 : Nums .u8 W a1 l1 zs) (w1 : ∀ x ∈ zs, (Lit.int .u8 x).wf = true) (ha : 0 ≤ a ∧ a ≤ 4294967295) (hk : 0 ≤ k ∧ k ≤ 255) :
    Calls Tryd.prog 3 #[.slice a0 l0 c0, .slice a1 l1 c1, .int .u32 a, .int .u8 k, .int .i64 minor, .bool host] W fun e w' => e = .returned (.bool true) ∧ Below W.heap.size W w' := by
  obtain ⟨bs, rfl⟩ := Txt.bytes_of zs fun x hx => bounds_u8 (w1 x hx)
  obtain ⟨a, rfl⟩ := Int.eq_ofNat_of_zero_le ha.1
  obtain ⟨k, rfl⟩ := Int.eq_ofNat_of_zero_le hk.1
  exact framingTells_any a0 l0 c0 fs a1 l1 c1 bs a k minor host W i0 m0 w0 i1 (by omega) (by omega)
end Go.Proofs.YtoakalklbpoknaaDoor.Frm
