/-
  Layer 6 (line): the walk of LinePlays at whole numbers, as the frame asks it.
-/
import Derived.Test.YthkgdhkfhidghaaLinePlays
import Derived.Test.YthkgdhkfhidghaaFrame
namespace Go.Proofs.Ythkgdhkfhidghaa.Ln
open Go.RowKit Base

theorem linePlays_law (la : Option Addr) (n cap : Nat) (zs : List Int) (a k most : Int) (lb : Option Addr) (n2 cap2 : Nat) (zs2 : List Int) (w : World) (hz : Nums .u8 w la n zs) (hn : n ≤ maxLen) (hw : ∀ x ∈ zs, (Lit.int .u8 x).wf = true)
    (ha : 0 ≤ a ∧ a ≤ 4294967295) (hk : 0 ≤ k ∧ k ≤ 255) (hz2 : Nums .u8 w lb n2 zs2) (hn2 : n2 ≤ maxLen) (hw2 : ∀ x ∈ zs2, (Lit.int .u8 x).wf = true) :
    Calls Try.prog 3 #[.slice la n cap, .int .u32 a, .int .u8 k, .int .i64 most, .slice lb n2 cap2] w fun e w' => e = .returned (.bool true) ∧ Below w.heap.size w w' := by
  obtain ⟨bs, rfl⟩ := Txt.bytes_of zs fun x hx => bounds_u8 (hw x hx)
  obtain ⟨ls, rfl⟩ := Txt.bytes_of zs2 fun x hx => bounds_u8 (hw2 x hx)
  obtain ⟨A, rfl⟩ := Int.eq_ofNat_of_zero_le ha.1
  obtain ⟨K, rfl⟩ := Int.eq_ofNat_of_zero_le hk.1
  exact linePlays_any la n cap bs A K most lb n2 cap2 ls w (by omega) (by omega) hz hn hz2 hn2
end Go.Proofs.Ythkgdhkfhidghaa.Ln
