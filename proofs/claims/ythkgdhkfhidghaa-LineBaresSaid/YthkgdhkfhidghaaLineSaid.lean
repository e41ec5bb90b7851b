/-
  Layer 6 (line): the walk of LineBares at whole numbers, as the frame asks it.
-/
import Derived.Test.YthkgdhkfhidghaaLineBares
import Derived.Test.YthkgdhkfhidghaaFrame
namespace Go.Proofs.Ythkgdhkfhidghaa.Ln
open Go.RowKit Base

theorem byte_of {c : Int} (h : 0 ≤ c ∧ c ≤ 255) : ∃ b : UInt8, c = (b.toNat : Int) := by
  refine ⟨UInt8.ofNat c.toNat, ?_⟩
  rw [UInt8.toNat_ofNat_of_lt' (by show c.toNat < 256; omega)]; omega
theorem lineBares_law (la : Option Addr) (n cap : Nat) (zs : List Int) (lf cr : Bool) (c : Int) (w : World) (hz : Nums .u8 w la n zs) (hn : n ≤ maxLen) (hw : ∀ x ∈ zs, (Lit.int .u8 x).wf = true) (hc : 0 ≤ c ∧ c ≤ 255) :
    Calls Try.prog 5 #[.slice la n cap, .bool lf, .bool cr, .int .u8 c] w fun e w' => e = .returned (.bool true) ∧ Below w.heap.size w w' := by
  obtain ⟨bs, rfl⟩ := Txt.bytes_of zs fun x hx => bounds_u8 (hw x hx)
  obtain ⟨b, rfl⟩ := byte_of hc
  exact lineBares_any la n cap bs lf cr b w hz hn
end Go.Proofs.Ythkgdhkfhidghaa.Ln
