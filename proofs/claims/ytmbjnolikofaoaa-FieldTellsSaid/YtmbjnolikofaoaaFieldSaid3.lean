/-
  Layer 9 (field): the walk of FieldTells at whole numbers, as the frame asks it.
-/
import Derived.Test.YtmbjnolikofaoaaFieldTells
import Derived.Test.YtmbjnolikofaoaaFrame
namespace Go.Proofs.Ytmbjnolikofaoaa.Fd
open Go.RowKit Base

theorem fieldTells_law (s : ByteArray) (la : Option Addr) (n cap : Nat) (zs : List Int) (a k x y : Int) (rN rV : ByteArray) (w : World) (hs : s.size ≤ 140737488351232) (hz : Nums .u8 w la n zs) (hn : n ≤ maxLen) (hw : ∀ x ∈ zs, (Lit.int .u8 x).wf = true) (ha : 0 ≤ a ∧ a ≤ 4294967295) (hk : 0 ≤ k ∧ k ≤ 255) (hx : 0 ≤ x ∧ x ≤ 255) (hy : 0 ≤ y ∧ y ≤ 255) (hrn : rN.size ≤ 140737488351232) (hrv : rV.size ≤ 140737488351232) :
    Calls Try.prog 3 #[.string s, .slice la n cap, .int .u32 a, .int .u8 k, .int .u8 x, .int .u8 y, .agg #[.string rN, .string rV]] w fun e w' => e = .returned (.bool true) ∧ Below w.heap.size w w' := by
  obtain ⟨bs, rfl⟩ := Txt.bytes_of zs fun x hx => bounds_u8 (hw x hx)
  obtain ⟨a, rfl⟩ := Int.eq_ofNat_of_zero_le ha.1
  obtain ⟨k, rfl⟩ := Int.eq_ofNat_of_zero_le hk.1
  obtain ⟨x, rfl⟩ := Int.eq_ofNat_of_zero_le hx.1
  obtain ⟨y, rfl⟩ := Int.eq_ofNat_of_zero_le hy.1
  exact fieldTells_any s la n cap bs a k x y rN rV w hs hz hn (by omega) (by omega) (by omega) (by omega) hrn hrv
end Go.Proofs.Ytmbjnolikofaoaa.Fd
