/-
  Layer 11 (chunk), in plain words, in the document's order: the size that a chunk's line says, what is wrong with it, and how bytes in parts are written as chunks; a block of bounds. No program is spoken of.
-/
import Derived.Test.YtonedklnjkjcgaaDoorNumber
import Derived.Test.YtonedklnjkjcgaaDoorOctet
import Derived.Test.YtonedklnjkjcgaaDoorQuirks
import Derived.Test.YtonedklnjkjcgaaDoorCut
import Derived.Test.YtonedklnjkjcgaaDoorBounds
namespace Go.Proofs.YtonedklnjkjcgaaDoor.Chk
open Go.RowKit Base Txt

/-- The extension: from the first semicolon on. -/
def extL (l : List UInt8) : List UInt8 := if (Tgt.cutAt 59 l).2.2 = true then 59 :: (Tgt.cutAt 59 l).2.1 else []
def marked (l : List UInt8) : Bool := decide (2 ≤ l.length) && same (ba (l.take 2)) ⟨#[48, 120]⟩
def bare (l : List UInt8) : List UInt8 := if marked l = true then l.drop 2 else l
/-- The size, without what a profile lets stand around it. -/
def pieceL (hex blanks : Bool) (z : List UInt8) : List UInt8 := if hex = true then bare (if blanks = true then trimL Txt.blank z else z) else (if blanks = true then trimL Txt.blank z else z)
def sizeL (hex blanks : Bool) (l : List UInt8) : List UInt8 := pieceL hex blanks (Tgt.cutAt 59 l).1
def numV (r : Int × Int) : Int × Int := if r.2 = 22 then (0, 400) else if r.2 = 23 then (0, 413) else (r.1, 0)
def isx (ext : Int) (l : List UInt8) : Bool := l.isEmpty || (decide ((l.length : Int) ≤ ext) && Oct.allOf [6] l)
def sizeV (hex blanks : Bool) (ext body : Int) (l : List UInt8) : Int × Int :=
  if isx ext (extL l) = true then numV (Num.readOf 16 body (sizeL hex blanks l)) else (0, 400)
def chunkL (c : List UInt8) : List UInt8 := if c = [] then [] else Num.spell 16 c.length ++ [13, 10] ++ c ++ [13, 10]
def putL (cs : List (List UInt8)) : List UInt8 := cs.flatMap chunkL ++ [48, 13, 10]
theorem put_snoc (cs : List (List UInt8)) (c : List UInt8) : (cs ++ [c]).flatMap chunkL = cs.flatMap chunkL ++ chunkL c := by simp [List.flatMap_append]

theorem ext_split (l : List UInt8) : l = (Tgt.cutAt 59 l).1 ++ extL l := by
  unfold extL
  rcases Tgt.cut_cases 59 l with h | ⟨a, r, h, hn⟩
  · rw [Tgt.cutAt_none 59 l h]; simp
  · rw [h, Tgt.cutAt_app 59 a r hn]; simp
theorem ext_le (l : List UInt8) : (extL l).length ≤ l.length ∧ (Tgt.cutAt 59 l).1.length ≤ l.length := by
  have h := congrArg List.length (ext_split l)
  rw [List.length_append] at h
  omega
/-- With no bound below 0, an extension that isn't there is always right: the document's form. -/
theorem isx_eq (ext : Int) (h : 0 ≤ ext) (l : List UInt8) : isx ext l = !(decide (ext < (l.length : Int)) || !Oct.allOf [6] l) := by
  unfold isx
  cases l with
  | nil => simp [Oct.allOf, h]
  | cons a t =>
    rw [List.isEmpty_cons, Bool.false_or, Bool.not_or, Bool.not_not]
    congr 1
    rw [Bool.eq_iff_iff]
    simp
theorem trimL_le (p : UInt8 → Bool) (l : List UInt8) : (trimL p l).length ≤ l.length := by
  unfold trimL
  rw [List.length_reverse]
  have h1 := (List.dropWhile_sublist p (l := (l.dropWhile p).reverse)).length_le
  have h2 := (List.dropWhile_sublist p (l := l)).length_le
  rw [List.length_reverse] at h1
  omega
theorem bare_le (l : List UInt8) : (bare l).length ≤ l.length := by
  unfold bare
  split
  · rw [List.length_drop]; omega
  · exact Nat.le_refl _
theorem piece_le (hex blanks : Bool) (l : List UInt8) : (pieceL hex blanks l).length ≤ l.length := by
  have h1 := trimL_le Txt.blank l
  have h2 := bare_le (trimL Txt.blank l)
  have h3 := bare_le l
  cases hex <;> cases blanks <;> simp only [pieceL, if_true, if_false, Bool.false_eq_true] <;> omega

theorem k1 : sizeV (Qk.has 0 27) (Qk.has 0 28) 32 65536 [97, 59, 98] = (10, 0) := by decide +kernel
theorem k2 : sizeV (Qk.has 0 27) (Qk.has 0 28) 32 65536 [48, 120, 97] = (0, 400) := by decide +kernel
theorem k3 : sizeV (Qk.has 134217728 27) (Qk.has 134217728 28) 32 65536 [48, 120, 97] = (10, 0) := by decide +kernel
theorem k4 : putL [[97, 98], []] = [50, 13, 10, 97, 98, 13, 10, 48, 13, 10] := by decide +kernel
theorem k5 : putL [] = [48, 13, 10] := by decide +kernel

/-- A block of bounds that the call made, carried through what the call does. -/
structure BB (x0 x1 x2 x3 x4 x5 x6 x7 : Int) (ch od : Bool) (w0 : World) (g : Nat) (w : World) : Prop where
  f : Bnd.At w g x0 x1 x2 x3 x4 x5 x6 x7 ch od
  lt : g < w.heap.size
  b : Below w0.heap.size w0 w
section
variable {x0 x1 x2 x3 x4 x5 x6 x7 : Int} {ch od : Bool} {w0 w w' : World} {g : Nat}
theorem BB.new (hb : Below w0.heap.size w0 w) (t : TypeId) (x0 x1 x2 x3 x4 x5 x6 x7 : Int) (ch od : Bool) :
    BB x0 x1 x2 x3 x4 x5 x6 x7 ch od w0 w.heap.size (w.alloc (.cells #[.int .i64 x0, .int .i64 x1, .int .i64 x2, .int .i64 x3, .int .i64 x4, .int .i64 x5, .int .i64 x6, .int .i64 x7, .bool ch, .bool od] t)) :=
  ⟨Bnd.At.new w t x0 x1 x2 x3 x4 x5 x6 x7 ch od, by simp, hb.alloc hb.size _⟩
theorem BB.step (h : BB x0 x1 x2 x3 x4 x5 x6 x7 ch od w0 g w) (hb : Below w.heap.size w w') : BB x0 x1 x2 x3 x4 x5 x6 x7 ch od w0 g w' :=
  ⟨h.f.below h.lt hb, Nat.lt_of_lt_of_le h.lt hb.size, Base.below_step h.b hb⟩
theorem BB.alloc (h : BB x0 x1 x2 x3 x4 x5 x6 x7 ch od w0 g w) (o : Obj) : BB x0 x1 x2 x3 x4 x5 x6 x7 ch od w0 g (w.alloc o) := h.step ((Below.refl _ _).alloc (Nat.le_refl _) _)
theorem BB.drew (h : BB x0 x1 x2 x3 x4 x5 x6 x7 ch od w0 g w) (m : Nat) : BB x0 x1 x2 x3 x4 x5 x6 x7 ch od w0 g (w.drewN m) := h.step (Base.below_drewN (Below.refl _ _) m)
end
end Go.Proofs.YtonedklnjkjcgaaDoor.Chk
