/-
  Layer 13 (parser), in plain words: when a request waits, how many trailers there may be: the streams of two laws, each looked at. No program is spoken of.
-/
import Derived.Test.YtibnobdbmojjhaaGreatDoorPgFeed
namespace Go.Proofs.YtibnobdbmojjhaaGreatDoor.Pg
open Go.RowKit Base Txt Par

abbrev usualB : Bd := ⟨1024, 32, 8192, 65536, 32, 8, 4, 20, true, true⟩
def waitVals : List (List UInt8) := [[49, 48, 48, 45, 99, 111, 110, 116, 105, 110, 117, 101], [49, 48, 48, 45, 67, 111, 110, 116, 105, 110, 117, 101], [120, 44, 32, 49, 48, 48, 45, 99, 111, 110, 116, 105, 110, 117, 101], [49, 48, 48], [], [50, 48, 48, 45, 111, 107]]
def verL (old : Bool) : List UInt8 := if old = true then [72, 84, 84, 80, 47, 49, 46, 48] else [72, 84, 84, 80, 47, 49, 46, 49]
def frameL (r : Nat) (ch : Bool) : List UInt8 := if ch = true then [84, 114, 97, 110, 115, 102, 101, 114, 45, 69, 110, 99, 111, 100, 105, 110, 103, 58, 32, 99, 104, 117, 110, 107, 101, 100] else [67, 111, 110, 116, 101, 110, 116, 45, 76, 101, 110, 103, 116, 104, 58, 32] ++ Num.spell 10 r
def waitL (V : List UInt8) (old : Bool) (F : List UInt8) : List UInt8 := [80, 79, 83, 84, 32, 47, 32] ++ verL old ++ [13, 10, 72, 111, 115, 116, 58, 32, 104, 13, 10, 69, 120, 112, 101, 99, 116, 58, 32] ++ V ++ [13, 10] ++ F ++ [13, 10, 13]
set_option maxRecDepth 100000 in
theorem waits_all : ∀ v : Fin 6, ∀ old : Bool, ∀ r : Fin 4, ∀ ch : Bool,
    (Q.read 0 usualB (waitL (waitVals[v.val]?.getD []) old (frameL r.val (ch && !old)))).waits = false ∧
    ((Q.read 0 usualB (waitL (waitVals[v.val]?.getD []) old (frameL r.val (ch && !old)))).told.feed 0 usualB [10]).waits = (decide (v.val < 3) && (!old && (ch || decide (0 < r.val)))) ∧
    (((Q.read 0 usualB (waitL (waitVals[v.val]?.getD []) old (frameL r.val (ch && !old)))).told.feed 0 usualB [10]).told.feed 0 usualB [49]).waits = false ∧
    (((Q.read 0 usualB (waitL (waitVals[v.val]?.getD []) old (frameL r.val (ch && !old)))).told.feed 0 usualB [10]).told.feed 0 usualB [49]).err = 0 := by decide +kernel
/-- Bounds as usual, but for the trailers'. -/
abbrev trailB (x : Int) : Bd := ⟨1024, 32, 8192, 65536, 32, x, 4, 20, true, true⟩
def trailsL : Nat → List UInt8
  | 0 => []
  | n + 1 => trailsL n ++ ([84, 58, 32] ++ Num.spell 10 n ++ [13, 10])
def trailL (body : Bool) (k : Nat) : List UInt8 := ([80, 85, 84, 32, 47, 32, 72, 84, 84, 80, 47, 49, 46, 49, 13, 10, 72, 111, 115, 116, 58, 32, 104, 13, 10, 84, 114, 97, 110, 115, 102, 101, 114, 45, 69, 110, 99, 111, 100, 105, 110, 103, 58, 32, 99, 104, 117, 110, 107, 101, 100, 13, 10, 13, 10] ++ (if body = true then [50, 13, 10, 97, 98, 13, 10] else []) ++ [48, 59, 120, 13, 10]) ++ trailsL k
def trailF : Nat → List Fld
  | 0 => []
  | n + 1 => trailF n ++ [(ba [84], ba (Num.spell 10 n))]
set_option maxRecDepth 100000 in
theorem trails_all : ∀ m : Fin 6, ∀ k : Fin 8, ∀ body : Bool,
    if m.val < k.val then (Q.read 0 (trailB (m.val : Int)) (trailL body k.val ++ [13, 10])).err = 431 ∧ (Q.read 0 (trailB (m.val : Int)) (trailL body k.val ++ [13, 10])).out.length = 0
    else (Q.read 0 (trailB (m.val : Int)) (trailL body k.val ++ [13, 10])).err = 0 ∧ (Q.read 0 (trailB (m.val : Int)) (trailL body k.val ++ [13, 10])).clean = true ∧
      (Q.read 0 (trailB (m.val : Int)) (trailL body k.val ++ [13, 10])).out.map (fun r => (r.ts.map (fun f => (f.1.data.toList, f.2.data.toList)), r.body.length)) = [((trailF k.val).map (fun f => (f.1.data.toList, f.2.data.toList)), if body = true then 2 else 0)] := by decide +kernel
end Go.Proofs.YtibnobdbmojjhaaGreatDoor.Pg
