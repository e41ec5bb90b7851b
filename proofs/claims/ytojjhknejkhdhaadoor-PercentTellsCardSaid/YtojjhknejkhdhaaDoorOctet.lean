/-
  Layer 1 (octet): what each function of package octet answers, of every byte, as plain functions of numbers; and the same of the document's own package. No condition but that a byte lies in 0 to 255 where it is told.
-/
import Derived.Test.YtojjhknejkhdhaaDoorProg
import Derived.Test.YtojjhknejkhdhaaDoorShelf
import Derived.Test.YtojjhknejkhdhaaDoorBase
import Derived.WalkKit
import Derived.WalkSpells
import Derived.WalkLawsBesides
import Derived.Lib.Hide
import Derived.Deep.QuietTactic
import Derived.BigQuiet
import Derived.Lib.Bytealg
namespace Go.Proofs.YtojjhknejkhdhaaDoor.Oct
open Go.RowKit Base

def digit (n : Int) : Bool := decide (48 ≤ n) && decide (n ≤ 57)
def letter (n : Int) : Bool := (decide (97 ≤ n) && decide (n ≤ 122)) || (decide (65 ≤ n) && decide (n ≤ 90))
def visible (n : Int) : Bool := decide (33 ≤ n) && decide (n ≤ 126)
def blank (n : Int) : Bool := decide (n = 32) || decide (n = 9)
def control (n : Int) : Bool := decide (n < 32) || decide (n = 127)
def textual (n : Int) : Bool := visible n || blank n || decide (128 ≤ n)
def marks : List UInt8 := [33, 35, 36, 37, 38, 39, 42, 43, 45, 46, 94, 95, 96, 124, 126]
/-- Does the byte n stand in l? -/
def stands (l : List UInt8) (n : Int) : Bool := l.any fun b => (b.toNat : Int) == n
def token (n : Int) : Bool := letter n || digit n || stands marks n
def isHex (n : Int) : Bool := digit n || (decide (97 ≤ n) && decide (n ≤ 102)) || (decide (65 ≤ n) && decide (n ≤ 70))
def hexVal (n : Int) : Int := if digit n = true then n - 48 else if 97 ≤ n ∧ n ≤ 102 then n - 87 else if 65 ≤ n ∧ n ≤ 70 then n - 55 else 0
/-- Is the byte n of kind k? -/
def ofKind (n k : Int) : Bool := if k = 1 then token n else if k = 2 then visible n else if k = 3 then blank n else if k = 4 then digit n else if k = 5 then isHex n else if k = 6 then textual n else false
def oneOf (ks : List Int) (n : Int) : Bool := ks.any fun k => ofKind n k
def allOf (ks : List Int) (l : List UInt8) : Bool := l.all fun b => oneOf ks b.toNat

theorem marks_index : ∀ k : Fin 256, decide (0 ≤ Lib.indexByte marks (UInt8.ofNat k.val)) = stands marks (k.val : Int) := by decide +kernel
theorem index_marks (n : Int) (h0 : 0 ≤ n) (h1 : n ≤ 255) : (0 ≤ Lib.indexByte [33, 35, 36, 37, 38, 39, 42, 43, 45, 46, 94, 95, 96, 124, 126] (UInt8.ofNat n.toNat)) ↔ stands marks n = true := by
  have h := marks_index ⟨n.toNat, by omega⟩
  have e : ((n.toNat : Nat) : Int) = n := by omega
  simp only [e] at h
  rw [← h, decide_eq_true_iff]; rfl

section code
set_option maxHeartbeats 400000
theorem digit_any (n : Int) (w : World) : Calls Tryd.prog 44 #[.int .u8 n] w fun e w' => e = .returned (.bool (digit n)) ∧ w' = w := by
  go_enter Tryd.func44, Tryd.ntmps44
  go_wp2
  all_goals (go_ret; exact ⟨ret_bool (by simp [digit] <;> omega), rfl⟩)
theorem hex_any (n : Int) (w : World) (h0 : 0 ≤ n) (h1 : n ≤ 255) : Calls Tryd.prog 42 #[.int .u8 n] w fun e w' => e = .returned (.tuple #[.int .i64 (hexVal n), .bool (isHex n)]) ∧ w' = w := by
  by_cases hd : digit n = true
  · have hb : 48 ≤ n ∧ n ≤ 57 := by simpa [digit] using hd
    obtain ⟨hb0, hb1⟩ := hb
    go_enter Tryd.func42, Tryd.ntmps42
    go_wp2_with (go_at_call 44; refine (digit_any _ _).mono ?_; rintro e w' ⟨rfl, rfl⟩)
    all_goals (go_ret2; exact ⟨by simp [hexVal, isHex, hd], rfl⟩)
  · have hd' : digit n = false := by simpa using hd
    go_enter Tryd.func42, Tryd.ntmps42
    go_wp2_with (go_at_call 44; refine (digit_any _ _).mono ?_; rintro e w' ⟨rfl, rfl⟩)
    all_goals (go_ret2; exact ⟨by simp [hexVal, isHex, *] <;> omega, rfl⟩)
theorem rdigit_any (n : Int) (w : World) : Calls Tryd.prog 24 #[.int .u8 n] w fun e w' => e = .returned (.bool (digit n)) ∧ w' = w := by
  go_enter Tryd.func24, Tryd.ntmps24
  go_wp2
  all_goals (go_ret; exact ⟨ret_bool (by simp [digit] <;> omega), rfl⟩)
theorem rletter_any (n : Int) (w : World) : Calls Tryd.prog 23 #[.int .u8 n] w fun e w' => e = .returned (.bool (letter n)) ∧ w' = w := by
  go_enter Tryd.func23, Tryd.ntmps23
  go_wp2
  all_goals (go_ret; exact ⟨ret_bool (by simp [letter] <;> omega), rfl⟩)
theorem rhex_any (n : Int) (w : World) (h0 : 0 ≤ n) (h1 : n ≤ 255) : Calls Tryd.prog 38 #[.int .u8 n] w fun e w' => e = .returned (.tuple #[.int .i64 (hexVal n), .bool (isHex n)]) ∧ w' = w := by
  by_cases hd : digit n = true
  · have hb : 48 ≤ n ∧ n ≤ 57 := by simpa [digit] using hd
    obtain ⟨hb0, hb1⟩ := hb
    go_enter Tryd.func38, Tryd.ntmps38
    go_wp2_with (go_at_call 24; refine (rdigit_any _ _).mono ?_; rintro e w' ⟨rfl, rfl⟩)
    all_goals (go_ret2; exact ⟨by simp [hexVal, isHex, hd], rfl⟩)
  · have hd' : digit n = false := by simpa using hd
    go_enter Tryd.func38, Tryd.ntmps38
    go_wp2_with (go_at_call 24; refine (rdigit_any _ _).mono ?_; rintro e w' ⟨rfl, rfl⟩)
    all_goals (go_ret2; exact ⟨by simp [hexVal, isHex, *] <;> omega, rfl⟩)
end code
end Go.Proofs.YtojjhknejkhdhaaDoor.Oct
