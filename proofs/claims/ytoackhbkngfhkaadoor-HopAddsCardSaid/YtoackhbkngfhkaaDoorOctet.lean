/-
  Layer 1 (octet): what each function of package octet answers, of every byte, as plain functions of numbers; and the same of the document's own package. No condition but that a byte lies in 0 to 255 where it is told.
-/
import Derived.Test.YtoackhbkngfhkaaDoorProg
import Derived.Test.YtoackhbkngfhkaaDoorShelf
import Derived.Test.YtoackhbkngfhkaaDoorBase
import Derived.WalkKit
import Derived.WalkSpells
import Derived.WalkLawsBesides
import Derived.Lib.Hide
import Derived.Deep.QuietTactic
import Derived.BigQuiet
import Derived.Lib.Bytealg
namespace Go.Proofs.YtoackhbkngfhkaaDoor.Oct
open Go.RowKit Base

def digit (n : Int) : Bool := decide (48 ≤ n) && decide (n ≤ 57)
def letter (n : Int) : Bool := (decide (97 ≤ n) && decide (n ≤ 122)) || (decide (65 ≤ n) && decide (n ≤ 90))
def visible (n : Int) : Bool := decide (33 ≤ n) && decide (n ≤ 126)
def blank (n : Int) : Bool := decide (n = 32) || decide (n = 9)
def control (n : Int) : Bool := decide (n < 32) || decide (n = 127)
def textual (n : Int) : Bool := visible n || blank n || decide (128 ≤ n)
def marks : List UInt8 := [33, 35, 36, 37, 38, 39, 42, 43, 45, 46, 94, 95, 96, 124, 126]
/-- Does the byte n stand in l? -/
def stands (l : List UInt8) (n : Int) : Bool := l.any fun b => (b.toNat : Int) == n
def token (n : Int) : Bool := letter n || digit n || stands marks n
def isHex (n : Int) : Bool := digit n || (decide (97 ≤ n) && decide (n ≤ 102)) || (decide (65 ≤ n) && decide (n ≤ 70))
def hexVal (n : Int) : Int := if digit n = true then n - 48 else if 97 ≤ n ∧ n ≤ 102 then n - 87 else if 65 ≤ n ∧ n ≤ 70 then n - 55 else 0
/-- Is the byte n of kind k? -/
def ofKind (n k : Int) : Bool := if k = 1 then token n else if k = 2 then visible n else if k = 3 then blank n else if k = 4 then digit n else if k = 5 then isHex n else if k = 6 then textual n else false
def oneOf (ks : List Int) (n : Int) : Bool := ks.any fun k => ofKind n k
def allOf (ks : List Int) (l : List UInt8) : Bool := l.all fun b => oneOf ks b.toNat

theorem marks_index : ∀ k : Fin 256, decide (0 ≤ Lib.indexByte marks (UInt8.ofNat k.val)) = stands marks (k.val : Int) := by decide +kernel
theorem index_marks (n : Int) (h0 : 0 ≤ n) (h1 : n ≤ 255) : (0 ≤ Lib.indexByte [33, 35, 36, 37, 38, 39, 42, 43, 45, 46, 94, 95, 96, 124, 126] (UInt8.ofNat n.toNat)) ↔ stands marks n = true := by
  have h := marks_index ⟨n.toNat, by omega⟩
  have e : ((n.toNat : Nat) : Int) = n := by omega
  simp only [e] at h
  rw [← h, decide_eq_true_iff]; rfl

section code
set_option maxHeartbeats 400000
theorem blank_any (n : Int) (w : World) : Calls Tryd.prog 45 #[.int .u8 n] w fun e w' => e = .returned (.bool (blank n)) ∧ w' = w := by
  go_enter Tryd.func45, Tryd.ntmps45
  go_wp2
  all_goals (go_ret; exact ⟨ret_bool (by simp [blank] <;> omega), rfl⟩)
theorem stands_any (n : Int) (s : ByteArray) (w : World) (hs : s.size ≤ maxLen) : Calls Tryd.prog 52 #[.int .u8 n, .string s] w fun e w' => e = .returned (.bool (stands s.data.toList n)) ∧ w' = w := by
  unfold maxLen at hs
  go_enter Tryd.func52, Tryd.ntmps52
  go_wp2
  go_loop [5] (fun i => ∃ k : Nat, k ≤ s.size ∧ i = .int .i64 k ∧ Hid (stands (s.data.toList.take k) n = false)) (fun i => s.size - (intOf i).toNat)
  case atStart => exact ⟨0, Nat.zero_le _, rfl, rfl⟩
  case round =>
    obtain ⟨k, hk, rfl, hno⟩ := hrel
    rcases Nat.lt_or_ge k s.size with hlt | hge
    · have hsn := take_snoc s k hlt
      have HS := Lib.hid hsn
      clear hsn
      go_wp2
      · go_ret
        refine ⟨ret_bool ?_, rfl⟩
        have hx : ((s[k].toNat : Int) == n) = true := by assumption
        have hm : s[k] ∈ s.data.toList := by
          have := HS.out
          exact List.mem_of_mem_take (i := k + 1) (by rw [this]; simp)
        simp only [true_iff, stands, List.any_eq_true]
        exact ⟨_, hm, hx⟩
      · go_round
        case rel =>
          refine ⟨k + 1, by omega, by go_num, ?_⟩
          have hx : ((s[k].toNat : Int) == n) = false := by assumption
          have := hno.out
          refine Lib.hid ?_
          rw [HS.out]
          simp_all [stands]
        case measure => simp [intOf]; omega
    · go_wp2
      go_ret
      have := hno.out
      rw [take_all s k (by omega)] at this
      exact ⟨by rw [this]; rfl, rfl⟩
end code
end Go.Proofs.YtoackhbkngfhkaaDoor.Oct
