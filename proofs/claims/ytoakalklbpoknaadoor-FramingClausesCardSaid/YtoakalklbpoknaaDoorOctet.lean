/-
  Layer 1 (octet): what each function of package octet answers, of every byte, as plain functions of numbers; and the same of the document's own package. No condition but that a byte lies in 0 to 255 where it is told.
-/
import Derived.Test.YtoakalklbpoknaaDoorProg
import Derived.Test.YtoakalklbpoknaaDoorShelf
import Derived.Test.YtoakalklbpoknaaDoorBase
import Derived.WalkKit
import Derived.WalkSpells
import Derived.WalkLawsBesides
import Derived.Lib.Hide
import Derived.Deep.QuietTactic
import Derived.BigQuiet
namespace Go.Proofs.YtoakalklbpoknaaDoor.Oct
open Go.RowKit Base

def digit (n : Int) : Bool := decide (48 ≤ n) && decide (n ≤ 57)
def letter (n : Int) : Bool := (decide (97 ≤ n) && decide (n ≤ 122)) || (decide (65 ≤ n) && decide (n ≤ 90))
def visible (n : Int) : Bool := decide (33 ≤ n) && decide (n ≤ 126)
def blank (n : Int) : Bool := decide (n = 32) || decide (n = 9)
def control (n : Int) : Bool := decide (n < 32) || decide (n = 127)
def textual (n : Int) : Bool := visible n || blank n || decide (128 ≤ n)
def marks : List UInt8 := [33, 35, 36, 37, 38, 39, 42, 43, 45, 46, 94, 95, 96, 124, 126]
/-- Does the byte n stand in l? -/
def stands (l : List UInt8) (n : Int) : Bool := l.any fun b => (b.toNat : Int) == n
def token (n : Int) : Bool := letter n || digit n || stands marks n
def isHex (n : Int) : Bool := digit n || (decide (97 ≤ n) && decide (n ≤ 102)) || (decide (65 ≤ n) && decide (n ≤ 70))
def hexVal (n : Int) : Int := if digit n = true then n - 48 else if 97 ≤ n ∧ n ≤ 102 then n - 87 else if 65 ≤ n ∧ n ≤ 70 then n - 55 else 0
/-- Is the byte n of kind k? -/
def ofKind (n k : Int) : Bool := if k = 1 then token n else if k = 2 then visible n else if k = 3 then blank n else if k = 4 then digit n else if k = 5 then isHex n else if k = 6 then textual n else false
def oneOf (ks : List Int) (n : Int) : Bool := ks.any fun k => ofKind n k
def allOf (ks : List Int) (l : List UInt8) : Bool := l.all fun b => oneOf ks b.toNat

theorem marks_index : ∀ k : Fin 256, decide (0 ≤ Lib.indexByte marks (UInt8.ofNat k.val)) = stands marks (k.val : Int) := by decide +kernel
theorem index_marks (n : Int) (h0 : 0 ≤ n) (h1 : n ≤ 255) : (0 ≤ Lib.indexByte [33, 35, 36, 37, 38, 39, 42, 43, 45, 46, 94, 95, 96, 124, 126] (UInt8.ofNat n.toNat)) ↔ stands marks n = true := by
  have h := marks_index ⟨n.toNat, by omega⟩
  have e : ((n.toNat : Nat) : Int) = n := by omega
  simp only [e] at h
  rw [← h, decide_eq_true_iff]; rfl

section code
set_option maxHeartbeats 400000
theorem digit_any (n : Int) (w : World) : Calls Tryd.prog 74 #[.int .u8 n] w fun e w' => e = .returned (.bool (digit n)) ∧ w' = w := by
  go_enter Tryd.func74, Tryd.ntmps74
  go_wp2
  all_goals (go_ret; exact ⟨ret_bool (by simp [digit] <;> omega), rfl⟩)
theorem letter_any (n : Int) (w : World) : Calls Tryd.prog 102 #[.int .u8 n] w fun e w' => e = .returned (.bool (letter n)) ∧ w' = w := by
  go_enter Tryd.func102, Tryd.ntmps102
  go_wp2
  all_goals (go_ret; exact ⟨ret_bool (by simp [letter] <;> omega), rfl⟩)
theorem visible_any (n : Int) (w : World) : Calls Tryd.prog 99 #[.int .u8 n] w fun e w' => e = .returned (.bool (visible n)) ∧ w' = w := by
  go_enter Tryd.func99, Tryd.ntmps99
  go_wp2
  all_goals (go_ret; exact ⟨ret_bool (by simp [visible] <;> omega), rfl⟩)
theorem blank_any (n : Int) (w : World) : Calls Tryd.prog 66 #[.int .u8 n] w fun e w' => e = .returned (.bool (blank n)) ∧ w' = w := by
  go_enter Tryd.func66, Tryd.ntmps66
  go_wp2
  all_goals (go_ret; exact ⟨ret_bool (by simp [blank] <;> omega), rfl⟩)
theorem text_any (n : Int) (w : World) : Calls Tryd.prog 100 #[.int .u8 n] w fun e w' => e = .returned (.bool (textual n)) ∧ w' = w := by
  go_enter Tryd.func100, Tryd.ntmps100
  go_wp2_with (first
    | (go_at_call 99; refine (visible_any _ _).mono ?_; rintro e w' ⟨rfl, rfl⟩)
    | (go_at_call 66; refine (blank_any _ _).mono ?_; rintro e w' ⟨rfl, rfl⟩))
  all_goals (go_ret; exact ⟨ret_bool (by simp [textual, *]), rfl⟩)
theorem token_any (n : Int) (w : World) (h0 : 0 ≤ n) (h1 : n ≤ 255) : Calls Tryd.prog 98 #[.int .u8 n] w fun e w' => e = .returned (.bool (token n)) ∧ w' = w := by
  go_enter Tryd.func98, Tryd.ntmps98
  go_wp2_with (first
    | (go_at_call 102; refine (letter_any _ _).mono ?_; rintro e w' ⟨rfl, rfl⟩)
    | (go_at_call 74; refine (digit_any _ _).mono ?_; rintro e w' ⟨rfl, rfl⟩)
    | (go_at_call 75; refine (Tryd.strings_IndexByte _ _ _).mono ?_; rintro e w' ⟨rfl, rfl⟩))
  all_goals (go_ret; exact ⟨ret_bool (by simp [token, index_marks, *]), rfl⟩)
theorem hex_any (n : Int) (w : World) (h0 : 0 ≤ n) (h1 : n ≤ 255) : Calls Tryd.prog 80 #[.int .u8 n] w fun e w' => e = .returned (.tuple #[.int .i64 (hexVal n), .bool (isHex n)]) ∧ w' = w := by
  by_cases hd : digit n = true
  · have hb : 48 ≤ n ∧ n ≤ 57 := by simpa [digit] using hd
    obtain ⟨hb0, hb1⟩ := hb
    go_enter Tryd.func80, Tryd.ntmps80
    go_wp2_with (go_at_call 74; refine (digit_any _ _).mono ?_; rintro e w' ⟨rfl, rfl⟩)
    all_goals (go_ret2; exact ⟨by simp [hexVal, isHex, hd], rfl⟩)
  · have hd' : digit n = false := by simpa using hd
    go_enter Tryd.func80, Tryd.ntmps80
    go_wp2_with (go_at_call 74; refine (digit_any _ _).mono ?_; rintro e w' ⟨rfl, rfl⟩)
    all_goals (go_ret2; exact ⟨by simp [hexVal, isHex, *] <;> omega, rfl⟩)
theorem stands_any (n : Int) (s : ByteArray) (w : World) (hs : s.size ≤ maxLen) : Calls Tryd.prog 55 #[.int .u8 n, .string s] w fun e w' => e = .returned (.bool (stands s.data.toList n)) ∧ w' = w := by
  unfold maxLen at hs
  go_enter Tryd.func55, Tryd.ntmps55
  go_wp2
  go_loop [5] (fun i => ∃ k : Nat, k ≤ s.size ∧ i = .int .i64 k ∧ Hid (stands (s.data.toList.take k) n = false)) (fun i => s.size - (intOf i).toNat)
  case atStart => exact ⟨0, Nat.zero_le _, rfl, rfl⟩
  case round =>
    obtain ⟨k, hk, rfl, hno⟩ := hrel
    rcases Nat.lt_or_ge k s.size with hlt | hge
    · have hsn := take_snoc s k hlt
      have HS := Lib.hid hsn
      clear hsn
      go_wp2
      · go_ret
        refine ⟨ret_bool ?_, rfl⟩
        have hx : ((s[k].toNat : Int) == n) = true := by assumption
        have hm : s[k] ∈ s.data.toList := by
          have := HS.out
          exact List.mem_of_mem_take (i := k + 1) (by rw [this]; simp)
        simp only [true_iff, stands, List.any_eq_true]
        exact ⟨_, hm, hx⟩
      · go_round
        case rel =>
          refine ⟨k + 1, by omega, by go_num, ?_⟩
          have hx : ((s[k].toNat : Int) == n) = false := by assumption
          have := hno.out
          refine Lib.hid ?_
          rw [HS.out]
          simp_all [stands]
        case measure => simp [intOf]; omega
    · go_wp2
      go_ret
      have := hno.out
      rw [take_all s k (by omega)] at this
      exact ⟨by rw [this]; rfl, rfl⟩
theorem rdigit_any (n : Int) (w : World) : Calls Tryd.prog 50 #[.int .u8 n] w fun e w' => e = .returned (.bool (digit n)) ∧ w' = w := by
  go_enter Tryd.func50, Tryd.ntmps50
  go_wp2
  all_goals (go_ret; exact ⟨ret_bool (by simp [digit] <;> omega), rfl⟩)
theorem rletter_any (n : Int) (w : World) : Calls Tryd.prog 49 #[.int .u8 n] w fun e w' => e = .returned (.bool (letter n)) ∧ w' = w := by
  go_enter Tryd.func49, Tryd.ntmps49
  go_wp2
  all_goals (go_ret; exact ⟨ret_bool (by simp [letter] <;> omega), rfl⟩)
theorem rhex_any (n : Int) (w : World) (h0 : 0 ≤ n) (h1 : n ≤ 255) : Calls Tryd.prog 72 #[.int .u8 n] w fun e w' => e = .returned (.tuple #[.int .i64 (hexVal n), .bool (isHex n)]) ∧ w' = w := by
  by_cases hd : digit n = true
  · have hb : 48 ≤ n ∧ n ≤ 57 := by simpa [digit] using hd
    obtain ⟨hb0, hb1⟩ := hb
    go_enter Tryd.func72, Tryd.ntmps72
    go_wp2_with (go_at_call 50; refine (rdigit_any _ _).mono ?_; rintro e w' ⟨rfl, rfl⟩)
    all_goals (go_ret2; exact ⟨by simp [hexVal, isHex, hd], rfl⟩)
  · have hd' : digit n = false := by simpa using hd
    go_enter Tryd.func72, Tryd.ntmps72
    go_wp2_with (go_at_call 50; refine (rdigit_any _ _).mono ?_; rintro e w' ⟨rfl, rfl⟩)
    all_goals (go_ret2; exact ⟨by simp [hexVal, isHex, *] <;> omega, rfl⟩)
theorem ofKind_any (n k : Int) (w : World) (h0 : 0 ≤ n) (h1 : n ≤ 255) : Calls Tryd.prog 92 #[.int .u8 n, .int .i64 k] w fun e w' => e = .returned (.bool (ofKind n k)) ∧ w' = w := by
  go_enter Tryd.func92, Tryd.ntmps92
  go_wp2_with (first
    | (go_at_call 98; refine (token_any _ _ (by assumption) (by assumption)).mono ?_; rintro e w' ⟨rfl, rfl⟩)
    | (go_at_call 99; refine (visible_any _ _).mono ?_; rintro e w' ⟨rfl, rfl⟩)
    | (go_at_call 66; refine (blank_any _ _).mono ?_; rintro e w' ⟨rfl, rfl⟩)
    | (go_at_call 74; refine (digit_any _ _).mono ?_; rintro e w' ⟨rfl, rfl⟩)
    | (go_at_call 80; refine (hex_any _ _ (by assumption) (by assumption)).mono ?_; rintro e w' ⟨rfl, rfl⟩)
    | (go_at_call 100; refine (text_any _ _).mono ?_; rintro e w' ⟨rfl, rfl⟩))
  all_goals (go_ret; exact ⟨ret_bool (by simp_all [ofKind]), rfl⟩)
theorem oneOf_any (n : Int) (a : Option Addr) (len cap : Nat) (ks : List Int) (w : World) (h0 : 0 ≤ n) (h1 : n ≤ 255) (hk : Ints w a len ks) (hl : len ≤ maxLen) :
    Calls Tryd.prog 79 #[.int .u8 n, .slice a len cap] w fun e w' => e = .returned (.bool (oneOf ks n)) ∧ w' = w := by
  unfold maxLen at hl
  have hlen := hk.1
  have HK := Lib.hid hk
  clear hk
  have HL := Lib.hid hlen
  clear hlen
  go_enter Tryd.func79, Tryd.ntmps79
  go_wp2
  go_loop [9] (fun i => ∃ k : Nat, k ≤ len ∧ i = .int .i64 k ∧ Hid (oneOf (ks.take k) n = false)) (fun i => len - (intOf i).toNat)
  case atStart => exact ⟨0, Nat.zero_le _, rfl, rfl⟩
  case round =>
    obtain ⟨k, hk, rfl, hno⟩ := hrel
    rcases Nat.lt_or_ge k len with hlt | hge
    · obtain ⟨b, off, rfl, _, hc⟩ := HK.out.2 (by omega)
      have hck := hc k hlt
      have HS := Lib.hid (ints_snoc ks k (by rw [HL.out]; exact hlt))
      clear hc
      go_wp2_with (go_at_call 92; refine (ofKind_any _ _ _ (by assumption) (by assumption)).mono ?_; rintro e w' ⟨rfl, rfl⟩)
      · go_ret
        refine ⟨ret_bool ?_, rfl⟩
        have hx : ofKind n (ks[k]?.getD 0) = true := by assumption
        simp only [true_iff, oneOf, List.any_eq_true]
        exact ⟨_, List.mem_of_mem_take (i := k + 1) (by rw [HS.out]; simp), hx⟩
      · go_round
        case rel =>
          refine ⟨k + 1, by omega, by go_num, Lib.hid ?_⟩
          have hx : ofKind n (ks[k]?.getD 0) = false := by assumption
          have := hno.out
          rw [HS.out]
          simp_all [oneOf]
        case measure => simp [intOf]; omega
    · go_wp2
      go_ret
      have := hno.out
      rw [List.take_of_length_le (by rw [HL.out]; exact hge)] at this
      exact ⟨by rw [this]; rfl, rfl⟩
theorem all_any (s : ByteArray) (a : Option Addr) (len cap : Nat) (ks : List Int) (w : World) (hs : s.size ≤ maxLen) (hk : Ints w a len ks) (hl : len ≤ maxLen) :
    Calls Tryd.prog 69 #[.string s, .slice a len cap] w fun e w' => e = .returned (.bool (allOf ks s.data.toList)) ∧ w' = w := by
  unfold maxLen at hs
  have HK := Lib.hid hk
  clear hk
  have HM := Lib.hid hl
  clear hl
  go_enter Tryd.func69, Tryd.ntmps69
  go_wp2
  go_loop [8] (fun i => ∃ k : Nat, k ≤ s.size ∧ i = .int .i64 k ∧ Hid (allOf ks (s.data.toList.take k) = true)) (fun i => s.size - (intOf i).toNat)
  case atStart => exact ⟨0, Nat.zero_le _, rfl, rfl⟩
  case round =>
    obtain ⟨k, hk, rfl, hyes⟩ := hrel
    rcases Nat.lt_or_ge k s.size with hlt | hge
    · have HS := Lib.hid (take_snoc s k hlt)
      have hb := byte_lt s[k]
      have hb0 : (0 : Int) ≤ (s[k].toNat : Int) := by omega
      go_wp2_with (go_at_call 79; refine (oneOf_any _ _ _ _ ks _ (by assumption) (by assumption) HK.out HM.out).mono ?_; rintro e w' ⟨rfl, rfl⟩)
      · go_ret
        refine ⟨ret_bool ?_, rfl⟩
        have hx : (!oneOf ks (s[k].toNat : Int)) = true := by assumption
        simp only [Bool.false_eq_true, false_iff, allOf, List.all_eq_true]
        intro hall
        have := hall _ (byte_mem s k hlt)
        simp [this] at hx
      · go_round
        case rel =>
          refine ⟨k + 1, by omega, by go_num, Lib.hid ?_⟩
          have hx : (!oneOf ks (s[k].toNat : Int)) = false := by assumption
          have := hyes.out
          rw [HS.out]
          simp_all [allOf]
        case measure => simp [intOf]; omega
    · go_wp2
      go_ret
      have := hyes.out
      rw [take_all s k hge] at this
      exact ⟨by rw [this]; rfl, rfl⟩
end code
end Go.Proofs.YtoakalklbpoknaaDoor.Oct
