/-
  Layer 1 (octet): what each function of package octet answers, of every byte, as plain functions of numbers; and the same of the document's own package. No condition but that a byte lies in 0 to 255 where it is told.
-/
import Derived.Test.YtibnobdbmojjhaaGreatDoorProg
import Derived.Test.YtibnobdbmojjhaaGreatDoorShelf
import Derived.Test.YtibnobdbmojjhaaGreatDoorBase
import Derived.WalkKit
import Derived.WalkSpells
import Derived.WalkLawsBesides
import Derived.Lib.Hide
import Derived.Deep.QuietTactic
import Derived.BigQuiet
namespace Go.Proofs.YtibnobdbmojjhaaGreatDoor.Oct
open Go.RowKit Base

def digit (n : Int) : Bool := decide (48 ≤ n) && decide (n ≤ 57)
def letter (n : Int) : Bool := (decide (97 ≤ n) && decide (n ≤ 122)) || (decide (65 ≤ n) && decide (n ≤ 90))
def visible (n : Int) : Bool := decide (33 ≤ n) && decide (n ≤ 126)
def blank (n : Int) : Bool := decide (n = 32) || decide (n = 9)
def control (n : Int) : Bool := decide (n < 32) || decide (n = 127)
def textual (n : Int) : Bool := visible n || blank n || decide (128 ≤ n)
def marks : List UInt8 := [33, 35, 36, 37, 38, 39, 42, 43, 45, 46, 94, 95, 96, 124, 126]
/-- Does the byte n stand in l? -/
def stands (l : List UInt8) (n : Int) : Bool := l.any fun b => (b.toNat : Int) == n
def token (n : Int) : Bool := letter n || digit n || stands marks n
def isHex (n : Int) : Bool := digit n || (decide (97 ≤ n) && decide (n ≤ 102)) || (decide (65 ≤ n) && decide (n ≤ 70))
def hexVal (n : Int) : Int := if digit n = true then n - 48 else if 97 ≤ n ∧ n ≤ 102 then n - 87 else if 65 ≤ n ∧ n ≤ 70 then n - 55 else 0
/-- Is the byte n of kind k? -/
def ofKind (n k : Int) : Bool := if k = 1 then token n else if k = 2 then visible n else if k = 3 then blank n else if k = 4 then digit n else if k = 5 then isHex n else if k = 6 then textual n else false
def oneOf (ks : List Int) (n : Int) : Bool := ks.any fun k => ofKind n k
def allOf (ks : List Int) (l : List UInt8) : Bool := l.all fun b => oneOf ks b.toNat

theorem marks_index : ∀ k : Fin 256, decide (0 ≤ Lib.indexByte marks (UInt8.ofNat k.val)) = stands marks (k.val : Int) := by decide +kernel
theorem index_marks (n : Int) (h0 : 0 ≤ n) (h1 : n ≤ 255) : (0 ≤ Lib.indexByte [33, 35, 36, 37, 38, 39, 42, 43, 45, 46, 94, 95, 96, 124, 126] (UInt8.ofNat n.toNat)) ↔ stands marks n = true := by
  have h := marks_index ⟨n.toNat, by omega⟩
  have e : ((n.toNat : Nat) : Int) = n := by omega
  simp only [e] at h
  rw [← h, decide_eq_true_iff]; rfl

section code
set_option maxHeartbeats 400000
theorem digit_any (n : Int) (w : World) : Calls Tryz.prog 219 #[.int .u8 n] w fun e w' => e = .returned (.bool (digit n)) ∧ w' = w := by
  go_enter Tryz.func219, Tryz.ntmps219
  go_wp2
  all_goals (go_ret; exact ⟨ret_bool (by simp [digit] <;> omega), rfl⟩)
theorem letter_any (n : Int) (w : World) : Calls Tryz.prog 256 #[.int .u8 n] w fun e w' => e = .returned (.bool (letter n)) ∧ w' = w := by
  go_enter Tryz.func256, Tryz.ntmps256
  go_wp2
  all_goals (go_ret; exact ⟨ret_bool (by simp [letter] <;> omega), rfl⟩)
theorem visible_any (n : Int) (w : World) : Calls Tryz.prog 192 #[.int .u8 n] w fun e w' => e = .returned (.bool (visible n)) ∧ w' = w := by
  go_enter Tryz.func192, Tryz.ntmps192
  go_wp2
  all_goals (go_ret; exact ⟨ret_bool (by simp [visible] <;> omega), rfl⟩)
theorem blank_any (n : Int) (w : World) : Calls Tryz.prog 138 #[.int .u8 n] w fun e w' => e = .returned (.bool (blank n)) ∧ w' = w := by
  go_enter Tryz.func138, Tryz.ntmps138
  go_wp2
  all_goals (go_ret; exact ⟨ret_bool (by simp [blank] <;> omega), rfl⟩)
theorem control_any (n : Int) (w : World) : Calls Tryz.prog 193 #[.int .u8 n] w fun e w' => e = .returned (.bool (control n)) ∧ w' = w := by
  go_enter Tryz.func193, Tryz.ntmps193
  go_wp2
  all_goals (go_ret; exact ⟨ret_bool (by simp [control] <;> omega), rfl⟩)
theorem text_any (n : Int) (w : World) : Calls Tryz.prog 248 #[.int .u8 n] w fun e w' => e = .returned (.bool (textual n)) ∧ w' = w := by
  go_enter Tryz.func248, Tryz.ntmps248
  go_wp2_with (first
    | (go_at_call 192; refine (visible_any _ _).mono ?_; rintro e w' ⟨rfl, rfl⟩)
    | (go_at_call 138; refine (blank_any _ _).mono ?_; rintro e w' ⟨rfl, rfl⟩))
  all_goals (go_ret; exact ⟨ret_bool (by simp [textual, *]), rfl⟩)
theorem token_any (n : Int) (w : World) (h0 : 0 ≤ n) (h1 : n ≤ 255) : Calls Tryz.prog 247 #[.int .u8 n] w fun e w' => e = .returned (.bool (token n)) ∧ w' = w := by
  go_enter Tryz.func247, Tryz.ntmps247
  go_wp2_with (first
    | (go_at_call 256; refine (letter_any _ _).mono ?_; rintro e w' ⟨rfl, rfl⟩)
    | (go_at_call 219; refine (digit_any _ _).mono ?_; rintro e w' ⟨rfl, rfl⟩)
    | (go_at_call 257; refine (Tryz.strings_IndexByte _ _ _).mono ?_; rintro e w' ⟨rfl, rfl⟩))
  all_goals (go_ret; exact ⟨ret_bool (by simp [token, index_marks, *]), rfl⟩)
theorem hex_any (n : Int) (w : World) (h0 : 0 ≤ n) (h1 : n ≤ 255) : Calls Tryz.prog 242 #[.int .u8 n] w fun e w' => e = .returned (.tuple #[.int .i64 (hexVal n), .bool (isHex n)]) ∧ w' = w := by
  by_cases hd : digit n = true
  · have hb : 48 ≤ n ∧ n ≤ 57 := by simpa [digit] using hd
    obtain ⟨hb0, hb1⟩ := hb
    go_enter Tryz.func242, Tryz.ntmps242
    go_wp2_with (go_at_call 219; refine (digit_any _ _).mono ?_; rintro e w' ⟨rfl, rfl⟩)
    all_goals (go_ret2; exact ⟨by simp [hexVal, isHex, hd], rfl⟩)
  · have hd' : digit n = false := by simpa using hd
    go_enter Tryz.func242, Tryz.ntmps242
    go_wp2_with (go_at_call 219; refine (digit_any _ _).mono ?_; rintro e w' ⟨rfl, rfl⟩)
    all_goals (go_ret2; exact ⟨by simp [hexVal, isHex, *] <;> omega, rfl⟩)
theorem stands_any (n : Int) (s : ByteArray) (w : World) (hs : s.size ≤ maxLen) : Calls Tryz.prog 139 #[.int .u8 n, .string s] w fun e w' => e = .returned (.bool (stands s.data.toList n)) ∧ w' = w := by
  unfold maxLen at hs
  go_enter Tryz.func139, Tryz.ntmps139
  go_wp2
  go_loop [5] (fun i => ∃ k : Nat, k ≤ s.size ∧ i = .int .i64 k ∧ Hid (stands (s.data.toList.take k) n = false)) (fun i => s.size - (intOf i).toNat)
  case atStart => exact ⟨0, Nat.zero_le _, rfl, rfl⟩
  case round =>
    obtain ⟨k, hk, rfl, hno⟩ := hrel
    rcases Nat.lt_or_ge k s.size with hlt | hge
    · have hsn := take_snoc s k hlt
      have HS := Lib.hid hsn
      clear hsn
      go_wp2
      · go_ret
        refine ⟨ret_bool ?_, rfl⟩
        have hx : ((s[k].toNat : Int) == n) = true := by assumption
        have hm : s[k] ∈ s.data.toList := by
          have := HS.out
          exact List.mem_of_mem_take (i := k + 1) (by rw [this]; simp)
        simp only [true_iff, stands, List.any_eq_true]
        exact ⟨_, hm, hx⟩
      · go_round
        case rel =>
          refine ⟨k + 1, by omega, by go_num, ?_⟩
          have hx : ((s[k].toNat : Int) == n) = false := by assumption
          have := hno.out
          refine Lib.hid ?_
          rw [HS.out]
          simp_all [stands]
        case measure => simp [intOf]; omega
    · go_wp2
      go_ret
      have := hno.out
      rw [take_all s k (by omega)] at this
      exact ⟨by rw [this]; rfl, rfl⟩
theorem rdigit_any (n : Int) (w : World) : Calls Tryz.prog 156 #[.int .u8 n] w fun e w' => e = .returned (.bool (digit n)) ∧ w' = w := by
  go_enter Tryz.func156, Tryz.ntmps156
  go_wp2
  all_goals (go_ret; exact ⟨ret_bool (by simp [digit] <;> omega), rfl⟩)
theorem rletter_any (n : Int) (w : World) : Calls Tryz.prog 179 #[.int .u8 n] w fun e w' => e = .returned (.bool (letter n)) ∧ w' = w := by
  go_enter Tryz.func179, Tryz.ntmps179
  go_wp2
  all_goals (go_ret; exact ⟨ret_bool (by simp [letter] <;> omega), rfl⟩)
theorem rvisible_any (n : Int) (w : World) : Calls Tryz.prog 150 #[.int .u8 n] w fun e w' => e = .returned (.bool (visible n)) ∧ w' = w := by
  go_enter Tryz.func150, Tryz.ntmps150
  go_wp2
  all_goals (go_ret; exact ⟨ret_bool (by simp [visible] <;> omega), rfl⟩)
theorem rblank_any (n : Int) (w : World) : Calls Tryz.prog 151 #[.int .u8 n] w fun e w' => e = .returned (.bool (blank n)) ∧ w' = w := by
  go_enter Tryz.func151, Tryz.ntmps151
  go_wp2
  all_goals (go_ret; exact ⟨ret_bool (by simp [blank] <;> omega), rfl⟩)
theorem rcontrol_any (n : Int) (w : World) : Calls Tryz.prog 152 #[.int .u8 n] w fun e w' => e = .returned (.bool (control n)) ∧ w' = w := by
  go_enter Tryz.func152, Tryz.ntmps152
  go_wp2
  all_goals (go_ret; exact ⟨ret_bool (by simp [control] <;> omega), rfl⟩)
theorem rtext_any (n : Int) (w : World) : Calls Tryz.prog 178 #[.int .u8 n] w fun e w' => e = .returned (.bool (textual n)) ∧ w' = w := by
  go_enter Tryz.func178, Tryz.ntmps178
  go_wp2_with (first
    | (go_at_call 150; refine (rvisible_any _ _).mono ?_; rintro e w' ⟨rfl, rfl⟩)
    | (go_at_call 151; refine (rblank_any _ _).mono ?_; rintro e w' ⟨rfl, rfl⟩))
  all_goals (go_ret; exact ⟨ret_bool (by simp [textual, *]), rfl⟩)
theorem rtoken_any (n : Int) (w : World) : Calls Tryz.prog 177 #[.int .u8 n] w fun e w' => e = .returned (.bool (token n)) ∧ w' = w := by
  have hsz : (ByteArray.mk #[33, 35, 36, 37, 38, 39, 42, 43, 45, 46, 94, 95, 96, 124, 126]).size ≤ maxLen := by decide
  go_enter Tryz.func177, Tryz.ntmps177
  go_wp2_with (first
    | (go_at_call 179; refine (rletter_any _ _).mono ?_; rintro e w' ⟨rfl, rfl⟩)
    | (go_at_call 156; refine (rdigit_any _ _).mono ?_; rintro e w' ⟨rfl, rfl⟩)
    | (go_at_call 139; refine (stands_any _ _ _ (by assumption)).mono ?_; rintro e w' ⟨rfl, rfl⟩))
  all_goals (go_ret; exact ⟨ret_bool (by simp [token, marks, *]), rfl⟩)
theorem rhex_any (n : Int) (w : World) (h0 : 0 ≤ n) (h1 : n ≤ 255) : Calls Tryz.prog 176 #[.int .u8 n] w fun e w' => e = .returned (.tuple #[.int .i64 (hexVal n), .bool (isHex n)]) ∧ w' = w := by
  by_cases hd : digit n = true
  · have hb : 48 ≤ n ∧ n ≤ 57 := by simpa [digit] using hd
    obtain ⟨hb0, hb1⟩ := hb
    go_enter Tryz.func176, Tryz.ntmps176
    go_wp2_with (go_at_call 156; refine (rdigit_any _ _).mono ?_; rintro e w' ⟨rfl, rfl⟩)
    all_goals (go_ret2; exact ⟨by simp [hexVal, isHex, hd], rfl⟩)
  · have hd' : digit n = false := by simpa using hd
    go_enter Tryz.func176, Tryz.ntmps176
    go_wp2_with (go_at_call 156; refine (rdigit_any _ _).mono ?_; rintro e w' ⟨rfl, rfl⟩)
    all_goals (go_ret2; exact ⟨by simp [hexVal, isHex, *] <;> omega, rfl⟩)
theorem ofKind_any (n k : Int) (w : World) (h0 : 0 ≤ n) (h1 : n ≤ 255) : Calls Tryz.prog 231 #[.int .u8 n, .int .i64 k] w fun e w' => e = .returned (.bool (ofKind n k)) ∧ w' = w := by
  go_enter Tryz.func231, Tryz.ntmps231
  go_wp2_with (first
    | (go_at_call 247; refine (token_any _ _ (by assumption) (by assumption)).mono ?_; rintro e w' ⟨rfl, rfl⟩)
    | (go_at_call 192; refine (visible_any _ _).mono ?_; rintro e w' ⟨rfl, rfl⟩)
    | (go_at_call 138; refine (blank_any _ _).mono ?_; rintro e w' ⟨rfl, rfl⟩)
    | (go_at_call 219; refine (digit_any _ _).mono ?_; rintro e w' ⟨rfl, rfl⟩)
    | (go_at_call 242; refine (hex_any _ _ (by assumption) (by assumption)).mono ?_; rintro e w' ⟨rfl, rfl⟩)
    | (go_at_call 248; refine (text_any _ _).mono ?_; rintro e w' ⟨rfl, rfl⟩))
  all_goals (go_ret; exact ⟨ret_bool (by simp_all [ofKind]), rfl⟩)
theorem rofKind_any (n k : Int) (w : World) (h0 : 0 ≤ n) (h1 : n ≤ 255) : Calls Tryz.prog 149 #[.int .u8 n, .int .i64 k] w fun e w' => e = .returned (.bool (ofKind n k)) ∧ w' = w := by
  go_enter Tryz.func149, Tryz.ntmps149
  go_wp2_with (first
    | (go_at_call 177; refine (rtoken_any _ _).mono ?_; rintro e w' ⟨rfl, rfl⟩)
    | (go_at_call 150; refine (rvisible_any _ _).mono ?_; rintro e w' ⟨rfl, rfl⟩)
    | (go_at_call 151; refine (rblank_any _ _).mono ?_; rintro e w' ⟨rfl, rfl⟩)
    | (go_at_call 156; refine (rdigit_any _ _).mono ?_; rintro e w' ⟨rfl, rfl⟩)
    | (go_at_call 176; refine (rhex_any _ _ (by assumption) (by assumption)).mono ?_; rintro e w' ⟨rfl, rfl⟩)
    | (go_at_call 178; refine (rtext_any _ _).mono ?_; rintro e w' ⟨rfl, rfl⟩))
  all_goals (go_ret; exact ⟨ret_bool (by simp_all [ofKind]), rfl⟩)
theorem oneOf_any (n : Int) (a : Option Addr) (len cap : Nat) (ks : List Int) (w : World) (h0 : 0 ≤ n) (h1 : n ≤ 255) (hk : Ints w a len ks) (hl : len ≤ maxLen) :
    Calls Tryz.prog 214 #[.int .u8 n, .slice a len cap] w fun e w' => e = .returned (.bool (oneOf ks n)) ∧ w' = w := by
  unfold maxLen at hl
  have hlen := hk.1
  have HK := Lib.hid hk
  clear hk
  have HL := Lib.hid hlen
  clear hlen
  go_enter Tryz.func214, Tryz.ntmps214
  go_wp2
  go_loop [9] (fun i => ∃ k : Nat, k ≤ len ∧ i = .int .i64 k ∧ Hid (oneOf (ks.take k) n = false)) (fun i => len - (intOf i).toNat)
  case atStart => exact ⟨0, Nat.zero_le _, rfl, rfl⟩
  case round =>
    obtain ⟨k, hk, rfl, hno⟩ := hrel
    rcases Nat.lt_or_ge k len with hlt | hge
    · obtain ⟨b, off, rfl, _, hc⟩ := HK.out.2 (by omega)
      have hck := hc k hlt
      have HS := Lib.hid (ints_snoc ks k (by rw [HL.out]; exact hlt))
      clear hc
      go_wp2_with (go_at_call 231; refine (ofKind_any _ _ _ (by assumption) (by assumption)).mono ?_; rintro e w' ⟨rfl, rfl⟩)
      · go_ret
        refine ⟨ret_bool ?_, rfl⟩
        have hx : ofKind n (ks[k]?.getD 0) = true := by assumption
        simp only [true_iff, oneOf, List.any_eq_true]
        exact ⟨_, List.mem_of_mem_take (i := k + 1) (by rw [HS.out]; simp), hx⟩
      · go_round
        case rel =>
          refine ⟨k + 1, by omega, by go_num, Lib.hid ?_⟩
          have hx : ofKind n (ks[k]?.getD 0) = false := by assumption
          have := hno.out
          rw [HS.out]
          simp_all [oneOf]
        case measure => simp [intOf]; omega
    · go_wp2
      go_ret
      have := hno.out
      rw [List.take_of_length_le (by rw [HL.out]; exact hge)] at this
      exact ⟨by rw [this]; rfl, rfl⟩
theorem all_any (s : ByteArray) (a : Option Addr) (len cap : Nat) (ks : List Int) (w : World) (hs : s.size ≤ maxLen) (hk : Ints w a len ks) (hl : len ≤ maxLen) :
    Calls Tryz.prog 191 #[.string s, .slice a len cap] w fun e w' => e = .returned (.bool (allOf ks s.data.toList)) ∧ w' = w := by
  unfold maxLen at hs
  have HK := Lib.hid hk
  clear hk
  have HM := Lib.hid hl
  clear hl
  go_enter Tryz.func191, Tryz.ntmps191
  go_wp2
  go_loop [8] (fun i => ∃ k : Nat, k ≤ s.size ∧ i = .int .i64 k ∧ Hid (allOf ks (s.data.toList.take k) = true)) (fun i => s.size - (intOf i).toNat)
  case atStart => exact ⟨0, Nat.zero_le _, rfl, rfl⟩
  case round =>
    obtain ⟨k, hk, rfl, hyes⟩ := hrel
    rcases Nat.lt_or_ge k s.size with hlt | hge
    · have HS := Lib.hid (take_snoc s k hlt)
      have hb := byte_lt s[k]
      have hb0 : (0 : Int) ≤ (s[k].toNat : Int) := by omega
      go_wp2_with (go_at_call 214; refine (oneOf_any _ _ _ _ ks _ (by assumption) (by assumption) HK.out HM.out).mono ?_; rintro e w' ⟨rfl, rfl⟩)
      · go_ret
        refine ⟨ret_bool ?_, rfl⟩
        have hx : (!oneOf ks (s[k].toNat : Int)) = true := by assumption
        simp only [Bool.false_eq_true, false_iff, allOf, List.all_eq_true]
        intro hall
        have := hall _ (byte_mem s k hlt)
        simp [this] at hx
      · go_round
        case rel =>
          refine ⟨k + 1, by omega, by go_num, Lib.hid ?_⟩
          have hx : (!oneOf ks (s[k].toNat : Int)) = false := by assumption
          have := hyes.out
          rw [HS.out]
          simp_all [allOf]
        case measure => simp [intOf]; omega
    · go_wp2
      go_ret
      have := hyes.out
      rw [take_all s k hge] at this
      exact ⟨by rw [this]; rfl, rfl⟩
theorem rall_any (s : ByteArray) (a : Option Addr) (len cap : Nat) (ks : List Int) (w : World) (hs : s.size ≤ maxLen) (hk : Ints w a len ks) (hl : len ≤ maxLen) :
    Calls Tryz.prog 127 #[.string s, .slice a len cap] w fun e w' => e = .returned (.bool (allOf ks s.data.toList)) ∧ ∃ m, w' = w.drewN m := by
  unfold maxLen at hs hl
  have HK := Lib.hid hk
  have HL := Lib.hid hk.1
  clear hk
  go_enter Tryz.func127, Tryz.ntmps127
  go_wp2
  go_loopw [5] (fun i wr => ∃ k : Nat, k ≤ s.size ∧ i = .int .i64 k ∧ Hid (allOf ks (s.data.toList.take k) = true) ∧ Hid (∃ m, wr = w.drewN m)) (fun i _ => s.size - (intOf i).toNat)
  case atStart => exact ⟨0, Nat.zero_le _, rfl, rfl, 0, rfl⟩
  case round =>
    obtain ⟨k, hk, rfl, hyes, hw⟩ := hrel
    obtain ⟨wo, rfl⟩ : ∃ wo : World, wo = wr := ⟨_, rfl⟩
    rcases Nat.lt_or_ge k s.size with hlt | hge
    · have HS := Lib.hid (take_snoc s k hlt)
      have hb := byte_lt s[k]
      have hb0 : (0 : Int) ≤ (s[k].toNat : Int) := by omega
      go_wp2
      go_loopw [6, 7] (fun ok j wr => ∃ (q : Nat) (b : Bool), q ≤ len ∧ j = .int .i64 q ∧ ok = .bool b ∧ Hid (b = oneOf (ks.take q) (s[k].toNat : Int)) ∧ Hid (∃ m, wr = wo.drewN m)) (fun _ j _ => len - (intOf j).toNat)
      case atStart => exact ⟨0, false, Nat.zero_le _, rfl, rfl, rfl, 0, rfl⟩
      case round =>
        obtain ⟨q, b, hq, rfl, rfl, hok, hwi⟩ := hrel
        rcases Nat.lt_or_ge q len with hltq | hgeq
        · have hI : Ints wr a len ks := by
            obtain ⟨m1, rfl⟩ := hw.out
            obtain ⟨m, rfl⟩ := hwi.out
            exact HK.out
          obtain ⟨bl, off, rfl, _, hc⟩ := hI.2 (by omega)
          have hck := hc q hltq
          have HQ := Lib.hid (ints_snoc ks q (by rw [HL.out]; exact hltq))
          clear hc hI
          cases b
          · go_wp2
            go_quiet ((go_at_call 149; exact Calls.quiet_of_same (rofKind_any _ _ _ (by assumption) (by assumption))))
            go_wp2
            go_roundw
            case rel =>
              refine ⟨q + 1, _, by omega, by go_num, rfl, Lib.hid ?_, Lib.hid ?_⟩
              · have := hok.out
                rw [HQ.out]
                simp_all [oneOf]
              · obtain ⟨m, hm⟩ := hwi.out
                exact ⟨m + nq, by rw [hm, World.drewN_drewN]⟩
            case measure => simp [intOf]; omega
          · go_wp2
            go_quiet (fail)
            go_wp2
            go_roundw
            case rel =>
              refine ⟨q + 1, _, by omega, by go_num, rfl, Lib.hid ?_, Lib.hid ?_⟩
              · have := hok.out
                rw [HQ.out]
                simp_all [oneOf]
              · obtain ⟨m, hm⟩ := hwi.out
                exact ⟨m + nq, by rw [hm, World.drewN_drewN]⟩
            case measure => simp [intOf]; omega
        · have HE : Hid (oneOf (ks.take q) (s[k].toNat : Int) = oneOf ks (s[k].toNat : Int)) := by
            rw [List.take_of_length_le (by rw [HL.out]; exact hgeq)]; exact Lib.hid rfl
          cases b
          · go_wp2
            go_ret
            refine ⟨ret_bool ?_, ?_⟩
            · have h1 := hok.out
              have h2 := HE.out
              simp only [Bool.false_eq_true, false_iff, allOf, List.all_eq_true]
              intro hall
              have := hall _ (byte_mem s k hlt)
              rw [← h2, ← h1] at this
              cases this
            · obtain ⟨m, hm⟩ := hwi.out
              obtain ⟨m1, hm1⟩ := hw.out
              exact ⟨m1 + m, by rw [hm, hm1, World.drewN_drewN]⟩
          · go_wp2
            go_roundw
            case rel =>
              refine ⟨k + 1, by omega, by go_num, Lib.hid ?_, Lib.hid ?_⟩
              · have h0 := hyes.out
                have h1 := hok.out
                have h2 := HE.out
                rw [HS.out]
                simp_all [allOf]
              · obtain ⟨m, hm⟩ := hwi.out
                obtain ⟨m1, hm1⟩ := hw.out
                exact ⟨m1 + m, by rw [hm, hm1, World.drewN_drewN]⟩
            case measure => simp [intOf]; omega
    · go_wp2
      go_ret
      have := hyes.out
      rw [take_all s k hge] at this
      exact ⟨by rw [this]; rfl, hw.out⟩
end code
end Go.Proofs.YtibnobdbmojjhaaGreatDoor.Oct
