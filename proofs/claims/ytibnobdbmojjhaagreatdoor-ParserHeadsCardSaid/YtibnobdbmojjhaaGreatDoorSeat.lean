/-
  Layer 5 (quirks): contracts, further: lists of clauses, the search by name, the document's Needs and Name.
-/
import Derived.Test.YtibnobdbmojjhaaGreatDoorQuirks
import Derived.Test.YtibnobdbmojjhaaGreatDoorBase
import Derived.Maps.AppendAt
import Derived.ChangeSame
namespace Go.Proofs.YtibnobdbmojjhaaGreatDoor.Qk
open Go.RowKit Base

theorem string_info : (Tryz.prog.info? 9).map (fun i => (i.zero, i.size, i.bytes)) = some (some (.string ByteArray.empty), 1, 16) := by kernel_rfl
theorem int_info : (Tryz.prog.info? 3).map (fun i => (i.zero, i.size, i.bytes)) = some (some (.int .i64 0), 1, 8) := by kernel_rfl
theorem snoc_some {zs : List Int} {k : Nat} (h : k < zs.length) : zs.take (k + 1) = zs.take k ++ [zs[k]?.getD 0] := ints_snoc zs k h

section code
set_option maxHeartbeats 1000000
attribute [local go_sem] Base.some_undef
theorem rof_any (a : Option Addr) (n cap : Nat) (zs : List Int) (w : World) (hv : Ints w a n zs) (hn : n ≤ maxLen) : Calls Tryz.prog 40 #[.slice a n cap] w fun e w' => e = .returned (.int .u32 (ofL zs : Nat)) ∧ w' = w := by
  have HV := Lib.hid hv
  have HL := Lib.hid hv.1
  clear hv
  unfold maxLen at hn
  go_enter Tryz.func40, Tryz.ntmps40
  go_wp2
  go_loopw [3, 4] (fun v i wr => ∃ k : Nat, k ≤ n ∧ i = .int .i64 k ∧ v = .int .u32 (ofL (zs.take k) : Nat) ∧ wr = w) (fun _ i _ => n - (intOf i).toNat)
  case atStart => exact ⟨0, Nat.zero_le _, rfl, rfl, rfl⟩
  case round =>
    obtain ⟨k, hk, rfl, rfl, hwr⟩ := hrel
    subst hwr
    rcases Nat.lt_or_ge k n with hlt | hge
    · obtain ⟨bl, off, rfl, _, hc⟩ := HV.out.2 (by omega)
      have hck := hc k hlt
      clear hc
      have HS := Lib.hid (show (ofL (zs.take (k + 1)) : Int) = bits .or .u32 (ofL (zs.take k) : Nat) (bitOf (zs[k]?.getD 0) : Nat) from by
        rw [ints_snoc zs k (by rw [HL.out]; exact hlt), ofL_snoc, u32_or_nat _ _ (Nat.lt_trans (ofL_lt _) (by decide)) (Nat.lt_trans (bitOf_lt _) (by decide))])
      have HT := Lib.hid (show (ofL (zs.take (k + 1)) : Nat) = ofL (zs.take k) ||| bitOf (zs[k]?.getD 0) from by rw [ints_snoc zs k (by rw [HL.out]; exact hlt), ofL_snoc])
      generalize zs[k]?.getD 0 = z at *
      generalize ofL (zs.take k) = O at *
      rcases (by omega : z < 0 ∨ (0 ≤ z ∧ 30 ≤ z) ∨ (0 ≤ z ∧ z < 30)) with h | ⟨h, h1⟩ | ⟨h, h1⟩
      · have hb : bitOf z = 0 := by rw [bitOf, if_neg (by simp [known]; omega)]
        rw [hb, Nat.or_zero] at HT
        clear hb
        go_wp2
        go_roundw
        case rel => exact ⟨k + 1, by omega, by go_num, by rw [HT.out], by first | rfl | trivial⟩
        case measure => simp [intOf]; omega
      · have hb : bitOf z = 0 := by rw [bitOf, if_neg (by simp [known]; omega)]
        rw [hb, Nat.or_zero] at HT
        clear hb
        go_wp2
        go_roundw
        case rel => exact ⟨k + 1, by omega, by go_num, by rw [HT.out], by first | rfl | trivial⟩
        case measure => simp [intOf]; omega
      · have hb : bitOf z = 2 ^ z.toNat := by rw [bitOf, if_pos (by simp [known]; omega)]
        have hs := Lib.hid (shl_one z h h1)
        rw [hb] at HS
        clear hb
        go_wp2
        go_roundw
        case rel => exact ⟨k + 1, by omega, by go_num, by rw [HS.out, hs.out], by first | rfl | trivial⟩
        case measure => simp [intOf]; omega
    · obtain rfl : k = n := by omega
      go_wp2
      go_ret
      exact ⟨by rw [List.take_of_length_le (by rw [HL.out]; omega)]; rfl, rfl⟩

end code
end Go.Proofs.YtibnobdbmojjhaaGreatDoor.Qk

/-
  The statements' own profiles and bounds, of few numbers.
-/
namespace Go.Proofs.YtibnobdbmojjhaaGreatDoor.Seat
open Go.RowKit Base Qk

def seatP (a k : Nat) : Nat :=
  if k % 4 = 0 then ofL [((k / 4 % 30 : Nat) : Int)] else if k % 4 = 1 then ofL [((k / 4 % 30 : Nat) : Int), ((a % 30 : Nat) : Int)]
  else if k % 4 = 2 then a % 1073741824 &&& (a % 1073741824) / 128 &&& (a % 1073741824) / 8192 else a % 1073741824
theorem seatP_lt (a k : Nat) : seatP a k < 2 ^ 30 := by
  have h : a % 1073741824 < 2 ^ 30 := Nat.mod_lt _ (by decide)
  unfold seatP
  split
  · exact ofL_lt _
  · split
    · exact ofL_lt _
    · split
      · exact Nat.lt_of_le_of_lt (Nat.le_trans Nat.and_le_left Nat.and_le_left) h
      · exact h
theorem mask30 (a : Nat) (ha : a < 4294967296) : bits .and .u32 (a : Int) 1073741823 = ((a % 1073741824 : Nat) : Int) := by
  rw [show (1073741823 : Int) = ((1073741823 : Nat) : Int) from rfl, u32_and_nat a _ ha (by decide)]
  exact congrArg _ (Nat.and_two_pow_sub_one_eq_mod a 30)

/-- Bounds of a number. -/
def seatB (k : Nat) : Value :=
  Bnd.bnd (if k % 6 = 1 then 64 else if k % 6 = 3 then 80 else 1024) (if k % 6 = 1 then 4 else 32) (if k % 6 = 1 then 256 else 8192) (if k % 6 = 2 then 16 else if k % 6 = 3 then 40 else 65536)
    (if k % 6 = 2 then 0 else 32) (if k % 6 = 2 then 0 else 8) ((k / 32 % 4 : Nat) + 1 : Int) 20 (!decide (k % 8 = 7)) (!decide (12 < k % 16))

section code
set_option maxHeartbeats 1000000
theorem profile_any (a k : Nat) (ha : a < 4294967296) (hk : k < 256) (w : World) : Calls Tryz.prog 16 #[.int .u32 a, .int .u8 k] w fun e w' => e = .returned (.int .u32 (seatP a k : Nat)) ∧ Below w.heap.size w w' := by
  have HM := Lib.hid (mask30 a ha)
  rcases (by omega : k % 4 = 0 ∨ k % 4 = 1 ∨ k % 4 = 2 ∨ k % 4 = 3) with h | h | h | h
  · have hr : (k : Int) % 4 = 0 := by omega
    have hs : seatP a k = ofL [((k / 4 % 30 : Nat) : Int)] := by rw [seatP, if_pos h]
    rw [hs]
    go_enter Tryz.func16, Tryz.ntmps16
    go_wp2_with (go_at_call 40; with_reducible refine (rof_any _ _ _ _ _ (Ints.one _ _ rfl _ _) (by decide)).mono ?_; rintro e w1 ⟨rfl, hw⟩; rw [hw]; clear hw)
    go_ret
    exact ⟨rfl, (Below.refl _ _).alloc (Nat.le_refl _) _⟩
  · have hr : (k : Int) % 4 = 1 := by omega
    have hs : seatP a k = ofL [((k / 4 % 30 : Nat) : Int), ((a % 30 : Nat) : Int)] := by rw [seatP, if_neg (by omega), if_pos h]
    rw [hs]
    go_enter Tryz.func16, Tryz.ntmps16
    go_wp2_with (go_at_call 40; with_reducible refine (rof_any _ _ _ _ _ (Ints.two _ _ rfl _ _ _) (by decide)).mono ?_; rintro e w1 ⟨rfl, hw⟩; rw [hw]; clear hw)
    go_ret
    exact ⟨rfl, (Below.refl _ _).alloc (Nat.le_refl _) _⟩
  · have hr : (k : Int) % 4 = 2 := by omega
    have hs : seatP a k = a % 1073741824 &&& (a % 1073741824) / 128 &&& (a % 1073741824) / 8192 := by rw [seatP, if_neg (by omega), if_neg (by omega), if_pos h]
    rw [hs]
    have hm := HM.out
    have hp : a % 1073741824 < 1073741824 := Nat.mod_lt _ (by decide)
    generalize a % 1073741824 = p at *
    go_enter Tryz.func16, Tryz.ntmps16
    go_wp2
    go_ret
    refine ⟨ret_int ?_, Below.refl _ _⟩
    have e1 : (p : Int) / 128 = ((p / 128 : Nat) : Int) := by omega
    have e2 : (p : Int) / 8192 = ((p / 8192 : Nat) : Int) := by omega
    rw [e1, e2, u32_and_nat p _ (by omega) (by omega), u32_and_nat _ _ (Nat.lt_of_le_of_lt Nat.and_le_left (by omega)) (by omega)]
  · have hr : (k : Int) % 4 = 3 := by omega
    have hs : seatP a k = a % 1073741824 := by rw [seatP, if_neg (by omega), if_neg (by omega), if_neg (by omega)]
    rw [hs]
    have hm := HM.out
    go_enter Tryz.func16, Tryz.ntmps16
    go_wp2
    go_ret
    exact ⟨rfl, Below.refl _ _⟩
set_option maxHeartbeats 16000000 in
theorem bounds_any (k : Nat) (hk : k < 256) (w : World) : Calls Tryz.prog 17 #[.int .u8 k] w fun e w' => e = .returned (seatB k) ∧ Below w.heap.size w w' := by
  have H := Lib.hid (Bnd.rusual_exact)
  have HB : seatB k = seatB k := rfl
  conv at HB => rhs; unfold seatB
  have HW : ((k / 32 % 4 : Nat) + 1 : Int) = (k : Int) / 32 % 4 + 1 := by omega
  rw [HW] at HB
  clear HW
  generalize seatB k = B at *
  rcases (by omega : k % 6 = 1 ∨ k % 6 = 2 ∨ k % 6 = 3 ∨ (k % 6 ≠ 1 ∧ k % 6 ≠ 2 ∧ k % 6 ≠ 3)) with h | h | h | ⟨h, h', h''⟩ <;> rcases (by omega : k % 8 = 7 ∨ k % 8 ≠ 7) with h8 | h8 <;> rcases (by omega : 12 < k % 16 ∨ k % 16 ≤ 12) with h16 | h16
  all_goals try (exfalso; omega)
  all_goals
    simp [*, Nat.not_lt.2] at HB
    replace HB := Lib.hid HB
    go_enter Tryz.func17, Tryz.ntmps17
    go_wp2_with (go_at_call 34; with_reducible refine (H.out _).mono ?_; rintro e w1 ⟨rfl, hw⟩; rw [hw]; clear hw)
    rw [HB.out]
    refine bodyPost_ret ?_ rfl ⟨rfl, (((Below.refl _ _).alloc (Nat.le_refl _) _).alloc (by simp) _).alloc (by simp; omega) _⟩
    simp [results, Tryz.results17, go_sem]
end code
end Go.Proofs.YtibnobdbmojjhaaGreatDoor.Seat
