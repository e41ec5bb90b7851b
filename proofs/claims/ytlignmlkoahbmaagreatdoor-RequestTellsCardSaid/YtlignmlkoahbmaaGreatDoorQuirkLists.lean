/-
  Layer 5 (quirks): contracts, further: lists of clauses, the search by name, the document's Needs and Name.
-/
import Derived.Test.YtlignmlkoahbmaaGreatDoorQuirks
import Derived.Test.YtlignmlkoahbmaaGreatDoorTable
import Derived.Maps.AppendAt
import Derived.ChangeSame
namespace Go.Proofs.YtlignmlkoahbmaaGreatDoor.Qk
open Go.RowKit Base

theorem string_info : (Tryz.prog.info? 9).map (fun i => (i.zero, i.size, i.bytes)) = some (some (.string ByteArray.empty), 1, 16) := by kernel_rfl
theorem int_info : (Tryz.prog.info? 3).map (fun i => (i.zero, i.size, i.bytes)) = some (some (.int .i64 0), 1, 8) := by kernel_rfl
theorem snoc_some {zs : List Int} {k : Nat} (h : k < zs.length) : zs.take (k + 1) = zs.take k ++ [zs[k]?.getD 0] := ints_snoc zs k h

section code
set_option maxHeartbeats 1000000
attribute [local go_sem] Base.some_undef
theorem rof_any (a : Option Addr) (n cap : Nat) (zs : List Int) (w : World) (hv : Ints w a n zs) (hn : n ≤ maxLen) : Calls Tryz.prog 9 #[.slice a n cap] w fun e w' => e = .returned (.int .u32 (ofL zs : Nat)) ∧ w' = w := by
  have HV := Lib.hid hv
  have HL := Lib.hid hv.1
  clear hv
  unfold maxLen at hn
  go_enter Tryz.func9, Tryz.ntmps9
  go_wp2
  go_loopw [3, 4] (fun v i wr => ∃ k : Nat, k ≤ n ∧ i = .int .i64 k ∧ v = .int .u32 (ofL (zs.take k) : Nat) ∧ wr = w) (fun _ i _ => n - (intOf i).toNat)
  case atStart => exact ⟨0, Nat.zero_le _, rfl, rfl, rfl⟩
  case round =>
    obtain ⟨k, hk, rfl, rfl, hwr⟩ := hrel
    subst hwr
    rcases Nat.lt_or_ge k n with hlt | hge
    · obtain ⟨bl, off, rfl, _, hc⟩ := HV.out.2 (by omega)
      have hck := hc k hlt
      clear hc
      have HS := Lib.hid (show (ofL (zs.take (k + 1)) : Int) = bits .or .u32 (ofL (zs.take k) : Nat) (bitOf (zs[k]?.getD 0) : Nat) from by
        rw [ints_snoc zs k (by rw [HL.out]; exact hlt), ofL_snoc, u32_or_nat _ _ (Nat.lt_trans (ofL_lt _) (by decide)) (Nat.lt_trans (bitOf_lt _) (by decide))])
      have HT := Lib.hid (show (ofL (zs.take (k + 1)) : Nat) = ofL (zs.take k) ||| bitOf (zs[k]?.getD 0) from by rw [ints_snoc zs k (by rw [HL.out]; exact hlt), ofL_snoc])
      generalize zs[k]?.getD 0 = z at *
      generalize ofL (zs.take k) = O at *
      rcases (by omega : z < 0 ∨ (0 ≤ z ∧ 30 ≤ z) ∨ (0 ≤ z ∧ z < 30)) with h | ⟨h, h1⟩ | ⟨h, h1⟩
      · have hb : bitOf z = 0 := by rw [bitOf, if_neg (by simp [known]; omega)]
        rw [hb, Nat.or_zero] at HT
        clear hb
        go_wp2
        go_roundw
        case rel => exact ⟨k + 1, by omega, by go_num, by rw [HT.out], by first | rfl | trivial⟩
        case measure => simp [intOf]; omega
      · have hb : bitOf z = 0 := by rw [bitOf, if_neg (by simp [known]; omega)]
        rw [hb, Nat.or_zero] at HT
        clear hb
        go_wp2
        go_roundw
        case rel => exact ⟨k + 1, by omega, by go_num, by rw [HT.out], by first | rfl | trivial⟩
        case measure => simp [intOf]; omega
      · have hb : bitOf z = 2 ^ z.toNat := by rw [bitOf, if_pos (by simp [known]; omega)]
        have hs := Lib.hid (shl_one z h h1)
        rw [hb] at HS
        clear hb
        go_wp2
        go_roundw
        case rel => exact ⟨k + 1, by omega, by go_num, by rw [HS.out, hs.out], by first | rfl | trivial⟩
        case measure => simp [intOf]; omega
    · obtain rfl : k = n := by omega
      go_wp2
      go_ret
      exact ⟨by rw [List.take_of_length_le (by rw [HL.out]; omega)]; rfl, rfl⟩

end code
end Go.Proofs.YtlignmlkoahbmaaGreatDoor.Qk
