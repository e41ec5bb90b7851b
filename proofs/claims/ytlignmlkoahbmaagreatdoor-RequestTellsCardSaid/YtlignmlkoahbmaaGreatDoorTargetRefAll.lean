/-
  Layer 7 (target): what the document's Path, Query, and its test for a colon answer, of every text up to a great size.
-/
import Derived.Test.YtlignmlkoahbmaaGreatDoorTargetRefOf
namespace Go.Proofs.YtlignmlkoahbmaaGreatDoor.Tgt
open Go.RowKit Base Oct Num Txt

section code
set_option maxHeartbeats 1000000
attribute [local go_sem] Base.some_undef
theorem rquery_any (s : ByteArray) (w : World) (hs : s.size ≤ 1000000000) : Calls Tryz.prog 66 #[.string s] w fun e w' => e = .returned (.bool (queryB s.data.toList)) ∧ w' = w := by
  have HW := Lib.hid (fun w => rof_any s ⟨#[45, 46, 95, 126, 33, 36, 38, 39, 40, 41, 42, 43, 44, 59, 61, 58, 64, 47, 63]⟩ w hs (by decide))
  rw [show (ByteArray.mk #[45, 46, 95, 126, 33, 36, 38, 39, 40, 41, 42, 43, 44, 59, 61, 58, 64, 47, 63]).data.toList = queryMarks from rfl] at HW
  unfold queryB
  generalize written queryMarks s.data.toList = q at *
  go_enter Tryz.func66, Tryz.ntmps66
  go_wp2_with (go_at_call 81; with_reducible refine (HW.out _).mono ?_; rintro e w1 ⟨rfl, hw⟩; rw [hw]; clear hw)
  go_ret
  exact ⟨rfl, rfl⟩
theorem rpath_any (s : ByteArray) (w : World) (hs : s.size ≤ 1000000000) : Calls Tryz.prog 65 #[.string s] w fun e w' => e = .returned (.bool (pathB s.data.toList)) ∧ w' = w := by
  have HW := Lib.hid (fun w => rof_any s ⟨#[45, 46, 95, 126, 33, 36, 38, 39, 40, 41, 42, 43, 44, 59, 61, 58, 64, 47]⟩ w hs (by decide))
  rw [show (ByteArray.mk #[45, 46, 95, 126, 33, 36, 38, 39, 40, 41, 42, 43, 44, 59, 61, 58, 64, 47]).data.toList = pathMarks from rfl] at HW
  unfold pathB
  cases hl : s.data.toList with
  | nil =>
    have he := empty_of hl
    clear hl HW
    go_enter Tryz.func65, Tryz.ntmps65
    go_wp2
    go_ret
    exact ⟨rfl, rfl⟩
  | cons c r =>
    have he := full_of hl
    have hz := size_cons hl
    have h0 : (0 : Int) < (s.size : Int) := by omega
    have e0 : ∀ h, s[0]'h = c := fun h => at_zero hl h
    rw [hl] at HW
    clear hl hz
    generalize written pathMarks (c :: r) = q at *
    rw [List.head?_cons]
    by_cases hc : c = 47
    · have t1 : ((c.toNat : Int) == 47) = true := by rw [hc]; rfl
      rw [decide_eq_true (by rw [hc]), Bool.true_and]
      clear hc
      go_enter Tryz.func65, Tryz.ntmps65
      go_wp2_with (go_at_call 81; with_reducible refine (HW.out _).mono ?_; rintro e w1 ⟨rfl, hw⟩; rw [hw]; clear hw)
      go_ret
      exact ⟨rfl, rfl⟩
    · have t1 : ((c.toNat : Int) == 47) = false := beq_eq_false_iff_ne.2 fun e => hc (UInt8.toNat_inj.1 (by show c.toNat = 47; omega))
      rw [decide_eq_false (fun e => hc (Option.some.inj e)), Bool.false_and]
      clear hc
      go_enter Tryz.func65, Tryz.ntmps65
      go_wp2
      go_ret
      exact ⟨rfl, rfl⟩
theorem rport_any (s : ByteArray) (w : World) (hs : s.size ≤ 1000000000) : Calls Tryz.prog 41 #[.string s] w fun e w' => e = .returned (.bool (s.data.toList.contains 58)) ∧ w' = w := by
  obtain ⟨A, hA⟩ : ∃ A, s.data.toList.contains 58 = A := ⟨_, rfl⟩
  rw [hA]
  have HA := Lib.hid hA
  clear hA
  go_enter Tryz.func41, Tryz.ntmps41
  go_wp2
  go_loop [3] (fun i => ∃ k : Nat, k ≤ s.size ∧ i = .int .i64 k ∧ Hid ((s.data.toList.take k).contains 58 = false)) (fun i => s.size - (intOf i).toNat)
  case atStart => exact ⟨0, Nat.zero_le _, rfl, Lib.hid rfl⟩
  case round =>
    obtain ⟨k, hk, rfl, hno⟩ := hrel
    rcases Nat.lt_or_ge k s.size with hlt | hge
    · have i1 : (k : Int) < (s.size : Int) := by omega
      have hkl : k < s.data.toList.length := by rw [len]; exact hlt
      have hsn := Lib.hid (contains_snoc s.data.toList k hkl 58)
      obtain ⟨c, hc⟩ : ∃ c, s.data.toList[k] = c := ⟨_, rfl⟩
      have hx : ∀ h, s[k]'h = c := fun _ => hc
      have hmem := Lib.hid (List.getElem_mem hkl)
      rw [hc] at hsn hmem
      clear hc hkl
      by_cases h58 : c = 58
      · have t1 : ((c.toNat : Int) == 58) = true := by rw [h58]; rfl
        have HT : Hid (true = A) := Lib.hid (by rw [← HA.out, List.contains_iff_mem.2 (by rw [← h58]; exact hmem.out)])
        clear h58
        go_wp2
        go_ret
        exact ⟨by rw [← HT.out]; rfl, rfl⟩
      · have t1 : ((c.toNat : Int) == 58) = false := beq_eq_false_iff_ne.2 fun e => h58 (UInt8.toNat_inj.1 (by show c.toNat = 58; omega))
        have HN : Hid ((s.data.toList.take (k + 1)).contains 58 = false) := Lib.hid (by rw [hsn.out, hno.out, Bool.false_or]; exact beq_eq_false_iff_ne.2 fun e => h58 e.symm)
        clear h58
        go_wp2
        go_round
        case rel => exact ⟨k + 1, by omega, by go_num, HN⟩
        case measure => simp [intOf]; omega
    · obtain rfl : k = s.size := by omega
      have h1 := hno.out
      rw [take_all s _ (Nat.le_refl _), HA.out] at h1
      have HT := Lib.hid h1
      clear hno h1
      go_wp2
      go_ret
      exact ⟨by rw [HT.out]; rfl, rfl⟩
end code
end Go.Proofs.YtlignmlkoahbmaaGreatDoor.Tgt
