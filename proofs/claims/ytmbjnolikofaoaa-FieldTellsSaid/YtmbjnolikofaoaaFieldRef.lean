/-
  Layer 9 (field): the document's Goes, Join, Put: they answer the same as package field's.
-/
import Derived.Test.YtmbjnolikofaoaaFieldJoin
import Derived.Test.YtmbjnolikofaoaaFieldPut
import Derived.Test.YtmbjnolikofaoaaTextRef
namespace Go.Proofs.Ytmbjnolikofaoaa.Fd
open Go.RowKit Base Txt Tgt

theorem rjoined_eq (v s : ByteArray) : (v ++ ⟨#[32]⟩) ++ trim s = ba (joined v.data.toList s.data.toList) := ba_ext (by
  simp only [joined, ByteArray.data_append, Array.toList_append, List.append_assoc]; rfl)
theorem ba_put_snoc (fs : List Fld) (k : Nat) (h : k < fs.length) : ((((ba (put (fs.take k)) ++ (fs[k]?.getD dflt).1) ++ ⟨#[58, 32]⟩) ++ (fs[k]?.getD dflt).2) ++ ⟨#[13, 10]⟩) = ba (put (fs.take (k + 1))) := ba_ext (by
  rw [show (ba (put (fs.take (k + 1)))).data.toList = put (fs.take (k + 1)) from rfl, put_snoc fs k h]
  generalize fs[k]?.getD dflt = f
  simp [line, ba, ByteArray.data_append])

section code
set_option maxHeartbeats 4000000
set_option maxRecDepth 100000
attribute [local go_sem] Base.some_undef
theorem rgoes_any (s : ByteArray) (p : Nat) (hp : p < 4294967296) (w : World) : Calls Try.prog 16 #[.string s, .int .u32 (p : Nat)] w fun e w' => e = .returned (.bool (goes p s.data.toList)) ∧ w' = w := by
  have HH := Lib.hid (fun w => Qk.rhas_any p hp 13 w)
  unfold goes
  generalize Qk.has p 13 = b at *
  rcases Nat.eq_zero_or_pos s.size with h0 | h0
  · obtain rfl : s = E0 := ba_ext (List.length_eq_zero_iff.1 (by rw [len]; exact h0))
    cases b
    all_goals
      go_enter Try.func16, Try.ntmps16
      go_wp2_with (go_at_call 31; with_reducible refine (HH.out _).mono ?_; rintro e w1 ⟨rfl, hw⟩; rw [hw]; clear hw)
      go_ret
      exact ⟨by rfl, rfl⟩
  · have t0 := first_no s h0
    have HB := Lib.hid (fun w => Oct.rblank_any (s[0].toNat : Int) w)
    rw [blank_is] at HB
    have e1 : (!s.data.toList.isEmpty && Txt.blank (s.data.toList.headD 0)) = Txt.blank s[0] := by
      have hl : s.data.toList = s[0] :: s.data.toList.drop 1 := by
        have hlen : 0 < s.data.toList.length := by rw [len]; exact h0
        rw [← List.drop_zero (l := s.data.toList), List.drop_eq_getElem_cons hlen]; rfl
      rw [hl]; rfl
    rw [e1]
    clear e1
    cases b
    all_goals
      go_enter Try.func16, Try.ntmps16
      go_wp2_with (first
        | (go_at_call 31; with_reducible refine (HH.out _).mono ?_; rintro e w1 ⟨rfl, hw⟩; rw [hw]; clear hw)
        | (go_at_call 32; with_reducible refine (HB.out _).mono ?_; rintro e w1 ⟨rfl, hw⟩; rw [hw]; clear hw))
      go_ret
      exact ⟨by rfl, rfl⟩
theorem rjoin_any (n v s : ByteArray) (w : World) (hs : s.size ≤ 1000000000) (hv : v.size ≤ 1000000000) : Calls Try.prog 18 #[fv n v, .string s] w fun e w' => e = .returned (fv n (ba (joined v.data.toList s.data.toList))) ∧ Below w.heap.size w w' := by
  have HT := Lib.hid (fun w => rtrim_any s w (by unfold maxLen; omega))
  have hT : (trim s).size ≤ s.size := trim_size _ _
  rw [← rjoined_eq]
  generalize trim s = T at *
  have v1 : ¬ 9223372036854775807 < v.size + 1 := by omega
  have v2 : ¬ 9223372036854775807 < v.size + 1 + T.size := by omega
  go_enter Try.func18, Try.ntmps18
  go_wp2_with fail
  go_region_with (go_at_call 23; with_reducible refine (HT.out _).mono ?_; rintro e w1 ⟨rfl, hw⟩; rw [hw]; clear hw)
  all_goals
    go_wp2
    exact bodyPost_ret (v := fv n ((v ++ ⟨#[32]⟩) ++ T)) (by simp [results, Try.results18, go_sem]) rfl ⟨rfl, Base.below_drewN (((Below.refl _ _).alloc (Nat.le_refl _) _).alloc (by simp) _) 1⟩
theorem rput_any (a : Option Addr) (n cap : Nat) (fs : List Fld) (w : World) (hv : Flds w a n fs) (hn : n ≤ 1000000000) (hz : (put fs).length ≤ 1000000000000) :
    Calls Try.prog 22 #[.slice a n cap] w fun e w' => e = .returned (.string (ba (put fs))) ∧ ∃ m, w' = w.drewN m := by
  have HV := Lib.hid hv
  have HL := Lib.hid hv.1
  have HZ := Lib.hid hz
  clear hv hz
  obtain ⟨R, hR⟩ : ∃ R, ba (put fs) = R := ⟨_, rfl⟩
  rw [hR]
  have HR := Lib.hid hR
  clear hR
  go_enter Try.func22, Try.ntmps22
  go_wp2
  go_loopw [3, 4] (fun t i wr => ∃ (k q : Nat) (S : ByteArray), k ≤ n ∧ i = .int .i64 k ∧ t = .string S ∧ wr = w.drewN q ∧ Hid (S = ba (put (fs.take k)))) (fun _ i _ => n - (intOf i).toNat)
  case atStart => exact ⟨0, 0, ⟨#[]⟩, Nat.zero_le _, rfl, rfl, rfl, Lib.hid rfl⟩
  case round =>
    obtain ⟨k, q, S, hk, rfl, rfl, rfl, HS⟩ := hrel
    rcases Nat.lt_or_ge k n with hlt | hge
    · obtain ⟨bl, off, rfl, hbl, hc⟩ := HV.out.2 (by omega)
      obtain ⟨hc0, hc1⟩ := hc k hlt
      have hkl : k < fs.length := by rw [HL.out]; exact hlt
      have hle := put_take_line fs k hkl
      rw [line_length] at hle
      have hz := HZ.out
      have hsz : S.size = (put (fs.take k)).length := by rw [HS.out, ba_size]
      have HN := Lib.hid (ba_put_snoc fs k hkl)
      rw [← HS.out] at HN
      clear hc
      generalize fs[k]?.getD dflt = f at *
      obtain ⟨f0, f1⟩ := f
      simp only at hc0 hc1 hle HN
      have i1 : (k : Int) < (n : Int) := by omega
      have v1 : ¬ 9223372036854775807 < S.size + f0.size := by omega
      have v2 : ¬ 9223372036854775807 < S.size + f0.size + 2 := by omega
      have v3 : ¬ 9223372036854775807 < S.size + f0.size + 2 + f1.size := by omega
      have v4 : ¬ 9223372036854775807 < S.size + f0.size + 2 + f1.size + 2 := by omega
      clear hle hz hsz HS hkl
      go_wp2_with fail
      go_quiet (fail)
      rename_i nq
      go_wp2
      go_roundw
      case rel => first | exact ⟨k + 1, q + nq, _, by omega, by go_num, rfl, (World.drewN_drewN _ _ _).symm ▸ rfl, HN⟩ | exact ⟨k + 1, q + nq, _, by omega, by go_num, rfl, by rw [World.drewN_drewN], HN⟩ | exact ⟨k + 1, q + nq, _, by omega, by go_num, rfl, rfl, HN⟩
      case measure => simp [intOf]; omega
    · obtain rfl : k = n := by omega
      have hput : fs.take k = fs := List.take_of_length_le (by rw [HL.out]; exact Nat.le_refl _)
      have HF := Lib.hid (show S = R by rw [HS.out, hput]; exact HR.out)
      clear hput HS
      go_wp2
      go_ret
      exact ⟨by rw [← HF.out]; rfl, q, rfl⟩
end code
end Go.Proofs.Ytmbjnolikofaoaa.Fd
