/-
  Layer 10 (framing): what package framing's codingWins and Decide answer.
-/
import Derived.Test.YtoakalklbpoknaaDoorFrmBody
namespace Go.Proofs.YtoakalklbpoknaaDoor.Frm
open Go.RowKit Base Txt

section code
set_option maxHeartbeats 4000000
set_option maxRecDepth 10000
attribute [local go_sem] Base.some_undef
theorem wins_any (p : Nat) (hp : p < 4294967296) (minor : Int) (a : Option Addr) (n cap : Nat) (vs : List ByteArray) (b : Option Addr) (m cap2 : Nat) (w : World) (hv : Strs w a n vs) (hr : room vs ≤ 1000000000) :
    Calls Tryd.prog 26 #[.int .u32 (p : Nat), .int .i64 minor, .slice a n cap, .slice b m cap2] w fun e w' => e = .returned (.tuple #[.bool (winsV (Qk.has p 20) (Qk.has p 19) (Qk.has p 21) (Qk.has p 22) minor n m (coding (Qk.has p 17) (Qk.has p 18) vs)).1, .int .i64 (winsV (Qk.has p 20) (Qk.has p 19) (Qk.has p 21) (Qk.has p 22) minor n m (coding (Qk.has p 17) (Qk.has p 18) vs)).2]) ∧ Below w.heap.size w w' := by
  have HC := Lib.hid (coding_any p hp a n cap vs w hv hr)
  have H20 := Lib.hid (fun w => Qk.has_any p hp 20 w)
  have H21 := Lib.hid (fun w => Qk.has_any p hp 21 w)
  have U19 := Lib.hid (fun w => unless_any p hp 19 501 w)
  have U22 := Lib.hid (fun w => unless_any p hp 22 400 w)
  generalize coding (Qk.has p 17) (Qk.has p 18) vs = cod at *
  generalize Qk.has p 20 = td at *
  generalize Qk.has p 21 = tw at *
  have hti : ∀ ti : Bool, (if ti = true then (0 : Int) else 501) = if ti = true then 0 else 501 := fun _ => rfl
  generalize Qk.has p 19 = ti at *
  generalize Qk.has p 22 = lw at *
  clear hv hr hp hti
  obtain ⟨R, hR⟩ : ∃ R, winsV td ti tw lw minor n m cod = R := ⟨_, rfl⟩
  rw [hR]
  unfold winsV at hR
  by_cases hn : n = 0
  · rw [if_pos hn] at hR
    subst hR
    have t0 : ((n : Int) == 0) = true := beq_iff_eq.2 (by omega)
    clear hn
    go_enter Tryd.func26, Tryd.ntmps26
    go_wp2_with fail
    go_ret2
    exact ⟨rfl, Below.refl _ _⟩
  rw [if_neg hn] at hR
  have t0 : ((n : Int) == 0) = false := beq_eq_false_iff_ne.2 (by omega)
  clear hn
  by_cases hO : minor = 0 ∧ td = false
  · obtain ⟨rfl, rfl⟩ := hO
    rw [if_pos (by decide)] at hR
    subst hR
    go_enter Tryd.func26, Tryd.ntmps26
    go_wp2_with (go_at_call 30; with_reducible refine (H20.out _).mono ?_; rintro e w1 ⟨rfl, hw⟩; rw [hw]; clear hw)
    go_ret2
    exact ⟨rfl, Below.refl _ _⟩
  have hO2 : (minor = 0 ∧ td = true) ∨ (minor == 0) = false := by
    by_cases h : minor = 0
    · cases td
      · exact absurd ⟨h, rfl⟩ hO
      · exact .inl ⟨h, rfl⟩
    · exact .inr (beq_eq_false_iff_ne.2 h)
  rw [if_neg (by
    rintro h
    rw [Bool.and_eq_true, decide_eq_true_eq, Bool.not_eq_true'] at h
    exact hO h)] at hR
  clear hO
  cases cod with
  | false =>
    rw [if_pos rfl] at hR
    generalize (if ti = true then (0 : Int) else 501) = E1 at *
    subst hR
    rcases hO2 with ⟨rfl, rfl⟩ | t1
    all_goals
      go_enter Tryd.func26, Tryd.ntmps26
      go_wp2_with (first
        | (go_at_call 30; with_reducible refine (H20.out _).mono ?_; rintro e w1 ⟨rfl, hw⟩; rw [hw]; clear hw)
        | (go_at_call 20; with_reducible refine (HC.out).mono ?_; rintro e w1 ⟨rfl, hb⟩)
        | (go_at_call 29; with_reducible refine (U19.out _).mono ?_; rintro e w2 ⟨rfl, hw⟩; rw [hw]; clear hw))
      go_ret2
      exact ⟨rfl, hb⟩
  | true =>
    rw [if_neg (by decide)] at hR
    by_cases hB : 0 < m ∧ tw = false
    · obtain ⟨h0, rfl⟩ := hB
      rw [if_pos (by rw [decide_eq_true h0]; rfl)] at hR
      generalize (if lw = true then (0 : Int) else 400) = E1 at *
      subst hR
      have t2 : (0 : Int) < (m : Int) := by omega
      clear h0
      rcases hO2 with ⟨rfl, rfl⟩ | t1
      all_goals
        go_enter Tryd.func26, Tryd.ntmps26
        go_wp2_with (first
          | (go_at_call 30; with_reducible refine (H20.out _).mono ?_; rintro e w1 ⟨rfl, hw⟩; rw [hw]; clear hw)
          | (go_at_call 30; with_reducible refine (H21.out _).mono ?_; rintro e w1 ⟨rfl, hw⟩; rw [hw]; clear hw)
          | (go_at_call 20; with_reducible refine (HC.out).mono ?_; rintro e w1 ⟨rfl, hb⟩)
          | (go_at_call 29; with_reducible refine (U22.out _).mono ?_; rintro e w2 ⟨rfl, hw⟩; rw [hw]; clear hw))
        go_ret2
        exact ⟨rfl, hb⟩
    · rw [if_neg (by
        rintro h
        rw [Bool.and_eq_true, decide_eq_true_eq, Bool.not_eq_true'] at h
        exact hB h)] at hR
      subst hR
      have hB2 : (m = 0) ∨ (0 < m ∧ tw = true) := by
        rcases Nat.eq_zero_or_pos m with h | h
        · exact .inl h
        · right
          cases tw
          · exact absurd ⟨h, rfl⟩ hB
          · exact ⟨h, rfl⟩
      clear hB
      rcases hO2 with ⟨rfl, rfl⟩ | t1 <;> rcases hB2 with rfl | ⟨h0, rfl⟩
      all_goals
        try (have t2 : (0 : Int) < (m : Int) := by omega)
        go_enter Tryd.func26, Tryd.ntmps26
        go_wp2_with (first
          | (go_at_call 30; with_reducible refine (H20.out _).mono ?_; rintro e w1 ⟨rfl, hw⟩; rw [hw]; clear hw)
          | (go_at_call 30; with_reducible refine (H21.out _).mono ?_; rintro e w1 ⟨rfl, hw⟩; rw [hw]; clear hw)
          | (go_at_call 20; with_reducible refine (HC.out).mono ?_; rintro e w1 ⟨rfl, hb⟩))
        go_ret2
        exact ⟨rfl, hb⟩

theorem decide_any (p : Nat) (hp : p < 4294967296) (x0 x1 x2 x3 x4 x5 x6 x7 : Int) (ch od : Bool) (hx : x3 ≤ 9223372036854775807) (minor : Int) (a : Option Addr) (n cap : Nat) (fs : List Fld) (w : World) (hv : Flds w a n fs) (hn : n ≤ 10000) (hs : ∀ f ∈ fs, f.1.size ≤ 10000 ∧ f.2.size ≤ 10000) :
    Calls Tryd.prog 14 #[.int .u32 (p : Nat), Bnd.bnd x0 x1 x2 x3 x4 x5 x6 x7 ch od, .int .i64 minor, .slice a n cap] w fun e w' =>
      e = .returned (.tuple #[fr (decideV (clOf p) ch x3 minor fs).1 (decideV (clOf p) ch x3 minor fs).2.1, .int .i64 (decideV (clOf p) ch x3 minor fs).2.2]) ∧ Below w.heap.size w w' := by
  have HV := Lib.hid (fun w' hb => hv.below (w' := w') hb)
  have HH := Lib.hid (fun w' hb => hosts_any p hp minor a n cap fs w' (hv.below (w' := w') hb) (by omega) (fun f hf => by have := hs f hf; omega))
  have HF1 := Lib.hid (fun w' hb => find_at a n cap fs ⟨#[84, 114, 97, 110, 115, 102, 101, 114, 45, 69, 110, 99, 111, 100, 105, 110, 103]⟩ w' (hv.below (w' := w') hb) (by omega) (fun f hf => by have := hs f hf; unfold maxLen; omega))
  have HF2 := Lib.hid (fun w' hb => find_at a n cap fs ⟨#[67, 111, 110, 116, 101, 110, 116, 45, 76, 101, 110, 103, 116, 104]⟩ w' (hv.below (w' := w') hb) (by omega) (fun f hf => by have := hs f hf; unfold maxLen; omega))
  have hrm : ∀ name, room (find fs name) ≤ 1000000000 := fun name => by
    have h1 := room_le (find fs name) 10000 (find_sizes fs name 10000 fun f hf => (hs f hf).2)
    have h2 := find_le fs name
    rw [hv.1] at h2
    have h3 : (find fs name).length * (10000 + 1) ≤ 10000 * 10001 := Nat.mul_le_mul (by omega) (by omega)
    omega
  have hrm1 := hrm ⟨#[84, 114, 97, 110, 115, 102, 101, 114, 45, 69, 110, 99, 111, 100, 105, 110, 103]⟩
  have hrm2 := hrm ⟨#[67, 111, 110, 116, 101, 110, 116, 45, 76, 101, 110, 103, 116, 104]⟩
  obtain ⟨R, hR⟩ : ∃ R, decideV (clOf p) ch x3 minor fs = R := ⟨_, rfl⟩
  rw [hR]
  replace hR : bodyV (hostsV (Qk.has p 15) (Qk.has p 16) minor (find fs ⟨#[72, 111, 115, 116]⟩)) ch
    (winsV (Qk.has p 20) (Qk.has p 19) (Qk.has p 21) (Qk.has p 22) minor (find fs ⟨#[84, 114, 97, 110, 115, 102, 101, 114, 45, 69, 110, 99, 111, 100, 105, 110, 103]⟩).length (find fs ⟨#[67, 111, 110, 116, 101, 110, 116, 45, 76, 101, 110, 103, 116, 104]⟩).length (coding (Qk.has p 17) (Qk.has p 18) (find fs ⟨#[84, 114, 97, 110, 115, 102, 101, 114, 45, 69, 110, 99, 111, 100, 105, 110, 103]⟩)))
    (lengthV (Qk.has p 23) (Qk.has p 24) (Qk.has p 25) (Qk.has p 26) x3 (find fs ⟨#[67, 111, 110, 116, 101, 110, 116, 45, 76, 101, 110, 103, 116, 104]⟩)) = R := hR
  rw [show find fs hostN = find fs ⟨#[72, 111, 115, 116]⟩ from rfl] at HH
  generalize find fs ⟨#[72, 111, 115, 116]⟩ = LH at *
  generalize find fs ⟨#[84, 114, 97, 110, 115, 102, 101, 114, 45, 69, 110, 99, 111, 100, 105, 110, 103]⟩ = LT at *
  generalize find fs ⟨#[67, 111, 110, 116, 101, 110, 116, 45, 76, 101, 110, 103, 116, 104]⟩ = LC at *
  have HW := Lib.hid (fun a' c' b' c2 w' hS => wins_any p hp minor a' LT.length c' LT b' LC.length c2 w' hS hrm1)
  have HL := Lib.hid (fun a' c' w' hS => length_any p hp x3 hx a' LC.length c' LC w' hS hrm2)
  generalize hostsV (Qk.has p 15) (Qk.has p 16) minor LH = Z at *
  generalize winsV (Qk.has p 20) (Qk.has p 19) (Qk.has p 21) (Qk.has p 22) minor LT.length LC.length (coding (Qk.has p 17) (Qk.has p 18) LT) = WV at *
  generalize lengthV (Qk.has p 23) (Qk.has p 24) (Qk.has p 25) (Qk.has p 26) x3 LC = LV at *
  generalize LT.length = nT at *
  generalize LC.length = nC at *
  obtain ⟨wb, we⟩ := WV
  obtain ⟨ln, le⟩ := LV
  unfold bodyV fixedV at hR
  simp only at hR HW HL
  clear hrm hrm1 hrm2 hv hs hp hx hn HV
  have HK0 := Lib.hid (Kp.new w 30 40 x0 x1 x2 x3 x4 x5 x6 x7 ch od)
  by_cases hZ : Z ≠ 0
  · rw [if_pos hZ] at hR
    subst hR
    have tz : (Z == 0) = false := beq_eq_false_iff_ne.2 hZ
    clear hZ
    go_enter Tryd.func14, Tryd.ntmps14
    go_wp2_with (go_at_call 16; (with_reducible refine (HH.out _ HK0.out.b).mono ?_); rintro e w1 ⟨rfl, hb⟩
                 have HK := Lib.hid (HK0.out.step hb)
                 obtain ⟨q3, q8, ⟨c0, c1, z0, z1⟩, hlt, hbk⟩ := HK.out
                 clear hlt hbk hb)
    obtain ⟨W, hW, ⟨d0, d1, _, _⟩, hbW⟩ := Gb.put HK.out.f HK.out.b (Nat.le_succ _) 0 0
    rw [hW]
    exact bodyPost_ret (v := .tuple #[fr 0 0, .int .i64 Z]) (by simp [results, Tryd.results14, go_sem, d0, d1]) rfl ⟨rfl, hbW⟩
  rw [if_neg hZ] at hR
  obtain rfl : Z = 0 := Decidable.not_not.1 hZ
  clear hZ
  by_cases hE : we ≠ 0
  · rw [if_pos hE] at hR
    subst hR
    have tz : (we == 0) = false := beq_eq_false_iff_ne.2 hE
    clear hE
    go_enter Tryd.func14, Tryd.ntmps14
    go_wp2_with (first
      | (go_at_call 26; (with_reducible refine (HW.out _ _ _ _ _ HS1.out).mono ?_); rintro e w4 ⟨rfl, hb⟩
         replace HK := Lib.hid (HK.out.step hb)
         obtain ⟨q3, q8, ⟨c0, c1, z0, z1⟩, hlt, hbk⟩ := HK.out
         clear hlt hbk hb)
      | (go_at_call 25; (with_reducible refine (HF2.out _ HK.out.b).mono ?_); rintro e w3 ⟨b3, k3, rfl, hS, hb⟩
         replace HK := Lib.hid (HK.out.step hb)
         replace HS1 := Lib.hid (HS1.out.below hb)
         clear hS hb)
      | (go_at_call 25; (with_reducible refine (HF1.out _ HK.out.b).mono ?_); rintro e w2 ⟨b2, k2, rfl, hS, hb⟩
         replace HK := Lib.hid (HK.out.step hb)
         have HS1 := Lib.hid hS
         clear hS hb)
      | (go_at_call 16; (with_reducible refine (HH.out _ HK0.out.b).mono ?_); rintro e w1 ⟨rfl, hb⟩
         have HK := Lib.hid (HK0.out.step hb)
         clear hb))
    obtain ⟨W, hW, ⟨d0, d1, _, _⟩, hbW⟩ := Gb.put HK.out.f HK.out.b (Nat.le_succ _) 0 0
    rw [hW]
    exact bodyPost_ret (v := .tuple #[fr 0 0, .int .i64 we]) (by simp [results, Tryd.results14, go_sem, d0, d1]) rfl ⟨rfl, hbW⟩
  rw [if_neg hE] at hR
  obtain rfl : we = 0 := Decidable.not_not.1 hE
  clear hE
  cases wb with
  | true =>
    rw [if_pos rfl] at hR
    cases ch
    all_goals
      first | rw [if_pos rfl] at hR | rw [if_neg (by decide)] at hR
      subst hR
      go_enter Tryd.func14, Tryd.ntmps14
      go_wp2_with (first
        | (go_at_call 26; (with_reducible refine (HW.out _ _ _ _ _ HS1.out).mono ?_); rintro e w4 ⟨rfl, hb⟩
           replace HK := Lib.hid (HK.out.step hb)
           obtain ⟨q3, q8, ⟨c0, c1, z0, z1⟩, hlt, hbk⟩ := HK.out
           clear hlt hbk hb)
        | (go_at_call 25; (with_reducible refine (HF2.out _ HK.out.b).mono ?_); rintro e w3 ⟨b3, k3, rfl, hS, hb⟩
           replace HK := Lib.hid (HK.out.step hb)
           replace HS1 := Lib.hid (HS1.out.below hb)
           clear hS hb)
        | (go_at_call 25; (with_reducible refine (HF1.out _ HK.out.b).mono ?_); rintro e w2 ⟨b2, k2, rfl, hS, hb⟩
           replace HK := Lib.hid (HK.out.step hb)
           have HS1 := Lib.hid hS
           clear hS hb)
        | (go_at_call 16; (with_reducible refine (HH.out _ HK0.out.b).mono ?_); rintro e w1 ⟨rfl, hb⟩
           have HK := Lib.hid (HK0.out.step hb)
           clear hb))
    · obtain ⟨W, hW, ⟨d0, d1, _, _⟩, hbW⟩ := Gb.put HK.out.f HK.out.b (Nat.le_succ _) 0 0
      rw [hW]
      exact bodyPost_ret (v := .tuple #[fr 0 0, .int .i64 501]) (by simp [results, Tryd.results14, go_sem, d0, d1]) rfl ⟨rfl, hbW⟩
    · obtain ⟨W, hW, ⟨d0, d1, _, _⟩, hbW⟩ := Gb.put HK.out.f HK.out.b (Nat.le_succ _) 2 0
      rw [hW]
      exact bodyPost_ret (v := .tuple #[fr 2 0, .int .i64 0]) (by simp [results, Tryd.results14, go_sem, d0, d1]) rfl ⟨rfl, hbW⟩
  | false =>
    rw [if_neg (by decide)] at hR
    have hcase : (le = 0 ∧ R = (1, ln, 0)) ∨ ((le == 0) = false ∧ R = (0, 0, le)) := by
      by_cases h : le = 0
      · rw [if_pos h] at hR; exact .inl ⟨h, hR.symm⟩
      · rw [if_neg h] at hR; exact .inr ⟨beq_eq_false_iff_ne.2 h, hR.symm⟩
    clear hR
    rcases hcase with ⟨rfl, rfl⟩ | ⟨tz, rfl⟩
    all_goals
      go_enter Tryd.func14, Tryd.ntmps14
      go_wp2_with (first
        | (go_at_call 22; (with_reducible refine (HL.out _ _ _ HS2.out).mono ?_); rintro e w5 ⟨rfl, hb⟩
           clear q3 q8
           replace HK := Lib.hid (HK.out.step hb)
           obtain ⟨q3, q8, ⟨c0, c1, z0, z1⟩, hlt, hbk⟩ := HK.out
           clear hlt hbk hb)
        | (go_at_call 26; (with_reducible refine (HW.out _ _ _ _ _ HS1.out).mono ?_); rintro e w4 ⟨rfl, hb⟩
           replace HK := Lib.hid (HK.out.step hb)
           replace HS2 := Lib.hid (HS2.out.below hb)
           obtain ⟨q3, q8, hgb, hlt, hbk⟩ := HK.out
           clear hlt hbk hb hgb)
        | (go_at_call 25; (with_reducible refine (HF2.out _ HK.out.b).mono ?_); rintro e w3 ⟨b3, k3, rfl, hS, hb⟩
           replace HK := Lib.hid (HK.out.step hb)
           replace HS1 := Lib.hid (HS1.out.below hb)
           have HS2 := Lib.hid hS
           clear hS hb)
        | (go_at_call 25; (with_reducible refine (HF1.out _ HK.out.b).mono ?_); rintro e w2 ⟨b2, k2, rfl, hS, hb⟩
           replace HK := Lib.hid (HK.out.step hb)
           have HS1 := Lib.hid hS
           clear hS hb)
        | (go_at_call 16; (with_reducible refine (HH.out _ HK0.out.b).mono ?_); rintro e w1 ⟨rfl, hb⟩
           have HK := Lib.hid (HK0.out.step hb)
           clear hb))
    · obtain ⟨W, hW, ⟨d0, d1, _, _⟩, hbW⟩ := Gb.put HK.out.f HK.out.b (Nat.le_succ _) 1 ln
      rw [hW]
      exact bodyPost_ret (v := .tuple #[fr 1 ln, .int .i64 0]) (by simp [results, Tryd.results14, go_sem, d0, d1]) rfl ⟨rfl, hbW⟩
    · obtain ⟨W, hW, ⟨d0, d1, _, _⟩, hbW⟩ := Gb.put HK.out.f HK.out.b (Nat.le_succ _) 0 0
      rw [hW]
      exact bodyPost_ret (v := .tuple #[fr 0 0, .int .i64 le]) (by simp [results, Tryd.results14, go_sem, d0, d1]) rfl ⟨rfl, hbW⟩
end code
end Go.Proofs.YtoakalklbpoknaaDoor.Frm
