/-
  Layer 10 (framing): what the document's Decide answers. (Printed by tools/gen_rdecide.py.)
-/
import Derived.Test.YtoakalklbpoknaaDoorFrmRDec
namespace Go.Proofs.YtoakalklbpoknaaDoor.Frm
open Go.RowKit Base Txt

section code
set_option maxHeartbeats 8000000
set_option maxRecDepth 10000
attribute [local go_sem] Base.some_undef
theorem rdecide_any (p : Nat) (hp : p < 4294967296) (x0 x1 x2 x3 x4 x5 x6 x7 : Int) (ch od : Bool) (hx : x3 ≤ 9223372036854775807) (minor : Int) (a : Option Addr) (n cap : Nat) (fs : List Fld) (w : World) (hv : Flds w a n fs) (hn : n ≤ 10000) (hs : ∀ f ∈ fs, f.1.size ≤ 10000 ∧ f.2.size ≤ 10000) :
    Calls Tryd.prog 15 #[.int .u32 (p : Nat), Bnd.bnd x0 x1 x2 x3 x4 x5 x6 x7 ch od, .int .i64 minor, .slice a n cap] w fun e w' =>
      e = .returned (.tuple #[fr (decideV (clOf p) ch x3 minor fs).1 (decideV (clOf p) ch x3 minor fs).2.1, .int .i64 (decideV (clOf p) ch x3 minor fs).2.2]) ∧ Below w.heap.size w w' := by
  have HH := Lib.hid (fun w' hb => rhosts_any p hp minor a n cap fs w' (hv.below (w' := w') hb) (by omega) (fun f hf => by have := hs f hf; omega))
  have HF1 := Lib.hid (fun w' hb => rfind_at a n cap fs ⟨#[84, 114, 97, 110, 115, 102, 101, 114, 45, 69, 110, 99, 111, 100, 105, 110, 103]⟩ w' (hv.below (w' := w') hb) (by omega) (fun f hf => by have := hs f hf; omega) (by decide))
  have HF2 := Lib.hid (fun w' hb => rfind_at a n cap fs ⟨#[67, 111, 110, 116, 101, 110, 116, 45, 76, 101, 110, 103, 116, 104]⟩ w' (hv.below (w' := w') hb) (by omega) (fun f hf => by have := hs f hf; omega) (by decide))
  have hrm : ∀ name, room (find fs name) ≤ 1000000000 := fun name => by
    have h1 := room_le (find fs name) 10000 (find_sizes fs name 10000 fun f hf => (hs f hf).2)
    have h2 := find_le fs name
    rw [hv.1] at h2
    have h3 : (find fs name).length * (10000 + 1) ≤ 10000 * 10001 := Nat.mul_le_mul (by omega) (by omega)
    omega
  have hrm1 := hrm ⟨#[84, 114, 97, 110, 115, 102, 101, 114, 45, 69, 110, 99, 111, 100, 105, 110, 103]⟩
  have hrm2 := hrm ⟨#[67, 111, 110, 116, 101, 110, 116, 45, 76, 101, 110, 103, 116, 104]⟩
  have H19 := Lib.hid (fun w => Qk.rhas_any p hp 19 w)
  have H20 := Lib.hid (fun w => Qk.rhas_any p hp 20 w)
  have H21 := Lib.hid (fun w => Qk.rhas_any p hp 21 w)
  have H22 := Lib.hid (fun w => Qk.rhas_any p hp 22 w)
  obtain ⟨R, hR⟩ : ∃ R, decideV (clOf p) ch x3 minor fs = R := ⟨_, rfl⟩
  rw [hR]
  replace hR : bodyV (hostsV (Qk.has p 15) (Qk.has p 16) minor (find fs ⟨#[72, 111, 115, 116]⟩)) ch
    (winsV (Qk.has p 20) (Qk.has p 19) (Qk.has p 21) (Qk.has p 22) minor (find fs ⟨#[84, 114, 97, 110, 115, 102, 101, 114, 45, 69, 110, 99, 111, 100, 105, 110, 103]⟩).length (find fs ⟨#[67, 111, 110, 116, 101, 110, 116, 45, 76, 101, 110, 103, 116, 104]⟩).length (coding (Qk.has p 17) (Qk.has p 18) (find fs ⟨#[84, 114, 97, 110, 115, 102, 101, 114, 45, 69, 110, 99, 111, 100, 105, 110, 103]⟩)))
    (lengthV (Qk.has p 23) (Qk.has p 24) (Qk.has p 25) (Qk.has p 26) x3 (find fs ⟨#[67, 111, 110, 116, 101, 110, 116, 45, 76, 101, 110, 103, 116, 104]⟩)) = R := hR
  rw [show find fs hostN = find fs ⟨#[72, 111, 115, 116]⟩ from rfl] at HH
  generalize find fs ⟨#[72, 111, 115, 116]⟩ = LH at *
  generalize find fs ⟨#[84, 114, 97, 110, 115, 102, 101, 114, 45, 69, 110, 99, 111, 100, 105, 110, 103]⟩ = LT at *
  generalize find fs ⟨#[67, 111, 110, 116, 101, 110, 116, 45, 76, 101, 110, 103, 116, 104]⟩ = LC at *
  have HW := Lib.hid (fun a' c' w' hS => rcoding_any p hp a' LT.length c' LT w' hS hrm1)
  have HL := Lib.hid (fun a' c' w' hS => rlength_any p hp x3 hx a' LC.length c' LC w' hS hrm2)
  generalize hostsV (Qk.has p 15) (Qk.has p 16) minor LH = Z at *
  generalize lengthV (Qk.has p 23) (Qk.has p 24) (Qk.has p 25) (Qk.has p 26) x3 LC = LV at *
  generalize coding (Qk.has p 17) (Qk.has p 18) LT = cod at *
  generalize LT.length = nT at *
  generalize LC.length = nC at *
  generalize Qk.has p 19 = ti at *
  generalize Qk.has p 20 = td at *
  generalize Qk.has p 21 = tw at *
  generalize Qk.has p 22 = lw at *
  obtain ⟨ln, le⟩ := LV
  unfold bodyV fixedV winsV at hR
  simp only at hR HL
  clear hrm hrm1 hrm2 hv hs hp hx hn
  have HK0 := Lib.hid (Kp.new w 30 40 x0 x1 x2 x3 x4 x5 x6 x7 ch od)
  by_cases hZ : Z ≠ 0
  · rw [if_pos hZ] at hR
    subst hR
    have tz : (Z == 0) = false := beq_eq_false_iff_ne.2 hZ
    clear hZ
    go_enter Tryd.func15, Tryd.ntmps15
    go_wp2_with (first
      | (go_at_call 28; with_reducible refine (H19.out _).mono ?_; rintro e w8 ⟨rfl, hw⟩; rw [hw]; clear hw)
      | (go_at_call 28; with_reducible refine (H20.out _).mono ?_; rintro e w8 ⟨rfl, hw⟩; rw [hw]; clear hw)
      | (go_at_call 28; with_reducible refine (H21.out _).mono ?_; rintro e w8 ⟨rfl, hw⟩; rw [hw]; clear hw)
      | (go_at_call 28; with_reducible refine (H22.out _).mono ?_; rintro e w8 ⟨rfl, hw⟩; rw [hw]; clear hw)
      | (go_at_call 23; (with_reducible refine (HL.out _ _ _ HS2.out).mono ?_); rintro e w5 ⟨rfl, hb⟩
         replace HK := Lib.hid (HK.out.step hb)
         (try clear q3 q8 c0 c1 z0 z1)
         obtain ⟨q3, q8, ⟨c0, c1, z0, z1⟩, hlt, hbk⟩ := HK.out
         clear hlt hbk hb)
      | (go_at_call 21; (with_reducible refine (HW.out _ _ _ HS1.out).mono ?_); rintro e w4 ⟨rfl, hb⟩
         replace HK := Lib.hid (HK.out.step hb)
         replace HS1 := Lib.hid (HS1.out.below hb)
         replace HS2 := Lib.hid (HS2.out.below hb)
         (try clear q3 q8 c0 c1 z0 z1)
         obtain ⟨q3, q8, ⟨c0, c1, z0, z1⟩, hlt, hbk⟩ := HK.out
         clear hlt hbk hb)
      | (go_at_call 27; (with_reducible refine (HF2.out _ HK.out.b).mono ?_); rintro e w3 ⟨b3, k3, rfl, hS, hb⟩
         replace HK := Lib.hid (HK.out.step hb)
         replace HS1 := Lib.hid (HS1.out.below hb)
         have HS2 := Lib.hid hS
         clear hS
         (try clear q3 q8 c0 c1 z0 z1)
         obtain ⟨q3, q8, ⟨c0, c1, z0, z1⟩, hlt, hbk⟩ := HK.out
         clear hlt hbk hb)
      | (go_at_call 27; (with_reducible refine (HF1.out _ HK.out.b).mono ?_); rintro e w2 ⟨b2, k2, rfl, hS, hb⟩
         replace HK := Lib.hid (HK.out.step hb)
         have HS1 := Lib.hid hS
         clear hS
         (try clear q3 q8 c0 c1 z0 z1)
         obtain ⟨q3, q8, ⟨c0, c1, z0, z1⟩, hlt, hbk⟩ := HK.out
         clear hlt hbk hb)
      | (go_at_call 17; (with_reducible refine (HH.out _ HK0.out.b).mono ?_); rintro e w1 ⟨rfl, hb⟩
         have HK := Lib.hid (HK0.out.step hb)
         (try clear q3 q8 c0 c1 z0 z1)
         obtain ⟨q3, q8, ⟨c0, c1, z0, z1⟩, hlt, hbk⟩ := HK.out
         clear hlt hbk hb))
    obtain ⟨W, hW, ⟨d0, d1, _, _⟩, hbW⟩ := Gb.put HK.out.f HK.out.b (Nat.le_succ _) 0 0
    rw [hW]
    exact bodyPost_ret (v := .tuple #[fr 0 0, .int .i64 Z]) (by simp [results, Tryd.results15, go_sem, d0, d1]) rfl ⟨rfl, hbW⟩
  rw [if_neg hZ] at hR
  obtain rfl : Z = 0 := Decidable.not_not.1 hZ
  clear hZ
  by_cases hT : nT = 0
  · subst hT
    rw [if_pos rfl] at hR
    rw [if_neg (by decide), if_neg (by decide)] at hR
    have hcase : (le = 0 ∧ R = (1, ln, 0)) ∨ ((le == 0) = false ∧ R = (0, 0, le)) := by
      by_cases h : le = 0
      · rw [if_pos h] at hR; exact .inl ⟨h, hR.symm⟩
      · rw [if_neg h] at hR; exact .inr ⟨beq_eq_false_iff_ne.2 h, hR.symm⟩
    clear hR
    rcases hcase with ⟨rfl, rfl⟩ | ⟨tz, rfl⟩
    · go_enter Tryd.func15, Tryd.ntmps15
      go_wp2_with (first
        | (go_at_call 28; with_reducible refine (H19.out _).mono ?_; rintro e w8 ⟨rfl, hw⟩; rw [hw]; clear hw)
        | (go_at_call 28; with_reducible refine (H20.out _).mono ?_; rintro e w8 ⟨rfl, hw⟩; rw [hw]; clear hw)
        | (go_at_call 28; with_reducible refine (H21.out _).mono ?_; rintro e w8 ⟨rfl, hw⟩; rw [hw]; clear hw)
        | (go_at_call 28; with_reducible refine (H22.out _).mono ?_; rintro e w8 ⟨rfl, hw⟩; rw [hw]; clear hw)
        | (go_at_call 23; (with_reducible refine (HL.out _ _ _ HS2.out).mono ?_); rintro e w5 ⟨rfl, hb⟩
           replace HK := Lib.hid (HK.out.step hb)
           (try clear q3 q8 c0 c1 z0 z1)
           obtain ⟨q3, q8, ⟨c0, c1, z0, z1⟩, hlt, hbk⟩ := HK.out
           clear hlt hbk hb)
        | (go_at_call 21; (with_reducible refine (HW.out _ _ _ HS1.out).mono ?_); rintro e w4 ⟨rfl, hb⟩
           replace HK := Lib.hid (HK.out.step hb)
           replace HS1 := Lib.hid (HS1.out.below hb)
           replace HS2 := Lib.hid (HS2.out.below hb)
           (try clear q3 q8 c0 c1 z0 z1)
           obtain ⟨q3, q8, ⟨c0, c1, z0, z1⟩, hlt, hbk⟩ := HK.out
           clear hlt hbk hb)
        | (go_at_call 27; (with_reducible refine (HF2.out _ HK.out.b).mono ?_); rintro e w3 ⟨b3, k3, rfl, hS, hb⟩
           replace HK := Lib.hid (HK.out.step hb)
           replace HS1 := Lib.hid (HS1.out.below hb)
           have HS2 := Lib.hid hS
           clear hS
           (try clear q3 q8 c0 c1 z0 z1)
           obtain ⟨q3, q8, ⟨c0, c1, z0, z1⟩, hlt, hbk⟩ := HK.out
           clear hlt hbk hb)
        | (go_at_call 27; (with_reducible refine (HF1.out _ HK.out.b).mono ?_); rintro e w2 ⟨b2, k2, rfl, hS, hb⟩
           replace HK := Lib.hid (HK.out.step hb)
           have HS1 := Lib.hid hS
           clear hS
           (try clear q3 q8 c0 c1 z0 z1)
           obtain ⟨q3, q8, ⟨c0, c1, z0, z1⟩, hlt, hbk⟩ := HK.out
           clear hlt hbk hb)
        | (go_at_call 17; (with_reducible refine (HH.out _ HK0.out.b).mono ?_); rintro e w1 ⟨rfl, hb⟩
           have HK := Lib.hid (HK0.out.step hb)
           (try clear q3 q8 c0 c1 z0 z1)
           obtain ⟨q3, q8, ⟨c0, c1, z0, z1⟩, hlt, hbk⟩ := HK.out
           clear hlt hbk hb))
      obtain ⟨W, hW, ⟨d0, d1, _, _⟩, hbW⟩ := Gb.put HK.out.f HK.out.b (Nat.le_succ _) 1 ln
      rw [hW]
      exact bodyPost_ret (v := .tuple #[fr 1 ln, .int .i64 0]) (by simp [results, Tryd.results15, go_sem, d0, d1]) rfl ⟨rfl, hbW⟩
    · go_enter Tryd.func15, Tryd.ntmps15
      go_wp2_with (first
        | (go_at_call 28; with_reducible refine (H19.out _).mono ?_; rintro e w8 ⟨rfl, hw⟩; rw [hw]; clear hw)
        | (go_at_call 28; with_reducible refine (H20.out _).mono ?_; rintro e w8 ⟨rfl, hw⟩; rw [hw]; clear hw)
        | (go_at_call 28; with_reducible refine (H21.out _).mono ?_; rintro e w8 ⟨rfl, hw⟩; rw [hw]; clear hw)
        | (go_at_call 28; with_reducible refine (H22.out _).mono ?_; rintro e w8 ⟨rfl, hw⟩; rw [hw]; clear hw)
        | (go_at_call 23; (with_reducible refine (HL.out _ _ _ HS2.out).mono ?_); rintro e w5 ⟨rfl, hb⟩
           replace HK := Lib.hid (HK.out.step hb)
           (try clear q3 q8 c0 c1 z0 z1)
           obtain ⟨q3, q8, ⟨c0, c1, z0, z1⟩, hlt, hbk⟩ := HK.out
           clear hlt hbk hb)
        | (go_at_call 21; (with_reducible refine (HW.out _ _ _ HS1.out).mono ?_); rintro e w4 ⟨rfl, hb⟩
           replace HK := Lib.hid (HK.out.step hb)
           replace HS1 := Lib.hid (HS1.out.below hb)
           replace HS2 := Lib.hid (HS2.out.below hb)
           (try clear q3 q8 c0 c1 z0 z1)
           obtain ⟨q3, q8, ⟨c0, c1, z0, z1⟩, hlt, hbk⟩ := HK.out
           clear hlt hbk hb)
        | (go_at_call 27; (with_reducible refine (HF2.out _ HK.out.b).mono ?_); rintro e w3 ⟨b3, k3, rfl, hS, hb⟩
           replace HK := Lib.hid (HK.out.step hb)
           replace HS1 := Lib.hid (HS1.out.below hb)
           have HS2 := Lib.hid hS
           clear hS
           (try clear q3 q8 c0 c1 z0 z1)
           obtain ⟨q3, q8, ⟨c0, c1, z0, z1⟩, hlt, hbk⟩ := HK.out
           clear hlt hbk hb)
        | (go_at_call 27; (with_reducible refine (HF1.out _ HK.out.b).mono ?_); rintro e w2 ⟨b2, k2, rfl, hS, hb⟩
           replace HK := Lib.hid (HK.out.step hb)
           have HS1 := Lib.hid hS
           clear hS
           (try clear q3 q8 c0 c1 z0 z1)
           obtain ⟨q3, q8, ⟨c0, c1, z0, z1⟩, hlt, hbk⟩ := HK.out
           clear hlt hbk hb)
        | (go_at_call 17; (with_reducible refine (HH.out _ HK0.out.b).mono ?_); rintro e w1 ⟨rfl, hb⟩
           have HK := Lib.hid (HK0.out.step hb)
           (try clear q3 q8 c0 c1 z0 z1)
           obtain ⟨q3, q8, ⟨c0, c1, z0, z1⟩, hlt, hbk⟩ := HK.out
           clear hlt hbk hb))
      obtain ⟨W, hW, ⟨d0, d1, _, _⟩, hbW⟩ := Gb.put HK.out.f HK.out.b (Nat.le_succ _) 0 0
      rw [hW]
      exact bodyPost_ret (v := .tuple #[fr 0 0, .int .i64 le]) (by simp [results, Tryd.results15, go_sem, d0, d1]) rfl ⟨rfl, hbW⟩
  rw [if_neg hT] at hR
  have tT : (0 : Int) < (nT : Int) := by omega
  clear hT
  by_cases hO : minor = 0 ∧ td = false
  · obtain ⟨rfl, rfl⟩ := hO
    rw [if_pos (show (decide ((0 : Int) = 0) && !false) = true from rfl), if_pos (by decide)] at hR
    subst hR
    go_enter Tryd.func15, Tryd.ntmps15
    go_wp2_with (first
      | (go_at_call 28; with_reducible refine (H19.out _).mono ?_; rintro e w8 ⟨rfl, hw⟩; rw [hw]; clear hw)
      | (go_at_call 28; with_reducible refine (H20.out _).mono ?_; rintro e w8 ⟨rfl, hw⟩; rw [hw]; clear hw)
      | (go_at_call 28; with_reducible refine (H21.out _).mono ?_; rintro e w8 ⟨rfl, hw⟩; rw [hw]; clear hw)
      | (go_at_call 28; with_reducible refine (H22.out _).mono ?_; rintro e w8 ⟨rfl, hw⟩; rw [hw]; clear hw)
      | (go_at_call 23; (with_reducible refine (HL.out _ _ _ HS2.out).mono ?_); rintro e w5 ⟨rfl, hb⟩
         replace HK := Lib.hid (HK.out.step hb)
         (try clear q3 q8 c0 c1 z0 z1)
         obtain ⟨q3, q8, ⟨c0, c1, z0, z1⟩, hlt, hbk⟩ := HK.out
         clear hlt hbk hb)
      | (go_at_call 21; (with_reducible refine (HW.out _ _ _ HS1.out).mono ?_); rintro e w4 ⟨rfl, hb⟩
         replace HK := Lib.hid (HK.out.step hb)
         replace HS1 := Lib.hid (HS1.out.below hb)
         replace HS2 := Lib.hid (HS2.out.below hb)
         (try clear q3 q8 c0 c1 z0 z1)
         obtain ⟨q3, q8, ⟨c0, c1, z0, z1⟩, hlt, hbk⟩ := HK.out
         clear hlt hbk hb)
      | (go_at_call 27; (with_reducible refine (HF2.out _ HK.out.b).mono ?_); rintro e w3 ⟨b3, k3, rfl, hS, hb⟩
         replace HK := Lib.hid (HK.out.step hb)
         replace HS1 := Lib.hid (HS1.out.below hb)
         have HS2 := Lib.hid hS
         clear hS
         (try clear q3 q8 c0 c1 z0 z1)
         obtain ⟨q3, q8, ⟨c0, c1, z0, z1⟩, hlt, hbk⟩ := HK.out
         clear hlt hbk hb)
      | (go_at_call 27; (with_reducible refine (HF1.out _ HK.out.b).mono ?_); rintro e w2 ⟨b2, k2, rfl, hS, hb⟩
         replace HK := Lib.hid (HK.out.step hb)
         have HS1 := Lib.hid hS
         clear hS
         (try clear q3 q8 c0 c1 z0 z1)
         obtain ⟨q3, q8, ⟨c0, c1, z0, z1⟩, hlt, hbk⟩ := HK.out
         clear hlt hbk hb)
      | (go_at_call 17; (with_reducible refine (HH.out _ HK0.out.b).mono ?_); rintro e w1 ⟨rfl, hb⟩
         have HK := Lib.hid (HK0.out.step hb)
         (try clear q3 q8 c0 c1 z0 z1)
         obtain ⟨q3, q8, ⟨c0, c1, z0, z1⟩, hlt, hbk⟩ := HK.out
         clear hlt hbk hb))
    obtain ⟨W, hW, ⟨d0, d1, _, _⟩, hbW⟩ := Gb.put HK.out.f HK.out.b (Nat.le_succ _) 0 0
    rw [hW]
    exact bodyPost_ret (v := .tuple #[fr 0 0, .int .i64 400]) (by simp [results, Tryd.results15, go_sem, d0, d1]) rfl ⟨rfl, hbW⟩
  have hO2 : (minor = 0 ∧ td = true) ∨ (minor == 0) = false := by
    by_cases h : minor = 0
    · cases td
      · exact absurd ⟨h, rfl⟩ hO
      · exact .inl ⟨h, rfl⟩
    · exact .inr (beq_eq_false_iff_ne.2 h)
  rw [if_neg (show ¬ (decide (minor = 0) && !td) = true by
    rintro h
    rw [Bool.and_eq_true, decide_eq_true_eq, Bool.not_eq_true'] at h
    exact hO h)] at hR
  clear hO
  cases cod with
  | false =>
    rw [if_pos (show false = false from rfl)] at hR
    cases ti with
    | false =>
      rw [if_neg (show ¬ false = true by decide)] at hR
      rw [if_pos (by decide)] at hR
      subst hR
      rcases hO2 with ⟨rfl, rfl⟩ | t1
      all_goals
        go_enter Tryd.func15, Tryd.ntmps15
        go_wp2_with (first
          | (go_at_call 28; with_reducible refine (H19.out _).mono ?_; rintro e w8 ⟨rfl, hw⟩; rw [hw]; clear hw)
          | (go_at_call 28; with_reducible refine (H20.out _).mono ?_; rintro e w8 ⟨rfl, hw⟩; rw [hw]; clear hw)
          | (go_at_call 28; with_reducible refine (H21.out _).mono ?_; rintro e w8 ⟨rfl, hw⟩; rw [hw]; clear hw)
          | (go_at_call 28; with_reducible refine (H22.out _).mono ?_; rintro e w8 ⟨rfl, hw⟩; rw [hw]; clear hw)
          | (go_at_call 23; (with_reducible refine (HL.out _ _ _ HS2.out).mono ?_); rintro e w5 ⟨rfl, hb⟩
             replace HK := Lib.hid (HK.out.step hb)
             (try clear q3 q8 c0 c1 z0 z1)
             obtain ⟨q3, q8, ⟨c0, c1, z0, z1⟩, hlt, hbk⟩ := HK.out
             clear hlt hbk hb)
          | (go_at_call 21; (with_reducible refine (HW.out _ _ _ HS1.out).mono ?_); rintro e w4 ⟨rfl, hb⟩
             replace HK := Lib.hid (HK.out.step hb)
             replace HS1 := Lib.hid (HS1.out.below hb)
             replace HS2 := Lib.hid (HS2.out.below hb)
             (try clear q3 q8 c0 c1 z0 z1)
             obtain ⟨q3, q8, ⟨c0, c1, z0, z1⟩, hlt, hbk⟩ := HK.out
             clear hlt hbk hb)
          | (go_at_call 27; (with_reducible refine (HF2.out _ HK.out.b).mono ?_); rintro e w3 ⟨b3, k3, rfl, hS, hb⟩
             replace HK := Lib.hid (HK.out.step hb)
             replace HS1 := Lib.hid (HS1.out.below hb)
             have HS2 := Lib.hid hS
             clear hS
             (try clear q3 q8 c0 c1 z0 z1)
             obtain ⟨q3, q8, ⟨c0, c1, z0, z1⟩, hlt, hbk⟩ := HK.out
             clear hlt hbk hb)
          | (go_at_call 27; (with_reducible refine (HF1.out _ HK.out.b).mono ?_); rintro e w2 ⟨b2, k2, rfl, hS, hb⟩
             replace HK := Lib.hid (HK.out.step hb)
             have HS1 := Lib.hid hS
             clear hS
             (try clear q3 q8 c0 c1 z0 z1)
             obtain ⟨q3, q8, ⟨c0, c1, z0, z1⟩, hlt, hbk⟩ := HK.out
             clear hlt hbk hb)
          | (go_at_call 17; (with_reducible refine (HH.out _ HK0.out.b).mono ?_); rintro e w1 ⟨rfl, hb⟩
             have HK := Lib.hid (HK0.out.step hb)
             (try clear q3 q8 c0 c1 z0 z1)
             obtain ⟨q3, q8, ⟨c0, c1, z0, z1⟩, hlt, hbk⟩ := HK.out
             clear hlt hbk hb))
        obtain ⟨W, hW, ⟨d0, d1, _, _⟩, hbW⟩ := Gb.put HK.out.f HK.out.b (Nat.le_succ _) 0 0
        rw [hW]
        exact bodyPost_ret (v := .tuple #[fr 0 0, .int .i64 501]) (by simp [results, Tryd.results15, go_sem, d0, d1]) rfl ⟨rfl, hbW⟩
    | true =>
      rw [if_pos (show true = true from rfl), if_neg (by decide), if_neg (by decide)] at hR
      rcases hO2 with ⟨rfl, rfl⟩ | t1
      all_goals
        have hcase : (le = 0 ∧ R = (1, ln, 0)) ∨ ((le == 0) = false ∧ R = (0, 0, le)) := by
          by_cases h : le = 0
          · rw [if_pos h] at hR; exact .inl ⟨h, hR.symm⟩
          · rw [if_neg h] at hR; exact .inr ⟨beq_eq_false_iff_ne.2 h, hR.symm⟩
        clear hR
        rcases hcase with ⟨rfl, rfl⟩ | ⟨tz, rfl⟩
        · go_enter Tryd.func15, Tryd.ntmps15
          go_wp2_with (first
            | (go_at_call 28; with_reducible refine (H19.out _).mono ?_; rintro e w8 ⟨rfl, hw⟩; rw [hw]; clear hw)
            | (go_at_call 28; with_reducible refine (H20.out _).mono ?_; rintro e w8 ⟨rfl, hw⟩; rw [hw]; clear hw)
            | (go_at_call 28; with_reducible refine (H21.out _).mono ?_; rintro e w8 ⟨rfl, hw⟩; rw [hw]; clear hw)
            | (go_at_call 28; with_reducible refine (H22.out _).mono ?_; rintro e w8 ⟨rfl, hw⟩; rw [hw]; clear hw)
            | (go_at_call 23; (with_reducible refine (HL.out _ _ _ HS2.out).mono ?_); rintro e w5 ⟨rfl, hb⟩
               replace HK := Lib.hid (HK.out.step hb)
               (try clear q3 q8 c0 c1 z0 z1)
               obtain ⟨q3, q8, ⟨c0, c1, z0, z1⟩, hlt, hbk⟩ := HK.out
               clear hlt hbk hb)
            | (go_at_call 21; (with_reducible refine (HW.out _ _ _ HS1.out).mono ?_); rintro e w4 ⟨rfl, hb⟩
               replace HK := Lib.hid (HK.out.step hb)
               replace HS1 := Lib.hid (HS1.out.below hb)
               replace HS2 := Lib.hid (HS2.out.below hb)
               (try clear q3 q8 c0 c1 z0 z1)
               obtain ⟨q3, q8, ⟨c0, c1, z0, z1⟩, hlt, hbk⟩ := HK.out
               clear hlt hbk hb)
            | (go_at_call 27; (with_reducible refine (HF2.out _ HK.out.b).mono ?_); rintro e w3 ⟨b3, k3, rfl, hS, hb⟩
               replace HK := Lib.hid (HK.out.step hb)
               replace HS1 := Lib.hid (HS1.out.below hb)
               have HS2 := Lib.hid hS
               clear hS
               (try clear q3 q8 c0 c1 z0 z1)
               obtain ⟨q3, q8, ⟨c0, c1, z0, z1⟩, hlt, hbk⟩ := HK.out
               clear hlt hbk hb)
            | (go_at_call 27; (with_reducible refine (HF1.out _ HK.out.b).mono ?_); rintro e w2 ⟨b2, k2, rfl, hS, hb⟩
               replace HK := Lib.hid (HK.out.step hb)
               have HS1 := Lib.hid hS
               clear hS
               (try clear q3 q8 c0 c1 z0 z1)
               obtain ⟨q3, q8, ⟨c0, c1, z0, z1⟩, hlt, hbk⟩ := HK.out
               clear hlt hbk hb)
            | (go_at_call 17; (with_reducible refine (HH.out _ HK0.out.b).mono ?_); rintro e w1 ⟨rfl, hb⟩
               have HK := Lib.hid (HK0.out.step hb)
               (try clear q3 q8 c0 c1 z0 z1)
               obtain ⟨q3, q8, ⟨c0, c1, z0, z1⟩, hlt, hbk⟩ := HK.out
               clear hlt hbk hb))
          obtain ⟨W, hW, ⟨d0, d1, _, _⟩, hbW⟩ := Gb.put HK.out.f HK.out.b (Nat.le_succ _) 1 ln
          rw [hW]
          exact bodyPost_ret (v := .tuple #[fr 1 ln, .int .i64 0]) (by simp [results, Tryd.results15, go_sem, d0, d1]) rfl ⟨rfl, hbW⟩
        · go_enter Tryd.func15, Tryd.ntmps15
          go_wp2_with (first
            | (go_at_call 28; with_reducible refine (H19.out _).mono ?_; rintro e w8 ⟨rfl, hw⟩; rw [hw]; clear hw)
            | (go_at_call 28; with_reducible refine (H20.out _).mono ?_; rintro e w8 ⟨rfl, hw⟩; rw [hw]; clear hw)
            | (go_at_call 28; with_reducible refine (H21.out _).mono ?_; rintro e w8 ⟨rfl, hw⟩; rw [hw]; clear hw)
            | (go_at_call 28; with_reducible refine (H22.out _).mono ?_; rintro e w8 ⟨rfl, hw⟩; rw [hw]; clear hw)
            | (go_at_call 23; (with_reducible refine (HL.out _ _ _ HS2.out).mono ?_); rintro e w5 ⟨rfl, hb⟩
               replace HK := Lib.hid (HK.out.step hb)
               (try clear q3 q8 c0 c1 z0 z1)
               obtain ⟨q3, q8, ⟨c0, c1, z0, z1⟩, hlt, hbk⟩ := HK.out
               clear hlt hbk hb)
            | (go_at_call 21; (with_reducible refine (HW.out _ _ _ HS1.out).mono ?_); rintro e w4 ⟨rfl, hb⟩
               replace HK := Lib.hid (HK.out.step hb)
               replace HS1 := Lib.hid (HS1.out.below hb)
               replace HS2 := Lib.hid (HS2.out.below hb)
               (try clear q3 q8 c0 c1 z0 z1)
               obtain ⟨q3, q8, ⟨c0, c1, z0, z1⟩, hlt, hbk⟩ := HK.out
               clear hlt hbk hb)
            | (go_at_call 27; (with_reducible refine (HF2.out _ HK.out.b).mono ?_); rintro e w3 ⟨b3, k3, rfl, hS, hb⟩
               replace HK := Lib.hid (HK.out.step hb)
               replace HS1 := Lib.hid (HS1.out.below hb)
               have HS2 := Lib.hid hS
               clear hS
               (try clear q3 q8 c0 c1 z0 z1)
               obtain ⟨q3, q8, ⟨c0, c1, z0, z1⟩, hlt, hbk⟩ := HK.out
               clear hlt hbk hb)
            | (go_at_call 27; (with_reducible refine (HF1.out _ HK.out.b).mono ?_); rintro e w2 ⟨b2, k2, rfl, hS, hb⟩
               replace HK := Lib.hid (HK.out.step hb)
               have HS1 := Lib.hid hS
               clear hS
               (try clear q3 q8 c0 c1 z0 z1)
               obtain ⟨q3, q8, ⟨c0, c1, z0, z1⟩, hlt, hbk⟩ := HK.out
               clear hlt hbk hb)
            | (go_at_call 17; (with_reducible refine (HH.out _ HK0.out.b).mono ?_); rintro e w1 ⟨rfl, hb⟩
               have HK := Lib.hid (HK0.out.step hb)
               (try clear q3 q8 c0 c1 z0 z1)
               obtain ⟨q3, q8, ⟨c0, c1, z0, z1⟩, hlt, hbk⟩ := HK.out
               clear hlt hbk hb))
          obtain ⟨W, hW, ⟨d0, d1, _, _⟩, hbW⟩ := Gb.put HK.out.f HK.out.b (Nat.le_succ _) 0 0
          rw [hW]
          exact bodyPost_ret (v := .tuple #[fr 0 0, .int .i64 le]) (by simp [results, Tryd.results15, go_sem, d0, d1]) rfl ⟨rfl, hbW⟩
  | true =>
    rw [if_neg (show ¬ true = false by decide)] at hR
    by_cases hB : 0 < nC ∧ tw = false
    · obtain ⟨h0, rfl⟩ := hB
      rw [if_pos (show (decide (0 < nC) && !false) = true by rw [decide_eq_true h0]; rfl)] at hR
      have t2 : ((nC : Int) == 0) = false := beq_eq_false_iff_ne.2 (by omega)
      clear h0
      cases lw with
      | false =>
        rw [if_neg (show ¬ false = true by decide)] at hR
        rw [if_pos (by decide)] at hR
        subst hR
        rcases hO2 with ⟨rfl, rfl⟩ | t1
        all_goals
          go_enter Tryd.func15, Tryd.ntmps15
          go_wp2_with (first
            | (go_at_call 28; with_reducible refine (H19.out _).mono ?_; rintro e w8 ⟨rfl, hw⟩; rw [hw]; clear hw)
            | (go_at_call 28; with_reducible refine (H20.out _).mono ?_; rintro e w8 ⟨rfl, hw⟩; rw [hw]; clear hw)
            | (go_at_call 28; with_reducible refine (H21.out _).mono ?_; rintro e w8 ⟨rfl, hw⟩; rw [hw]; clear hw)
            | (go_at_call 28; with_reducible refine (H22.out _).mono ?_; rintro e w8 ⟨rfl, hw⟩; rw [hw]; clear hw)
            | (go_at_call 23; (with_reducible refine (HL.out _ _ _ HS2.out).mono ?_); rintro e w5 ⟨rfl, hb⟩
               replace HK := Lib.hid (HK.out.step hb)
               (try clear q3 q8 c0 c1 z0 z1)
               obtain ⟨q3, q8, ⟨c0, c1, z0, z1⟩, hlt, hbk⟩ := HK.out
               clear hlt hbk hb)
            | (go_at_call 21; (with_reducible refine (HW.out _ _ _ HS1.out).mono ?_); rintro e w4 ⟨rfl, hb⟩
               replace HK := Lib.hid (HK.out.step hb)
               replace HS1 := Lib.hid (HS1.out.below hb)
               replace HS2 := Lib.hid (HS2.out.below hb)
               (try clear q3 q8 c0 c1 z0 z1)
               obtain ⟨q3, q8, ⟨c0, c1, z0, z1⟩, hlt, hbk⟩ := HK.out
               clear hlt hbk hb)
            | (go_at_call 27; (with_reducible refine (HF2.out _ HK.out.b).mono ?_); rintro e w3 ⟨b3, k3, rfl, hS, hb⟩
               replace HK := Lib.hid (HK.out.step hb)
               replace HS1 := Lib.hid (HS1.out.below hb)
               have HS2 := Lib.hid hS
               clear hS
               (try clear q3 q8 c0 c1 z0 z1)
               obtain ⟨q3, q8, ⟨c0, c1, z0, z1⟩, hlt, hbk⟩ := HK.out
               clear hlt hbk hb)
            | (go_at_call 27; (with_reducible refine (HF1.out _ HK.out.b).mono ?_); rintro e w2 ⟨b2, k2, rfl, hS, hb⟩
               replace HK := Lib.hid (HK.out.step hb)
               have HS1 := Lib.hid hS
               clear hS
               (try clear q3 q8 c0 c1 z0 z1)
               obtain ⟨q3, q8, ⟨c0, c1, z0, z1⟩, hlt, hbk⟩ := HK.out
               clear hlt hbk hb)
            | (go_at_call 17; (with_reducible refine (HH.out _ HK0.out.b).mono ?_); rintro e w1 ⟨rfl, hb⟩
               have HK := Lib.hid (HK0.out.step hb)
               (try clear q3 q8 c0 c1 z0 z1)
               obtain ⟨q3, q8, ⟨c0, c1, z0, z1⟩, hlt, hbk⟩ := HK.out
               clear hlt hbk hb))
          obtain ⟨W, hW, ⟨d0, d1, _, _⟩, hbW⟩ := Gb.put HK.out.f HK.out.b (Nat.le_succ _) 0 0
          rw [hW]
          exact bodyPost_ret (v := .tuple #[fr 0 0, .int .i64 400]) (by simp [results, Tryd.results15, go_sem, d0, d1]) rfl ⟨rfl, hbW⟩
      | true =>
        rw [if_pos (show true = true from rfl), if_neg (by decide), if_neg (by decide)] at hR
        rcases hO2 with ⟨rfl, rfl⟩ | t1
        all_goals
          have hcase : (le = 0 ∧ R = (1, ln, 0)) ∨ ((le == 0) = false ∧ R = (0, 0, le)) := by
            by_cases h : le = 0
            · rw [if_pos h] at hR; exact .inl ⟨h, hR.symm⟩
            · rw [if_neg h] at hR; exact .inr ⟨beq_eq_false_iff_ne.2 h, hR.symm⟩
          clear hR
          rcases hcase with ⟨rfl, rfl⟩ | ⟨tz, rfl⟩
          · go_enter Tryd.func15, Tryd.ntmps15
            go_wp2_with (first
              | (go_at_call 28; with_reducible refine (H19.out _).mono ?_; rintro e w8 ⟨rfl, hw⟩; rw [hw]; clear hw)
              | (go_at_call 28; with_reducible refine (H20.out _).mono ?_; rintro e w8 ⟨rfl, hw⟩; rw [hw]; clear hw)
              | (go_at_call 28; with_reducible refine (H21.out _).mono ?_; rintro e w8 ⟨rfl, hw⟩; rw [hw]; clear hw)
              | (go_at_call 28; with_reducible refine (H22.out _).mono ?_; rintro e w8 ⟨rfl, hw⟩; rw [hw]; clear hw)
              | (go_at_call 23; (with_reducible refine (HL.out _ _ _ HS2.out).mono ?_); rintro e w5 ⟨rfl, hb⟩
                 replace HK := Lib.hid (HK.out.step hb)
                 (try clear q3 q8 c0 c1 z0 z1)
                 obtain ⟨q3, q8, ⟨c0, c1, z0, z1⟩, hlt, hbk⟩ := HK.out
                 clear hlt hbk hb)
              | (go_at_call 21; (with_reducible refine (HW.out _ _ _ HS1.out).mono ?_); rintro e w4 ⟨rfl, hb⟩
                 replace HK := Lib.hid (HK.out.step hb)
                 replace HS1 := Lib.hid (HS1.out.below hb)
                 replace HS2 := Lib.hid (HS2.out.below hb)
                 (try clear q3 q8 c0 c1 z0 z1)
                 obtain ⟨q3, q8, ⟨c0, c1, z0, z1⟩, hlt, hbk⟩ := HK.out
                 clear hlt hbk hb)
              | (go_at_call 27; (with_reducible refine (HF2.out _ HK.out.b).mono ?_); rintro e w3 ⟨b3, k3, rfl, hS, hb⟩
                 replace HK := Lib.hid (HK.out.step hb)
                 replace HS1 := Lib.hid (HS1.out.below hb)
                 have HS2 := Lib.hid hS
                 clear hS
                 (try clear q3 q8 c0 c1 z0 z1)
                 obtain ⟨q3, q8, ⟨c0, c1, z0, z1⟩, hlt, hbk⟩ := HK.out
                 clear hlt hbk hb)
              | (go_at_call 27; (with_reducible refine (HF1.out _ HK.out.b).mono ?_); rintro e w2 ⟨b2, k2, rfl, hS, hb⟩
                 replace HK := Lib.hid (HK.out.step hb)
                 have HS1 := Lib.hid hS
                 clear hS
                 (try clear q3 q8 c0 c1 z0 z1)
                 obtain ⟨q3, q8, ⟨c0, c1, z0, z1⟩, hlt, hbk⟩ := HK.out
                 clear hlt hbk hb)
              | (go_at_call 17; (with_reducible refine (HH.out _ HK0.out.b).mono ?_); rintro e w1 ⟨rfl, hb⟩
                 have HK := Lib.hid (HK0.out.step hb)
                 (try clear q3 q8 c0 c1 z0 z1)
                 obtain ⟨q3, q8, ⟨c0, c1, z0, z1⟩, hlt, hbk⟩ := HK.out
                 clear hlt hbk hb))
            obtain ⟨W, hW, ⟨d0, d1, _, _⟩, hbW⟩ := Gb.put HK.out.f HK.out.b (Nat.le_succ _) 1 ln
            rw [hW]
            exact bodyPost_ret (v := .tuple #[fr 1 ln, .int .i64 0]) (by simp [results, Tryd.results15, go_sem, d0, d1]) rfl ⟨rfl, hbW⟩
          · go_enter Tryd.func15, Tryd.ntmps15
            go_wp2_with (first
              | (go_at_call 28; with_reducible refine (H19.out _).mono ?_; rintro e w8 ⟨rfl, hw⟩; rw [hw]; clear hw)
              | (go_at_call 28; with_reducible refine (H20.out _).mono ?_; rintro e w8 ⟨rfl, hw⟩; rw [hw]; clear hw)
              | (go_at_call 28; with_reducible refine (H21.out _).mono ?_; rintro e w8 ⟨rfl, hw⟩; rw [hw]; clear hw)
              | (go_at_call 28; with_reducible refine (H22.out _).mono ?_; rintro e w8 ⟨rfl, hw⟩; rw [hw]; clear hw)
              | (go_at_call 23; (with_reducible refine (HL.out _ _ _ HS2.out).mono ?_); rintro e w5 ⟨rfl, hb⟩
                 replace HK := Lib.hid (HK.out.step hb)
                 (try clear q3 q8 c0 c1 z0 z1)
                 obtain ⟨q3, q8, ⟨c0, c1, z0, z1⟩, hlt, hbk⟩ := HK.out
                 clear hlt hbk hb)
              | (go_at_call 21; (with_reducible refine (HW.out _ _ _ HS1.out).mono ?_); rintro e w4 ⟨rfl, hb⟩
                 replace HK := Lib.hid (HK.out.step hb)
                 replace HS1 := Lib.hid (HS1.out.below hb)
                 replace HS2 := Lib.hid (HS2.out.below hb)
                 (try clear q3 q8 c0 c1 z0 z1)
                 obtain ⟨q3, q8, ⟨c0, c1, z0, z1⟩, hlt, hbk⟩ := HK.out
                 clear hlt hbk hb)
              | (go_at_call 27; (with_reducible refine (HF2.out _ HK.out.b).mono ?_); rintro e w3 ⟨b3, k3, rfl, hS, hb⟩
                 replace HK := Lib.hid (HK.out.step hb)
                 replace HS1 := Lib.hid (HS1.out.below hb)
                 have HS2 := Lib.hid hS
                 clear hS
                 (try clear q3 q8 c0 c1 z0 z1)
                 obtain ⟨q3, q8, ⟨c0, c1, z0, z1⟩, hlt, hbk⟩ := HK.out
                 clear hlt hbk hb)
              | (go_at_call 27; (with_reducible refine (HF1.out _ HK.out.b).mono ?_); rintro e w2 ⟨b2, k2, rfl, hS, hb⟩
                 replace HK := Lib.hid (HK.out.step hb)
                 have HS1 := Lib.hid hS
                 clear hS
                 (try clear q3 q8 c0 c1 z0 z1)
                 obtain ⟨q3, q8, ⟨c0, c1, z0, z1⟩, hlt, hbk⟩ := HK.out
                 clear hlt hbk hb)
              | (go_at_call 17; (with_reducible refine (HH.out _ HK0.out.b).mono ?_); rintro e w1 ⟨rfl, hb⟩
                 have HK := Lib.hid (HK0.out.step hb)
                 (try clear q3 q8 c0 c1 z0 z1)
                 obtain ⟨q3, q8, ⟨c0, c1, z0, z1⟩, hlt, hbk⟩ := HK.out
                 clear hlt hbk hb))
            obtain ⟨W, hW, ⟨d0, d1, _, _⟩, hbW⟩ := Gb.put HK.out.f HK.out.b (Nat.le_succ _) 0 0
            rw [hW]
            exact bodyPost_ret (v := .tuple #[fr 0 0, .int .i64 le]) (by simp [results, Tryd.results15, go_sem, d0, d1]) rfl ⟨rfl, hbW⟩
    · rw [if_neg (show ¬ (decide (0 < nC) && !tw) = true by
        rintro h
        rw [Bool.and_eq_true, decide_eq_true_eq, Bool.not_eq_true'] at h
        exact hB h), if_neg (by decide), if_pos (show true = true from rfl)] at hR
      have hB2 : (nC = 0) ∨ (0 < nC ∧ tw = true) := by
        rcases Nat.eq_zero_or_pos nC with h | h
        · exact .inl h
        · right
          cases tw
          · exact absurd ⟨h, rfl⟩ hB
          · exact ⟨h, rfl⟩
      clear hB
      cases ch with
      | false =>
        rw [if_neg (by decide)] at hR
        subst hR
        rcases hO2 with ⟨rfl, rfl⟩ | t1 <;> rcases hB2 with rfl | ⟨h0, rfl⟩
        all_goals
          try (have t2 : ((nC : Int) == 0) = false := beq_eq_false_iff_ne.2 (by omega))
          go_enter Tryd.func15, Tryd.ntmps15
          go_wp2_with (first
            | (go_at_call 28; with_reducible refine (H19.out _).mono ?_; rintro e w8 ⟨rfl, hw⟩; rw [hw]; clear hw)
            | (go_at_call 28; with_reducible refine (H20.out _).mono ?_; rintro e w8 ⟨rfl, hw⟩; rw [hw]; clear hw)
            | (go_at_call 28; with_reducible refine (H21.out _).mono ?_; rintro e w8 ⟨rfl, hw⟩; rw [hw]; clear hw)
            | (go_at_call 28; with_reducible refine (H22.out _).mono ?_; rintro e w8 ⟨rfl, hw⟩; rw [hw]; clear hw)
            | (go_at_call 23; (with_reducible refine (HL.out _ _ _ HS2.out).mono ?_); rintro e w5 ⟨rfl, hb⟩
               replace HK := Lib.hid (HK.out.step hb)
               (try clear q3 q8 c0 c1 z0 z1)
               obtain ⟨q3, q8, ⟨c0, c1, z0, z1⟩, hlt, hbk⟩ := HK.out
               clear hlt hbk hb)
            | (go_at_call 21; (with_reducible refine (HW.out _ _ _ HS1.out).mono ?_); rintro e w4 ⟨rfl, hb⟩
               replace HK := Lib.hid (HK.out.step hb)
               replace HS1 := Lib.hid (HS1.out.below hb)
               replace HS2 := Lib.hid (HS2.out.below hb)
               (try clear q3 q8 c0 c1 z0 z1)
               obtain ⟨q3, q8, ⟨c0, c1, z0, z1⟩, hlt, hbk⟩ := HK.out
               clear hlt hbk hb)
            | (go_at_call 27; (with_reducible refine (HF2.out _ HK.out.b).mono ?_); rintro e w3 ⟨b3, k3, rfl, hS, hb⟩
               replace HK := Lib.hid (HK.out.step hb)
               replace HS1 := Lib.hid (HS1.out.below hb)
               have HS2 := Lib.hid hS
               clear hS
               (try clear q3 q8 c0 c1 z0 z1)
               obtain ⟨q3, q8, ⟨c0, c1, z0, z1⟩, hlt, hbk⟩ := HK.out
               clear hlt hbk hb)
            | (go_at_call 27; (with_reducible refine (HF1.out _ HK.out.b).mono ?_); rintro e w2 ⟨b2, k2, rfl, hS, hb⟩
               replace HK := Lib.hid (HK.out.step hb)
               have HS1 := Lib.hid hS
               clear hS
               (try clear q3 q8 c0 c1 z0 z1)
               obtain ⟨q3, q8, ⟨c0, c1, z0, z1⟩, hlt, hbk⟩ := HK.out
               clear hlt hbk hb)
            | (go_at_call 17; (with_reducible refine (HH.out _ HK0.out.b).mono ?_); rintro e w1 ⟨rfl, hb⟩
               have HK := Lib.hid (HK0.out.step hb)
               (try clear q3 q8 c0 c1 z0 z1)
               obtain ⟨q3, q8, ⟨c0, c1, z0, z1⟩, hlt, hbk⟩ := HK.out
               clear hlt hbk hb))
          obtain ⟨W, hW, ⟨d0, d1, _, _⟩, hbW⟩ := Gb.put HK.out.f HK.out.b (Nat.le_succ _) 0 0
          rw [hW]
          exact bodyPost_ret (v := .tuple #[fr 0 0, .int .i64 501]) (by simp [results, Tryd.results15, go_sem, d0, d1]) rfl ⟨rfl, hbW⟩
      | true =>
        rw [if_pos rfl] at hR
        subst hR
        rcases hO2 with ⟨rfl, rfl⟩ | t1 <;> rcases hB2 with rfl | ⟨h0, rfl⟩
        all_goals
          try (have t2 : ((nC : Int) == 0) = false := beq_eq_false_iff_ne.2 (by omega))
          go_enter Tryd.func15, Tryd.ntmps15
          go_wp2_with (first
            | (go_at_call 28; with_reducible refine (H19.out _).mono ?_; rintro e w8 ⟨rfl, hw⟩; rw [hw]; clear hw)
            | (go_at_call 28; with_reducible refine (H20.out _).mono ?_; rintro e w8 ⟨rfl, hw⟩; rw [hw]; clear hw)
            | (go_at_call 28; with_reducible refine (H21.out _).mono ?_; rintro e w8 ⟨rfl, hw⟩; rw [hw]; clear hw)
            | (go_at_call 28; with_reducible refine (H22.out _).mono ?_; rintro e w8 ⟨rfl, hw⟩; rw [hw]; clear hw)
            | (go_at_call 23; (with_reducible refine (HL.out _ _ _ HS2.out).mono ?_); rintro e w5 ⟨rfl, hb⟩
               replace HK := Lib.hid (HK.out.step hb)
               (try clear q3 q8 c0 c1 z0 z1)
               obtain ⟨q3, q8, ⟨c0, c1, z0, z1⟩, hlt, hbk⟩ := HK.out
               clear hlt hbk hb)
            | (go_at_call 21; (with_reducible refine (HW.out _ _ _ HS1.out).mono ?_); rintro e w4 ⟨rfl, hb⟩
               replace HK := Lib.hid (HK.out.step hb)
               replace HS1 := Lib.hid (HS1.out.below hb)
               replace HS2 := Lib.hid (HS2.out.below hb)
               (try clear q3 q8 c0 c1 z0 z1)
               obtain ⟨q3, q8, ⟨c0, c1, z0, z1⟩, hlt, hbk⟩ := HK.out
               clear hlt hbk hb)
            | (go_at_call 27; (with_reducible refine (HF2.out _ HK.out.b).mono ?_); rintro e w3 ⟨b3, k3, rfl, hS, hb⟩
               replace HK := Lib.hid (HK.out.step hb)
               replace HS1 := Lib.hid (HS1.out.below hb)
               have HS2 := Lib.hid hS
               clear hS
               (try clear q3 q8 c0 c1 z0 z1)
               obtain ⟨q3, q8, ⟨c0, c1, z0, z1⟩, hlt, hbk⟩ := HK.out
               clear hlt hbk hb)
            | (go_at_call 27; (with_reducible refine (HF1.out _ HK.out.b).mono ?_); rintro e w2 ⟨b2, k2, rfl, hS, hb⟩
               replace HK := Lib.hid (HK.out.step hb)
               have HS1 := Lib.hid hS
               clear hS
               (try clear q3 q8 c0 c1 z0 z1)
               obtain ⟨q3, q8, ⟨c0, c1, z0, z1⟩, hlt, hbk⟩ := HK.out
               clear hlt hbk hb)
            | (go_at_call 17; (with_reducible refine (HH.out _ HK0.out.b).mono ?_); rintro e w1 ⟨rfl, hb⟩
               have HK := Lib.hid (HK0.out.step hb)
               (try clear q3 q8 c0 c1 z0 z1)
               obtain ⟨q3, q8, ⟨c0, c1, z0, z1⟩, hlt, hbk⟩ := HK.out
               clear hlt hbk hb))
          obtain ⟨W, hW, ⟨d0, d1, _, _⟩, hbW⟩ := Gb.put HK.out.f HK.out.b (Nat.le_succ _) 2 0
          rw [hW]
          exact bodyPost_ret (v := .tuple #[fr 2 0, .int .i64 0]) (by simp [results, Tryd.results15, go_sem, d0, d1]) rfl ⟨rfl, hbW⟩
end code
end Go.Proofs.YtoakalklbpoknaaDoor.Frm
