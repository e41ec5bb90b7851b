/-
  Layer 10 (framing): what the document's Length answers. (Printed by tools/gen_rlength.py.)
-/
import Derived.Test.YtoakalklbpoknaaDoorFrmRef
import Derived.Deep.CutBlock
import Derived.Deep.DeepCutAuto
namespace Go.Proofs.YtoakalklbpoknaaDoor.Frm
open Go.RowKit Base Txt

section code
set_option maxHeartbeats 4000000
set_option maxRecDepth 10000
attribute [local go_sem] Base.some_undef
theorem rlength_any (p : Nat) (hp : p < 4294967296) (most : Int) (hM : most ≤ 9223372036854775807) (a : Option Addr) (n cap : Nat) (vs : List ByteArray) (w : World) (hv : Strs w a n vs) (hr : room vs ≤ 1000000000) :
    Calls Tryd.prog 23 #[.int .u32 (p : Nat), .int .i64 most, .slice a n cap] w fun e w' => e = .returned (.tuple #[.int .i64 (lengthV (Qk.has p 23) (Qk.has p 24) (Qk.has p 25) (Qk.has p 26) most vs).1, .int .i64 (lengthV (Qk.has p 23) (Qk.has p 24) (Qk.has p 25) (Qk.has p 26) most vs).2]) ∧ Below w.heap.size w w' := by
  obtain ⟨R, hR⟩ : ∃ R, lengthV (Qk.has p 23) (Qk.has p 24) (Qk.has p 25) (Qk.has p 26) most vs = R := ⟨_, rfl⟩
  rw [hR]
  unfold lengthV at hR
  have hl := hv.1
  by_cases hn : n = 0
  · subst hn
    obtain rfl := List.eq_nil_of_length_eq_zero hl
    rw [if_pos rfl] at hR
    subst hR
    go_enter Tryd.func23, Tryd.ntmps23
    go_wp2_with fail
    go_ret2
    exact ⟨rfl, Below.refl _ _⟩
  have hne : vs ≠ [] := fun e => hn (by rw [← hl, e]; rfl)
  rw [if_neg hne] at hR
  have H23 := Lib.hid (fun w => Qk.rhas_any p hp 23 w)
  have H24 := Lib.hid (fun w => Qk.rhas_any p hp 24 w)
  have H25 := Lib.hid (fun w => Qk.rhas_any p hp 25 w)
  have H26 := Lib.hid (fun w => Qk.rhas_any p hp 26 w)
  have HL := Lib.hid (rlist_any a n cap vs w hv hr)
  have hll := Nat.le_trans (list_le vs) hr
  have hlp := list_ne_nil vs hne
  have hnr := Nat.le_trans (len_room vs) hr
  rw [hl] at hnr
  have hms := list_mem_size vs
  have hrm := room_mem vs
  generalize Qk.has p 23 = lp at *
  generalize Qk.has p 24 = lc at *
  generalize Qk.has p 25 = lf at *
  generalize Qk.has p 26 = ll at *
  have HT := Lib.hid (fun s (hs : s.size ≤ 1000000000) w => Num.rdec_any most hM (unplus lp s) w (Nat.le_trans (unplus_size lp s) (Nat.le_trans hs (by decide))))
  have t0 : ((n : Int) == 0) = false := beq_eq_false_iff_ne.2 (by omega)
  clear hp hM hl
  cases lc with
  | false =>
    rw [if_neg (by decide)] at hR
    have HM := Lib.hid (fun s (h : s ∈ vs) => show s.size ≤ 1000000000 by have := hrm s h; omega)
    clear HL hll hlp hms hrm hne
    obtain ⟨U, hU⟩ : ∃ U, U = vs := ⟨_, rfl⟩
    rw [← hU] at hv HM hR
    clear hU
    have hm := hv.1
    obtain ⟨m, hnm⟩ : ∃ m, m = n := ⟨_, rfl⟩
    have hll : m ≤ 1000000000 := by omega
    have hlp : 0 < m := by omega
    subst hnm
    obtain ⟨K, rfl⟩ : ∃ K, m = K + 1 := ⟨m - 1, by omega⟩
    have HE := Lib.hid (fun (a' : Option Addr) (w' : World) (hS : Strs w' a' (K + 1) U) => strs_ends hS)
    have HMN := Lib.hid (fun (s : ByteArray) (h : counts false lf ll U = some s) => HM.out s (counts_mem _ _ _ _ _ h (fun e => by rw [e] at hm; simp at hm)))
    obtain ⟨O, hO⟩ : ∃ O, counts false lf ll U = O := ⟨_, rfl⟩
    rw [hO] at hR HMN
    have HUL := Lib.hid hm
    have hO2 : O = if (decide (K = 0) || ((false && alikeL U) || lf)) = true then some (U.headD ByteArray.empty) else if ll = true then some (U.getLastD ByteArray.empty) else none := by
      rw [← hO]; unfold counts; rw [hm]; simp
    have HO := Lib.hid hO2
    clear hO hO2 HM hm
    have HN := Lib.hid (fun k (hk : k < K + 1) => take_all_snoc (fun v : ByteArray => decide (v = U.headD ByteArray.empty)) ByteArray.empty U k (by rw [HUL.out]; exact hk))
    have HA := Lib.hid (show (U.take (K + 1)).all (fun v => decide (v = U.headD ByteArray.empty)) = alikeL U by rw [List.take_of_length_le (by rw [HUL.out]; exact Nat.le_refl _)]; rfl)
    have HC1 := Lib.hid (show IntKind.i64.wrap (((K + 1 : Nat) : Int) - 1) = (K : Int) by rw [wrap_in _ (by omega) (by omega)]; omega)
    have HC2 := Lib.hid (show wrap64 (((K + 1 : Nat) : Int) - 1) = (K : Int) by unfold wrap64; omega)
    have HS := Lib.hid hv
    obtain ⟨w1, hw1⟩ : ∃ x, x = w := ⟨_, rfl⟩
    have HB : Hid (Below w.heap.size w w1) := Lib.hid (hw1 ▸ Below.refl _ _)
    rw [← hw1] at HS hv ⊢
    rw [hw1] at HB
    rw [← hw1] at HB
    obtain ⟨bl, off, rfl, hd0, hz0⟩ := HE.out _ _ hv
    have HD0 := Lib.hid hd0
    have HZ0 := Lib.hid hz0
    clear hv hd0 hz0 hw1
    go_enter Tryd.func23, Tryd.ntmps23
    go_wp2_with (go_at_call 28; with_reducible refine (H24.out _).mono ?_; rintro e w2 ⟨rfl, hw⟩; rw [hw]; clear hw)
    go_loopw [9, 10] (fun al i wr => ∃ k q : Nat, k ≤ K + 1 ∧ i = .int .i64 k ∧ wr = w1.drewN q ∧ ∃ b : Bool, al = .bool b ∧ Hid (false = b)) (fun _ i _ => K + 1 - (intOf i).toNat)
    case atStart => exact ⟨0, 0, Nat.zero_le _, rfl, rfl, false, rfl, Lib.hid rfl⟩
    case round =>
      obtain ⟨k, q, hk, rfl, rfl, al, rfl, HAL⟩ := hrel
      rcases Nat.lt_or_ge k (K + 1) with hlt | hge
      · have i1 : (k : Int) < ((K + 1 : Nat) : Int) := by omega
        have i0 : (0 : Int) < ((K + 1 : Nat) : Int) := by omega
        obtain rfl : al = false := HAL.out.symm
        go_wp2_with fail
        go_quiet (fail)
        rename_i nq
        go_wp2
        go_roundw
        case rel => first | exact ⟨k + 1, q + nq, by omega, by go_num, (World.drewN_drewN _ _ _).symm ▸ rfl, false, rfl, Lib.hid rfl⟩ | exact ⟨k + 1, q + nq, by omega, by go_num, by rw [World.drewN_drewN], false, rfl, Lib.hid rfl⟩ | exact ⟨k + 1, q + nq, by omega, by go_num, rfl, false, rfl, Lib.hid rfl⟩
        case measure => simp [intOf]; omega
      · obtain rfl : k = K + 1 := by omega
        have HAL2 := Lib.hid (show (false && alikeL U) = al by exact HAL.out)
        have hbd : Below w1.heap.size w1 (w1.drewN q) := Base.below_drewN (Below.refl _ _) q
        obtain ⟨bl2, off2, he2, hd, hz⟩ := HE.out _ _ (HS.out.below hbd)
        obtain ⟨rfl, rfl⟩ : bl = bl2 ∧ off = off2 := by simpa using he2
        have HBq := Lib.hid (Base.below_step HB.out hbd)
        have hO3 := HO.out
        rw [HAL2.out] at hO3
        have c1 := HC1.out
        have c2 := HC2.out
        have i0 : (0 : Int) < ((K + 1 : Nat) : Int) := by omega
        have iK : (K : Int) < ((K + 1 : Nat) : Int) := by omega
        clear he2 hbd HE HN HA HC1 HC2 HO HAL HAL2 HS HB HD0 HZ0
        generalize w1.drewN q = wq at *
        generalize U.headD ByteArray.empty = y at *
        generalize U.getLastD ByteArray.empty = z at *
        cases O with
        | none =>
          simp only at hR
          have hcase : ¬ K = 0 ∧ al = false ∧ lf = false ∧ ll = false := by
            refine ⟨fun e => ?_, ?_, ?_, ?_⟩
            · rw [decide_eq_true e] at hO3; simp at hO3
            · cases al
              · rfl
              · simp at hO3
            · cases lf
              · rfl
              · simp at hO3
            · cases ll
              · rfl
              · by_cases hx : (decide (K = 0) || (al || lf)) = true
                · rw [if_pos hx] at hO3; cases hO3
                · rw [if_neg hx, if_pos rfl] at hO3; cases hO3
          obtain ⟨hK, rfl, rfl, rfl⟩ := hcase
          subst hR
          have tK : ((((K + 1 : Nat)) : Int) == 1) = false := beq_eq_false_iff_ne.2 (by omega)
          have tK2 : ((K : Int) + 1 == 1) = false := beq_eq_false_iff_ne.2 (by omega)
          have tK3 : ¬ (K : Int) = 0 := by omega
          clear hO3
          go_wp2_with (first
            | (go_at_call 28; with_reducible refine (H25.out _).mono ?_; rintro e w2 ⟨rfl, hw⟩; rw [hw]; clear hw)
            | (go_at_call 28; with_reducible refine (H26.out _).mono ?_; rintro e w2 ⟨rfl, hw⟩; rw [hw]; clear hw))
          go_ret2
          exact ⟨rfl, HBq.out⟩
        | some S =>
          simp only at hR
          have hs := HMN.out S rfl
          have hways : (K = 0 ∧ S = y) ∨ (¬ K = 0 ∧ al = true ∧ S = y) ∨ (¬ K = 0 ∧ al = false ∧ lf = true ∧ S = y) ∨ (¬ K = 0 ∧ al = false ∧ lf = false ∧ ll = true ∧ S = z) := by
            by_cases hK : K = 0
            · rw [decide_eq_true hK] at hO3; exact .inl ⟨hK, by simpa using hO3⟩
            · rw [decide_eq_false hK] at hO3
              cases al
              · cases lf
                · cases ll
                  · simp at hO3
                  · exact .inr (.inr (.inr ⟨hK, rfl, rfl, rfl, by simpa using hO3⟩))
                · exact .inr (.inr (.inl ⟨hK, rfl, rfl, by simpa using hO3⟩))
              · exact .inr (.inl ⟨hK, rfl, by simpa using hO3⟩)
          have HW := Lib.hid hways
          clear hO3 hways
          have hK4 : (K = 0 ∧ S = y) ∨ (¬ K = 0 ∧ al = true ∧ S = y) ∨ (¬ K = 0 ∧ al = false ∧ lf = true ∧ S = y) ∨ (¬ K = 0 ∧ al = false ∧ lf = false ∧ ll = true ∧ S = z) := HW.out
          clear HW
          rcases hK4 with ⟨hK, rfl⟩ | ⟨hK, rfl, rfl⟩ | ⟨hK, rfl, rfl, rfl⟩ | ⟨hK, rfl, rfl, rfl, rfl⟩
          all_goals
            first
              | (have tK : ((((K + 1 : Nat)) : Int) == 1) = true := beq_iff_eq.2 (by omega))
              | (have tK : ((((K + 1 : Nat)) : Int) == 1) = false := beq_eq_false_iff_ne.2 (by omega)
                 have tK2 : ((K : Int) + 1 == 1) = false := beq_eq_false_iff_ne.2 (by omega)
                 have tK3 : ¬ (K : Int) = 0 := by omega)
            have HD := Lib.hid (HT.out S hs)
            clear HT HMN
            generalize hNN : Num.readOf 10 most (unplus lp S).data.toList = N at *
            clear hNN
            obtain ⟨N1, N2⟩ := N
            simp only at HD
            unfold numV at hR
            simp only at hR
            have hcase : (N2 = 22 ∧ R = (0, 400)) ∨ ((N2 == 22) = false ∧ N2 = 23 ∧ R = (0, 413)) ∨ ((N2 == 22) = false ∧ (N2 == 23) = false ∧ R = (N1, 0)) := by
              by_cases h1 : N2 = 22
              · rw [if_pos h1] at hR; exact .inl ⟨h1, hR.symm⟩
              · rw [if_neg h1] at hR
                by_cases h2 : N2 = 23
                · rw [if_pos h2] at hR; exact .inr (.inl ⟨beq_eq_false_iff_ne.2 h1, h2, hR.symm⟩)
                · rw [if_neg h2] at hR; exact .inr (.inr ⟨beq_eq_false_iff_ne.2 h1, beq_eq_false_iff_ne.2 h2, hR.symm⟩)
            clear hR
            cases lp with
            | false =>
              rw [show unplus false S = S from rfl] at HD
              rcases hcase with ⟨rfl, rfl⟩ | ⟨t1, rfl, rfl⟩ | ⟨t1, t2, rfl⟩
              all_goals
                go_wp2_with (first
                  | (go_at_call 28; with_reducible refine (H23.out _).mono ?_; rintro e w2 ⟨rfl, hw⟩; rw [hw]; clear hw) | (go_at_call 28; with_reducible refine (H25.out _).mono ?_; rintro e w2 ⟨rfl, hw⟩; rw [hw]; clear hw) | (go_at_call 28; with_reducible refine (H26.out _).mono ?_; rintro e w2 ⟨rfl, hw⟩; rw [hw]; clear hw)
                  | (go_at_call 41; with_reducible refine (HD.out _).mono ?_; rintro e w3 ⟨rfl, hw⟩; rw [hw]; clear hw))
                go_ret2
                exact ⟨rfl, HBq.out⟩
            | true =>
              rcases Nat.eq_zero_or_pos S.size with hz0 | hz0
              · have e0 : S.toList.isEmpty = true := by
                  rw [Lib.toList_data, List.length_eq_zero_iff.1 (show S.data.toList.length = 0 by rw [len]; exact hz0)]; rfl
                rw [show unplus true S = S by unfold unplus; rw [List.length_eq_zero_iff.1 (show S.data.toList.length = 0 by rw [len]; exact hz0)]; rfl] at HD
                clear hz0
                rcases hcase with ⟨rfl, rfl⟩ | ⟨t1, rfl, rfl⟩ | ⟨t1, t2, rfl⟩
                all_goals
                  go_wp2_with (first
                    | (go_at_call 28; with_reducible refine (H23.out _).mono ?_; rintro e w2 ⟨rfl, hw⟩; rw [hw]; clear hw) | (go_at_call 28; with_reducible refine (H25.out _).mono ?_; rintro e w2 ⟨rfl, hw⟩; rw [hw]; clear hw) | (go_at_call 28; with_reducible refine (H26.out _).mono ?_; rintro e w2 ⟨rfl, hw⟩; rw [hw]; clear hw)
                    | (go_at_call 41; with_reducible refine (HD.out _).mono ?_; rintro e w3 ⟨rfl, hw⟩; rw [hw]; clear hw))
                  go_ret2
                  exact ⟨rfl, HBq.out⟩
              · obtain ⟨e1, e2, e0⟩ := first_of S hz0
                have i0 : (0 : Int) < (S.size : Int) := by omega
                have i1 : (1 : Int) ≤ (S.size : Int) := by omega
                have i2 : (S.size : Int) ≤ 9223372036854775807 := by omega
                by_cases hp : S[0] = 43
                · have t3 : (((S[0].toNat : Nat) : Int) == 43) = true := by rw [hp]; rfl
                  rw [show unplus true S = S.extract 1 S.size from by
                    unfold unplus
                    rw [if_pos (by rw [e1, hp]; rfl)]
                    exact ba_ext e2.symm] at HD
                  clear e1 e2 hp
                  rcases hcase with ⟨rfl, rfl⟩ | ⟨t1, rfl, rfl⟩ | ⟨t1, t2, rfl⟩
                  all_goals
                    go_wp2_with (first
                      | (go_at_call 28; with_reducible refine (H23.out _).mono ?_; rintro e w2 ⟨rfl, hw⟩; rw [hw]; clear hw) | (go_at_call 28; with_reducible refine (H25.out _).mono ?_; rintro e w2 ⟨rfl, hw⟩; rw [hw]; clear hw) | (go_at_call 28; with_reducible refine (H26.out _).mono ?_; rintro e w2 ⟨rfl, hw⟩; rw [hw]; clear hw)
                      | (go_at_call 41; with_reducible refine (HD.out _).mono ?_; rintro e w3 ⟨rfl, hw⟩; rw [hw]; clear hw))
                    go_ret2
                    exact ⟨rfl, HBq.out⟩
                · have t3 : (((S[0].toNat : Nat) : Int) == 43) = false := beq_eq_false_iff_ne.2 (fun e => hp (UInt8.toNat_inj.1 (show S[0].toNat = (43 : UInt8).toNat from by have e43 : (43 : UInt8).toNat = 43 := rfl; omega)))
                  rw [show unplus true S = S from by
                    unfold unplus
                    rw [if_neg (by rw [e1, List.head?_cons]; simpa using hp)]] at HD
                  clear e1 e2 hp
                  rcases hcase with ⟨rfl, rfl⟩ | ⟨t1, rfl, rfl⟩ | ⟨t1, t2, rfl⟩
                  all_goals
                    go_wp2_with (first
                      | (go_at_call 28; with_reducible refine (H23.out _).mono ?_; rintro e w2 ⟨rfl, hw⟩; rw [hw]; clear hw) | (go_at_call 28; with_reducible refine (H25.out _).mono ?_; rintro e w2 ⟨rfl, hw⟩; rw [hw]; clear hw) | (go_at_call 28; with_reducible refine (H26.out _).mono ?_; rintro e w2 ⟨rfl, hw⟩; rw [hw]; clear hw)
                      | (go_at_call 41; with_reducible refine (HD.out _).mono ?_; rintro e w3 ⟨rfl, hw⟩; rw [hw]; clear hw))
                    go_ret2
                    exact ⟨rfl, HBq.out⟩
  | true =>
    rw [if_pos rfl] at hR
    have HM := Lib.hid (fun s (h : s ∈ list vs) => show s.size ≤ 1000000000 from Nat.le_trans (hms s h) hr)
    clear hv hms hrm hne
    generalize list vs = U at *
    obtain ⟨m, hm⟩ : ∃ m, U.length = m := ⟨_, rfl⟩
    rw [hm] at HL hll hlp
    obtain ⟨K, rfl⟩ : ∃ K, m = K + 1 := ⟨m - 1, by omega⟩
    have HE := Lib.hid (fun (a' : Option Addr) (w' : World) (hS : Strs w' a' (K + 1) U) => strs_ends hS)
    have HMN := Lib.hid (fun (s : ByteArray) (h : counts true lf ll U = some s) => HM.out s (counts_mem _ _ _ _ _ h (fun e => by rw [e] at hm; simp at hm)))
    obtain ⟨O, hO⟩ : ∃ O, counts true lf ll U = O := ⟨_, rfl⟩
    rw [hO] at hR HMN
    have HUL := Lib.hid hm
    have hO2 : O = if (decide (K = 0) || ((true && alikeL U) || lf)) = true then some (U.headD ByteArray.empty) else if ll = true then some (U.getLastD ByteArray.empty) else none := by
      rw [← hO]; unfold counts; rw [hm]; simp
    have HO := Lib.hid hO2
    clear hO hO2 HM hm
    have HN := Lib.hid (fun k (hk : k < K + 1) => take_all_snoc (fun v : ByteArray => decide (v = U.headD ByteArray.empty)) ByteArray.empty U k (by rw [HUL.out]; exact hk))
    have HA := Lib.hid (show (U.take (K + 1)).all (fun v => decide (v = U.headD ByteArray.empty)) = alikeL U by rw [List.take_of_length_le (by rw [HUL.out]; exact Nat.le_refl _)]; rfl)
    have HC1 := Lib.hid (show IntKind.i64.wrap (((K + 1 : Nat) : Int) - 1) = (K : Int) by rw [wrap_in _ (by omega) (by omega)]; omega)
    have HC2 := Lib.hid (show wrap64 (((K + 1 : Nat) : Int) - 1) = (K : Int) by unfold wrap64; omega)
    go_enter Tryd.func23, Tryd.ntmps23
    go_wp2_with (first
      | (go_at_call 28; with_reducible refine (H24.out _).mono ?_; rintro e w1 ⟨rfl, hw⟩; rw [hw]; clear hw)
      | (go_at_call 35; with_reducible refine (HL.out).mono ?_; rintro e w1 ⟨b, m2, c, rfl, hm2, hS, hb⟩
         rw [hm2] at hS ⊢
         clear hm2
         have HS := Lib.hid hS
         have HB := Lib.hid hb
         obtain ⟨bl, off, rfl, hd0, hz0⟩ := HE.out _ _ hS
         have HD0 := Lib.hid hd0
         have HZ0 := Lib.hid hz0
         clear hS hb hd0 hz0))
    go_loopw [9, 10] (fun al i wr => ∃ k q : Nat, k ≤ K + 1 ∧ i = .int .i64 k ∧ wr = w1.drewN q ∧ ∃ b : Bool, al = .bool b ∧ Hid ((U.take k).all (fun v => decide (v = U.headD ByteArray.empty)) = b)) (fun _ i _ => K + 1 - (intOf i).toNat)
    case atStart => exact ⟨0, 0, Nat.zero_le _, rfl, rfl, true, rfl, Lib.hid rfl⟩
    case round =>
      obtain ⟨k, q, hk, rfl, rfl, al, rfl, HAL⟩ := hrel
      rcases Nat.lt_or_ge k (K + 1) with hlt | hge
      · have i1 : (k : Int) < ((K + 1 : Nat) : Int) := by omega
        have i0 : (0 : Int) < ((K + 1 : Nat) : Int) := by omega
        obtain ⟨bl2, off2, he2, _, hc⟩ := HS.out.2 (by omega)
        obtain ⟨rfl, rfl⟩ : bl = bl2 ∧ off = off2 := by simpa using he2
        have hck := hc k hlt
        have hc0 := HD0.out
        have HNk := Lib.hid (HN.out k hlt)
        clear hc he2
        cases al with
        | false =>
          have H2 := Lib.hid (show (U.take (k + 1)).all (fun v => decide (v = U.headD ByteArray.empty)) = false by rw [HNk.out, HAL.out]; rfl)
          clear HNk hck hc0
          go_wp2_with fail
          go_quiet (fail)
          rename_i nq
          go_wp2
          go_roundw
          case rel => first | exact ⟨k + 1, q + nq, by omega, by go_num, (World.drewN_drewN _ _ _).symm ▸ rfl, false, rfl, H2⟩ | exact ⟨k + 1, q + nq, by omega, by go_num, by rw [World.drewN_drewN], false, rfl, H2⟩ | exact ⟨k + 1, q + nq, by omega, by go_num, rfl, false, rfl, H2⟩
          case measure => simp [intOf]; omega
        | true =>
          by_cases he : U[k]?.getD ByteArray.empty = U.headD ByteArray.empty
          · have H2 := Lib.hid (show (U.take (k + 1)).all (fun v => decide (v = U.headD ByteArray.empty)) = true by rw [HNk.out, HAL.out, he]; simp)
            rw [he] at hck
            clear HNk he
            generalize U.headD ByteArray.empty = y at *
            go_wp2_with fail
            go_quiet (fail)
            rename_i nq
            go_wp2
            go_roundw
            case rel => first | exact ⟨k + 1, q + nq, by omega, by go_num, (World.drewN_drewN _ _ _).symm ▸ rfl, true, rfl, H2⟩ | exact ⟨k + 1, q + nq, by omega, by go_num, by rw [World.drewN_drewN], true, rfl, H2⟩ | exact ⟨k + 1, q + nq, by omega, by go_num, rfl, true, rfl, H2⟩
            case measure => simp [intOf]; omega
          · have H2 := Lib.hid (show (U.take (k + 1)).all (fun v => decide (v = U.headD ByteArray.empty)) = false by rw [HNk.out, HAL.out, decide_eq_false he]; rfl)
            generalize U[k]?.getD ByteArray.empty = x at *
            generalize U.headD ByteArray.empty = y at *
            have he2 : ¬ x.toList = y.toList := fun h => he ((toList_iff x y).1 h)
            have he3 : (x.toList == y.toList) = false := by simpa using he2
            clear HNk he
            go_wp2_with fail
            go_quiet (fail)
            rename_i nq
            go_wp2
            go_roundw
            case rel => first | exact ⟨k + 1, q + nq, by omega, by go_num, (World.drewN_drewN _ _ _).symm ▸ rfl, false, rfl, H2⟩ | exact ⟨k + 1, q + nq, by omega, by go_num, by rw [World.drewN_drewN], false, rfl, H2⟩ | exact ⟨k + 1, q + nq, by omega, by go_num, rfl, false, rfl, H2⟩
            case measure => simp [intOf]; omega
      · obtain rfl : k = K + 1 := by omega
        have HAL2 := Lib.hid (show (true && alikeL U) = al by rw [Bool.true_and, ← HA.out]; exact HAL.out)
        have hbd : Below w1.heap.size w1 (w1.drewN q) := Base.below_drewN (Below.refl _ _) q
        obtain ⟨bl2, off2, he2, hd, hz⟩ := HE.out _ _ (HS.out.below hbd)
        obtain ⟨rfl, rfl⟩ : bl = bl2 ∧ off = off2 := by simpa using he2
        have HBq := Lib.hid (Base.below_step HB.out hbd)
        have hO3 := HO.out
        rw [HAL2.out] at hO3
        have c1 := HC1.out
        have c2 := HC2.out
        have i0 : (0 : Int) < ((K + 1 : Nat) : Int) := by omega
        have iK : (K : Int) < ((K + 1 : Nat) : Int) := by omega
        clear he2 hbd HE HN HA HC1 HC2 HO HAL HAL2 HS HB HD0 HZ0
        generalize w1.drewN q = wq at *
        generalize U.headD ByteArray.empty = y at *
        generalize U.getLastD ByteArray.empty = z at *
        cases O with
        | none =>
          simp only at hR
          have hcase : ¬ K = 0 ∧ al = false ∧ lf = false ∧ ll = false := by
            refine ⟨fun e => ?_, ?_, ?_, ?_⟩
            · rw [decide_eq_true e] at hO3; simp at hO3
            · cases al
              · rfl
              · simp at hO3
            · cases lf
              · rfl
              · simp at hO3
            · cases ll
              · rfl
              · by_cases hx : (decide (K = 0) || (al || lf)) = true
                · rw [if_pos hx] at hO3; cases hO3
                · rw [if_neg hx, if_pos rfl] at hO3; cases hO3
          obtain ⟨hK, rfl, rfl, rfl⟩ := hcase
          subst hR
          have tK : ((((K + 1 : Nat)) : Int) == 1) = false := beq_eq_false_iff_ne.2 (by omega)
          have tK2 : ((K : Int) + 1 == 1) = false := beq_eq_false_iff_ne.2 (by omega)
          have tK3 : ¬ (K : Int) = 0 := by omega
          clear hO3
          go_wp2_with (first
            | (go_at_call 28; with_reducible refine (H25.out _).mono ?_; rintro e w2 ⟨rfl, hw⟩; rw [hw]; clear hw)
            | (go_at_call 28; with_reducible refine (H26.out _).mono ?_; rintro e w2 ⟨rfl, hw⟩; rw [hw]; clear hw))
          go_ret2
          exact ⟨rfl, HBq.out⟩
        | some S =>
          simp only at hR
          have hs := HMN.out S rfl
          have hways : (K = 0 ∧ S = y) ∨ (¬ K = 0 ∧ al = true ∧ S = y) ∨ (¬ K = 0 ∧ al = false ∧ lf = true ∧ S = y) ∨ (¬ K = 0 ∧ al = false ∧ lf = false ∧ ll = true ∧ S = z) := by
            by_cases hK : K = 0
            · rw [decide_eq_true hK] at hO3; exact .inl ⟨hK, by simpa using hO3⟩
            · rw [decide_eq_false hK] at hO3
              cases al
              · cases lf
                · cases ll
                  · simp at hO3
                  · exact .inr (.inr (.inr ⟨hK, rfl, rfl, rfl, by simpa using hO3⟩))
                · exact .inr (.inr (.inl ⟨hK, rfl, rfl, by simpa using hO3⟩))
              · exact .inr (.inl ⟨hK, rfl, by simpa using hO3⟩)
          have HW := Lib.hid hways
          clear hO3 hways
          have hK4 : (K = 0 ∧ S = y) ∨ (¬ K = 0 ∧ al = true ∧ S = y) ∨ (¬ K = 0 ∧ al = false ∧ lf = true ∧ S = y) ∨ (¬ K = 0 ∧ al = false ∧ lf = false ∧ ll = true ∧ S = z) := HW.out
          clear HW
          rcases hK4 with ⟨hK, rfl⟩ | ⟨hK, rfl, rfl⟩ | ⟨hK, rfl, rfl, rfl⟩ | ⟨hK, rfl, rfl, rfl, rfl⟩
          all_goals
            first
              | (have tK : ((((K + 1 : Nat)) : Int) == 1) = true := beq_iff_eq.2 (by omega))
              | (have tK : ((((K + 1 : Nat)) : Int) == 1) = false := beq_eq_false_iff_ne.2 (by omega)
                 have tK2 : ((K : Int) + 1 == 1) = false := beq_eq_false_iff_ne.2 (by omega)
                 have tK3 : ¬ (K : Int) = 0 := by omega)
            have HD := Lib.hid (HT.out S hs)
            clear HT HMN
            generalize hNN : Num.readOf 10 most (unplus lp S).data.toList = N at *
            clear hNN
            obtain ⟨N1, N2⟩ := N
            simp only at HD
            unfold numV at hR
            simp only at hR
            have hcase : (N2 = 22 ∧ R = (0, 400)) ∨ ((N2 == 22) = false ∧ N2 = 23 ∧ R = (0, 413)) ∨ ((N2 == 22) = false ∧ (N2 == 23) = false ∧ R = (N1, 0)) := by
              by_cases h1 : N2 = 22
              · rw [if_pos h1] at hR; exact .inl ⟨h1, hR.symm⟩
              · rw [if_neg h1] at hR
                by_cases h2 : N2 = 23
                · rw [if_pos h2] at hR; exact .inr (.inl ⟨beq_eq_false_iff_ne.2 h1, h2, hR.symm⟩)
                · rw [if_neg h2] at hR; exact .inr (.inr ⟨beq_eq_false_iff_ne.2 h1, beq_eq_false_iff_ne.2 h2, hR.symm⟩)
            clear hR
            cases lp with
            | false =>
              rw [show unplus false S = S from rfl] at HD
              rcases hcase with ⟨rfl, rfl⟩ | ⟨t1, rfl, rfl⟩ | ⟨t1, t2, rfl⟩
              all_goals
                go_wp2_with (first
                  | (go_at_call 28; with_reducible refine (H23.out _).mono ?_; rintro e w2 ⟨rfl, hw⟩; rw [hw]; clear hw) | (go_at_call 28; with_reducible refine (H25.out _).mono ?_; rintro e w2 ⟨rfl, hw⟩; rw [hw]; clear hw) | (go_at_call 28; with_reducible refine (H26.out _).mono ?_; rintro e w2 ⟨rfl, hw⟩; rw [hw]; clear hw)
                  | (go_at_call 41; with_reducible refine (HD.out _).mono ?_; rintro e w3 ⟨rfl, hw⟩; rw [hw]; clear hw))
                go_ret2
                exact ⟨rfl, HBq.out⟩
            | true =>
              rcases Nat.eq_zero_or_pos S.size with hz0 | hz0
              · have e0 : S.toList.isEmpty = true := by
                  rw [Lib.toList_data, List.length_eq_zero_iff.1 (show S.data.toList.length = 0 by rw [len]; exact hz0)]; rfl
                rw [show unplus true S = S by unfold unplus; rw [List.length_eq_zero_iff.1 (show S.data.toList.length = 0 by rw [len]; exact hz0)]; rfl] at HD
                clear hz0
                rcases hcase with ⟨rfl, rfl⟩ | ⟨t1, rfl, rfl⟩ | ⟨t1, t2, rfl⟩
                all_goals
                  go_wp2_with (first
                    | (go_at_call 28; with_reducible refine (H23.out _).mono ?_; rintro e w2 ⟨rfl, hw⟩; rw [hw]; clear hw) | (go_at_call 28; with_reducible refine (H25.out _).mono ?_; rintro e w2 ⟨rfl, hw⟩; rw [hw]; clear hw) | (go_at_call 28; with_reducible refine (H26.out _).mono ?_; rintro e w2 ⟨rfl, hw⟩; rw [hw]; clear hw)
                    | (go_at_call 41; with_reducible refine (HD.out _).mono ?_; rintro e w3 ⟨rfl, hw⟩; rw [hw]; clear hw))
                  go_ret2
                  exact ⟨rfl, HBq.out⟩
              · obtain ⟨e1, e2, e0⟩ := first_of S hz0
                have i0 : (0 : Int) < (S.size : Int) := by omega
                have i1 : (1 : Int) ≤ (S.size : Int) := by omega
                have i2 : (S.size : Int) ≤ 9223372036854775807 := by omega
                by_cases hp : S[0] = 43
                · have t3 : (((S[0].toNat : Nat) : Int) == 43) = true := by rw [hp]; rfl
                  rw [show unplus true S = S.extract 1 S.size from by
                    unfold unplus
                    rw [if_pos (by rw [e1, hp]; rfl)]
                    exact ba_ext e2.symm] at HD
                  clear e1 e2 hp
                  rcases hcase with ⟨rfl, rfl⟩ | ⟨t1, rfl, rfl⟩ | ⟨t1, t2, rfl⟩
                  all_goals
                    go_wp2_with (first
                      | (go_at_call 28; with_reducible refine (H23.out _).mono ?_; rintro e w2 ⟨rfl, hw⟩; rw [hw]; clear hw) | (go_at_call 28; with_reducible refine (H25.out _).mono ?_; rintro e w2 ⟨rfl, hw⟩; rw [hw]; clear hw) | (go_at_call 28; with_reducible refine (H26.out _).mono ?_; rintro e w2 ⟨rfl, hw⟩; rw [hw]; clear hw)
                      | (go_at_call 41; with_reducible refine (HD.out _).mono ?_; rintro e w3 ⟨rfl, hw⟩; rw [hw]; clear hw))
                    go_ret2
                    exact ⟨rfl, HBq.out⟩
                · have t3 : (((S[0].toNat : Nat) : Int) == 43) = false := beq_eq_false_iff_ne.2 (fun e => hp (UInt8.toNat_inj.1 (show S[0].toNat = (43 : UInt8).toNat from by have e43 : (43 : UInt8).toNat = 43 := rfl; omega)))
                  rw [show unplus true S = S from by
                    unfold unplus
                    rw [if_neg (by rw [e1, List.head?_cons]; simpa using hp)]] at HD
                  clear e1 e2 hp
                  rcases hcase with ⟨rfl, rfl⟩ | ⟨t1, rfl, rfl⟩ | ⟨t1, t2, rfl⟩
                  all_goals
                    go_wp2_with (first
                      | (go_at_call 28; with_reducible refine (H23.out _).mono ?_; rintro e w2 ⟨rfl, hw⟩; rw [hw]; clear hw) | (go_at_call 28; with_reducible refine (H25.out _).mono ?_; rintro e w2 ⟨rfl, hw⟩; rw [hw]; clear hw) | (go_at_call 28; with_reducible refine (H26.out _).mono ?_; rintro e w2 ⟨rfl, hw⟩; rw [hw]; clear hw)
                      | (go_at_call 41; with_reducible refine (HD.out _).mono ?_; rintro e w3 ⟨rfl, hw⟩; rw [hw]; clear hw))
                    go_ret2
                    exact ⟨rfl, HBq.out⟩
end code
end Go.Proofs.YtoakalklbpoknaaDoor.Frm
