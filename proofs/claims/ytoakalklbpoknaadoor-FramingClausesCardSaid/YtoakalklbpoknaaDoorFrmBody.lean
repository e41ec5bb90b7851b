/-
  Layer 10 (framing): what package framing's Length, codingWins and Decide answer.
-/
import Derived.Test.YtoakalklbpoknaaDoorFrmDecide
namespace Go.Proofs.YtoakalklbpoknaaDoor.Frm
open Go.RowKit Base Txt

theorem counts_one (lc lf ll : Bool) (l : List ByteArray) (h : l.length = 1) : counts lc lf ll l = some (l.headD ByteArray.empty) := by
  unfold counts; rw [decide_eq_true h]; rfl
theorem counts_alike (lf ll : Bool) (l : List ByteArray) (h : alikeL l = true) : counts true lf ll l = some (l.headD ByteArray.empty) := by
  unfold counts; rw [h]; simp
theorem counts_first (lc ll : Bool) (l : List ByteArray) : counts lc true ll l = some (l.headD ByteArray.empty) := by
  unfold counts; simp
theorem counts_last (lc : Bool) (l : List ByteArray) (h : ¬ l.length = 1) (h2 : (lc && alikeL l) = false) : counts lc false true l = some (l.getLastD ByteArray.empty) := by
  unfold counts; rw [decide_eq_false h, h2]; rfl
theorem counts_none (lc : Bool) (l : List ByteArray) (h : ¬ l.length = 1) (h2 : (lc && alikeL l) = false) : counts lc false false l = none := by
  unfold counts; rw [decide_eq_false h, h2]; rfl
theorem strs_ends {w : World} {a : Option Addr} {K : Nat} {l : List ByteArray} (h : Strs w a (K + 1) l) :
    ∃ bl off, a = some ⟨bl, off, none⟩ ∧ w.cell? ⟨bl, off, none⟩ = some (.string (l.headD ByteArray.empty)) ∧ w.cell? ⟨bl, off + K, none⟩ = some (.string (l.getLastD ByteArray.empty)) := by
  obtain ⟨bl, off, rfl, _, hc⟩ := h.2 (by omega)
  have h0 := hc 0 (by omega)
  have hK := hc K (by omega)
  rw [Nat.add_zero] at h0
  have hl := h.1
  refine ⟨bl, off, rfl, ?_, ?_⟩
  · rw [h0]; cases l <;> rfl
  · rw [hK, List.getLastD_eq_getLast?, List.getLast?_eq_getElem?, hl]; rfl
/-- The bounds' block and the result's block, carried through what the call does. -/
structure Kp (w0 : World) (ch : Bool) (body : Int) (w : World) : Prop where
  q3 : w.cell? ⟨w0.heap.size, 3, none⟩ = some (.int .i64 body)
  q8 : w.cell? ⟨w0.heap.size, 8, none⟩ = some (.bool ch)
  f : Gb w (w0.heap.size + 1) 0 0
  lt : w0.heap.size + 1 < w.heap.size
  b : Below w0.heap.size w0 w
theorem Kp.new (w : World) (t t2 : TypeId) (x0 x1 x2 x3 x4 x5 x6 x7 : Int) (c d : Bool) :
    Kp w c x3 ((w.alloc (.cells #[.int .i64 x0, .int .i64 x1, .int .i64 x2, .int .i64 x3, .int .i64 x4, .int .i64 x5, .int .i64 x6, .int .i64 x7, .bool c, .bool d] t)).alloc (.cells #[.int .i64 0, .int .i64 0] t2)) := by
  have hA := Bnd.At.new w t x0 x1 x2 x3 x4 x5 x6 x7 c d
  have hb : Below (w.alloc (.cells #[.int .i64 x0, .int .i64 x1, .int .i64 x2, .int .i64 x3, .int .i64 x4, .int .i64 x5, .int .i64 x6, .int .i64 x7, .bool c, .bool d] t)).heap.size _ _ :=
    (Below.refl _ _).alloc (Nat.le_refl _) (.cells #[.int .i64 0, .int .i64 0] t2)
  have hB := hA.below (by simp) hb
  have hG := Gb.new (w.alloc (.cells #[.int .i64 x0, .int .i64 x1, .int .i64 x2, .int .i64 x3, .int .i64 x4, .int .i64 x5, .int .i64 x6, .int .i64 x7, .bool c, .bool d] t)) t2 0 0
  rw [show (w.alloc (.cells #[.int .i64 x0, .int .i64 x1, .int .i64 x2, .int .i64 x3, .int .i64 x4, .int .i64 x5, .int .i64 x6, .int .i64 x7, .bool c, .bool d] t)).heap.size = w.heap.size + 1 by simp] at hG
  exact ⟨hB.q3, hB.q8, hG, by simp, ((Below.refl _ _).alloc (Nat.le_refl _) _).alloc (by simp) _⟩
theorem Kp.step {w0 w w' : World} {ch : Bool} {body : Int} (h : Kp w0 ch body w) (hb : Below w.heap.size w w') : Kp w0 ch body w' :=
  ⟨(hb.cell (p := ⟨w0.heap.size, 3, none⟩) (by have := h.lt; simp; omega)).trans h.q3, (hb.cell (p := ⟨w0.heap.size, 8, none⟩) (by have := h.lt; simp; omega)).trans h.q8,
   h.f.below h.lt hb, Nat.lt_of_lt_of_le h.lt hb.size, Base.below_step h.b hb⟩

section code
set_option maxHeartbeats 4000000
set_option maxRecDepth 10000
attribute [local go_sem] Base.some_undef
theorem pick_any (p : Nat) (hp : p < 4294967296) (a : Option Addr) (n cap : Nat) (vs : List ByteArray) (w : World) (hv : Strs w a n vs) (hr : room vs ≤ 1000000000) (hne : 0 < n) :
    Calls Tryd.prog 38 #[.int .u32 (p : Nat), .slice a n cap] w fun e w' => e = .returned (ansC (counts (Qk.has p 24) (Qk.has p 25) (Qk.has p 26) (if Qk.has p 24 = true then list vs else vs))) ∧ Below w.heap.size w w' := by
  have H24 := Lib.hid (fun w => Qk.has_any p hp 24 w)
  have H25 := Lib.hid (fun w => Qk.has_any p hp 25 w)
  have H26 := Lib.hid (fun w => Qk.has_any p hp 26 w)
  have HL := Lib.hid (list_at a n cap vs w hv hr)
  have hll := Nat.le_trans (list_le vs) hr
  have hlp := list_ne_nil vs (fun e => by have := hv.1; rw [e] at this; simp at this; omega)
  have hnr := Nat.le_trans (len_room vs) hr
  rw [hv.1] at hnr
  clear hp hr
  generalize Qk.has p 24 = lc at *
  generalize Qk.has p 25 = lf at *
  generalize Qk.has p 26 = ll at *
  cases lc with
  | false =>
    rw [if_neg (by decide)]
    clear HL hll hlp
    obtain ⟨K, rfl⟩ : ∃ K, n = K + 1 := ⟨n - 1, by omega⟩
    obtain ⟨bl, off, rfl, hd, hz⟩ := strs_ends hv
    have hl := hv.1
    have c1 : IntKind.i64.wrap (((K + 1 : Nat) : Int) - 1) = (K : Int) := by rw [wrap_in _ (by omega) (by omega)]; omega
    have c2 : wrap64 (((K + 1 : Nat) : Int) - 1) = (K : Int) := by unfold wrap64; omega
    have i0 : (0 : Int) < ((K + 1 : Nat) : Int) := by omega
    have iK : (K : Int) < ((K + 1 : Nat) : Int) := by omega
    by_cases hK : K = 0
    · rw [counts_one _ _ _ _ (by omega)]
      have t0 : ((K : Int) == 0) = true := beq_iff_eq.2 (by omega)
      clear hv hl hK
      generalize vs.headD ByteArray.empty = y at *
      generalize vs.getLastD ByteArray.empty = z at *
      go_enter Tryd.func38, Tryd.ntmps38
      go_wp2_with (go_at_call 30; with_reducible refine (H24.out _).mono ?_; rintro e w1 ⟨rfl, hw⟩; rw [hw]; clear hw)
      go_ret2
      exact ⟨rfl, Below.refl _ _⟩
    · have t0 : ((K : Int) == 0) = false := beq_eq_false_iff_ne.2 (by omega)
      obtain ⟨O, hO⟩ : ∃ O, counts false lf ll vs = O := ⟨_, rfl⟩
      rw [hO]
      cases lf with
      | true =>
        rw [counts_first] at hO
        subst hO
        clear hv hl hK
        generalize vs.headD ByteArray.empty = y at *
        generalize vs.getLastD ByteArray.empty = z at *
        go_enter Tryd.func38, Tryd.ntmps38
        go_wp2_with (first
          | (go_at_call 30; with_reducible refine (H24.out _).mono ?_; rintro e w1 ⟨rfl, hw⟩; rw [hw]; clear hw)
          | (go_at_call 30; with_reducible refine (H25.out _).mono ?_; rintro e w1 ⟨rfl, hw⟩; rw [hw]; clear hw))
        go_ret2
        exact ⟨rfl, Below.refl _ _⟩
      | false =>
        cases ll
        · rw [counts_none false vs (by omega) rfl] at hO
          subst hO
          clear hv hl hK
          generalize vs.headD ByteArray.empty = y at *
          generalize vs.getLastD ByteArray.empty = z at *
          go_enter Tryd.func38, Tryd.ntmps38
          go_wp2_with (first
            | (go_at_call 30; with_reducible refine (H24.out _).mono ?_; rintro e w1 ⟨rfl, hw⟩; rw [hw]; clear hw)
            | (go_at_call 30; with_reducible refine (H25.out _).mono ?_; rintro e w1 ⟨rfl, hw⟩; rw [hw]; clear hw)
            | (go_at_call 30; with_reducible refine (H26.out _).mono ?_; rintro e w1 ⟨rfl, hw⟩; rw [hw]; clear hw))
          go_ret2
          exact ⟨rfl, Below.refl _ _⟩
        · rw [counts_last false vs (by omega) rfl] at hO
          subst hO
          clear hv hl hK
          generalize vs.headD ByteArray.empty = y at *
          generalize vs.getLastD ByteArray.empty = z at *
          go_enter Tryd.func38, Tryd.ntmps38
          go_wp2_with (first
            | (go_at_call 30; with_reducible refine (H24.out _).mono ?_; rintro e w1 ⟨rfl, hw⟩; rw [hw]; clear hw)
            | (go_at_call 30; with_reducible refine (H25.out _).mono ?_; rintro e w1 ⟨rfl, hw⟩; rw [hw]; clear hw)
            | (go_at_call 30; with_reducible refine (H26.out _).mono ?_; rintro e w1 ⟨rfl, hw⟩; rw [hw]; clear hw))
          go_ret2
          exact ⟨rfl, Below.refl _ _⟩
  | true =>
    rw [if_pos rfl]
    clear hv
    generalize list vs = U at *
    obtain ⟨K, hK1⟩ : ∃ K, U.length = K + 1 := ⟨U.length - 1, by omega⟩
    rw [hK1] at HL hll
    have HE := Lib.hid (fun (a' : Option Addr) (w' : World) (hS : Strs w' a' (K + 1) U) => strs_ends hS)
    have HA := Lib.hid (fun a c w hS => alike_any a (K + 1) c U w hS (by omega))
    have c1 : IntKind.i64.wrap (((K + 1 : Nat) : Int) - 1) = (K : Int) := by rw [wrap_in _ (by omega) (by omega)]; omega
    have c2 : wrap64 (((K + 1 : Nat) : Int) - 1) = (K : Int) := by unfold wrap64; omega
    have i0 : (0 : Int) < ((K + 1 : Nat) : Int) := by omega
    have iK : (K : Int) < ((K + 1 : Nat) : Int) := by omega
    obtain ⟨O, hO⟩ : ∃ O, counts true lf ll U = O := ⟨_, rfl⟩
    rw [hO]
    by_cases hK : K = 0
    · rw [counts_one _ _ _ _ (by omega)] at hO
      subst hO
      have t0 : ((K : Int) == 0) = true := beq_iff_eq.2 (by omega)
      clear hK1 hK
      generalize U.headD ByteArray.empty = y at *
      generalize U.getLastD ByteArray.empty = z at *
      go_enter Tryd.func38, Tryd.ntmps38
      go_wp2_with (first
        | (go_at_call 30; with_reducible refine (H24.out _).mono ?_; rintro e w1 ⟨rfl, hw⟩; rw [hw]; clear hw)
        | (go_at_call 33; with_reducible refine (HL.out).mono ?_; rintro e w1 ⟨b, c, rfl, hS, hb⟩
           obtain ⟨bl, off, rfl, hd, hz⟩ := HE.out _ _ hS
           have HB := Lib.hid hb
           clear hS hb))
      go_ret2
      exact ⟨rfl, HB.out⟩
    have t0 : ((K : Int) == 0) = false := beq_eq_false_iff_ne.2 (by omega)
    have hne1 : ¬ U.length = 1 := by omega
    cases hq : alikeL U with
    | true =>
      rw [counts_alike _ _ _ hq] at hO
      rw [hq] at HA
      subst hO
      clear hK1 hK hq
      generalize U.headD ByteArray.empty = y at *
      generalize U.getLastD ByteArray.empty = z at *
      go_enter Tryd.func38, Tryd.ntmps38
      go_wp2_with (first
        | (go_at_call 56; with_reducible refine (HA.out _ _ _ HS.out).mono ?_; rintro e w2 ⟨rfl, hw⟩; rw [hw]; clear hw)
        | (go_at_call 30; with_reducible refine (H24.out _).mono ?_; rintro e w1 ⟨rfl, hw⟩; rw [hw]; clear hw)
        | (go_at_call 33; with_reducible refine (HL.out).mono ?_; rintro e w1 ⟨b, c, rfl, hS, hb⟩
           obtain ⟨bl, off, rfl, hd, hz⟩ := HE.out _ _ hS
           have HS := Lib.hid hS
           have HB := Lib.hid hb
           clear hS hb))
      go_ret2
      exact ⟨rfl, HB.out⟩
    | false =>
      rw [hq] at HA
      have hO2 : O = if lf = true then some (U.headD ByteArray.empty) else if ll = true then some (U.getLastD ByteArray.empty) else none := by
        rw [← hO]
        cases lf
        · cases ll
          · rw [counts_none true U hne1 hq]; rfl
          · rw [counts_last true U hne1 hq]; rfl
        · rw [counts_first]; rfl
      clear hO hK1 hK hq hne1
      generalize U.headD ByteArray.empty = y at *
      generalize U.getLastD ByteArray.empty = z at *
      cases lf <;> cases ll
      all_goals
        subst hO2
        go_enter Tryd.func38, Tryd.ntmps38
        go_wp2_with (first
          | (go_at_call 56; with_reducible refine (HA.out _ _ _ HS.out).mono ?_; rintro e w2 ⟨rfl, hw⟩; rw [hw]; clear hw)
          | (go_at_call 30; with_reducible refine (H24.out _).mono ?_; rintro e w1 ⟨rfl, hw⟩; rw [hw]; clear hw)
          | (go_at_call 30; with_reducible refine (H25.out _).mono ?_; rintro e w1 ⟨rfl, hw⟩; rw [hw]; clear hw)
          | (go_at_call 30; with_reducible refine (H26.out _).mono ?_; rintro e w1 ⟨rfl, hw⟩; rw [hw]; clear hw)
          | (go_at_call 33; with_reducible refine (HL.out).mono ?_; rintro e w1 ⟨b, c, rfl, hS, hb⟩
             obtain ⟨bl, off, rfl, hd, hz⟩ := HE.out _ _ hS
             have HS := Lib.hid hS
             have HB := Lib.hid hb
             clear hS hb))
        go_ret2
        exact ⟨rfl, HB.out⟩

theorem length_any (p : Nat) (hp : p < 4294967296) (most : Int) (hM : most ≤ 9223372036854775807) (a : Option Addr) (n cap : Nat) (vs : List ByteArray) (w : World) (hv : Strs w a n vs) (hr : room vs ≤ 1000000000) :
    Calls Tryd.prog 22 #[.int .u32 (p : Nat), .int .i64 most, .slice a n cap] w fun e w' => e = .returned (.tuple #[.int .i64 (lengthV (Qk.has p 23) (Qk.has p 24) (Qk.has p 25) (Qk.has p 26) most vs).1, .int .i64 (lengthV (Qk.has p 23) (Qk.has p 24) (Qk.has p 25) (Qk.has p 26) most vs).2]) ∧ Below w.heap.size w w' := by
  obtain ⟨R, hR⟩ : ∃ R, lengthV (Qk.has p 23) (Qk.has p 24) (Qk.has p 25) (Qk.has p 26) most vs = R := ⟨_, rfl⟩
  rw [hR]
  unfold lengthV at hR
  have hl := hv.1
  by_cases hn : n = 0
  · subst hn
    obtain rfl := List.eq_nil_of_length_eq_zero hl
    rw [if_pos rfl] at hR
    subst hR
    go_enter Tryd.func22, Tryd.ntmps22
    go_wp2_with fail
    go_ret2
    exact ⟨rfl, Below.refl _ _⟩
  rw [if_neg (fun e => hn (by rw [← hl, e]; rfl))] at hR
  have HP := Lib.hid (pick_any p hp a n cap vs w hv hr (by omega))
  have H23 := Lib.hid (fun w => Qk.has_any p hp 23 w)
  have HM := Lib.hid (fun s (h : counts (Qk.has p 24) (Qk.has p 25) (Qk.has p 26) (if Qk.has p 24 = true then list vs else vs) = some s) => show s.size ≤ 1000000000 by
    have hne : vs ≠ [] := fun e => hn (by rw [← hl, e]; rfl)
    by_cases hc : Qk.has p 24 = true
    · rw [if_pos hc] at h
      have := list_mem_size vs s (counts_mem _ _ _ _ _ h (fun e => by have := list_ne_nil vs hne; rw [e] at this; exact absurd this (by decide)))
      omega
    · rw [if_neg hc] at h
      have := room_mem vs s (counts_mem _ _ _ _ _ h hne)
      omega)
  have t0 : ((n : Int) == 0) = false := beq_eq_false_iff_ne.2 (by omega)
  generalize counts (Qk.has p 24) (Qk.has p 25) (Qk.has p 26) (if Qk.has p 24 = true then list vs else vs) = O at *
  generalize Qk.has p 23 = lp at *
  clear hv hr hl
  cases O with
  | none =>
    simp only at hR
    subst hR
    clear HM
    unfold ansC at HP
    go_enter Tryd.func22, Tryd.ntmps22
    go_wp2_with (go_at_call 38; with_reducible refine (HP.out).mono ?_; rintro e w1 ⟨rfl, hb⟩)
    go_ret2
    exact ⟨rfl, hb⟩
  | some s =>
    simp only at hR
    have hs := HM.out s rfl
    have HT := Lib.hid (fun w => Tryd.strings_TrimPrefix s ⟨#[43]⟩ w)
    rw [show (ByteArray.mk #[43]).data.toList = [43] from rfl, plus_trim s] at HT
    have HD := Lib.hid (fun w => Num.dec_any most hM (unplus lp s) w (Nat.le_trans (unplus_size lp s) (Nat.le_trans hs (by decide))))
    generalize Num.readOf 10 most (unplus lp s).data.toList = N at *
    obtain ⟨N1, N2⟩ := N
    unfold ansC at HP
    simp only at HD HP
    unfold numV at hR
    simp only at hR
    clear HM hs
    have hcase : (N2 = 22 ∧ R = (0, 400)) ∨ ((N2 == 22) = false ∧ N2 = 23 ∧ R = (0, 413)) ∨ ((N2 == 22) = false ∧ (N2 == 23) = false ∧ R = (N1, 0)) := by
      by_cases h1 : N2 = 22
      · rw [if_pos h1] at hR; exact .inl ⟨h1, hR.symm⟩
      · rw [if_neg h1] at hR
        by_cases h2 : N2 = 23
        · rw [if_pos h2] at hR; exact .inr (.inl ⟨beq_eq_false_iff_ne.2 h1, h2, hR.symm⟩)
        · rw [if_neg h2] at hR; exact .inr (.inr ⟨beq_eq_false_iff_ne.2 h1, beq_eq_false_iff_ne.2 h2, hR.symm⟩)
    clear hR
    cases lp with
    | false =>
      rw [show unplus false s = s from rfl] at HD
      clear HT
      rcases hcase with ⟨rfl, rfl⟩ | ⟨t1, rfl, rfl⟩ | ⟨t1, t2, rfl⟩
      all_goals
        go_enter Tryd.func22, Tryd.ntmps22
        go_wp2_with (first
          | (go_at_call 38; with_reducible refine (HP.out).mono ?_; rintro e w1 ⟨rfl, hb⟩)
          | (go_at_call 30; with_reducible refine (H23.out _).mono ?_; rintro e w2 ⟨rfl, hw⟩; rw [hw]; clear hw)
          | (go_at_call 40; with_reducible refine (HD.out _).mono ?_; rintro e w3 ⟨rfl, hb3⟩))
        go_ret2
        exact ⟨rfl, Base.below_step hb hb3⟩
    | true =>
      generalize unplus true s = T at *
      rcases hcase with ⟨rfl, rfl⟩ | ⟨t1, rfl, rfl⟩ | ⟨t1, t2, rfl⟩
      all_goals
        go_enter Tryd.func22, Tryd.ntmps22
        go_wp2_with (first
          | (go_at_call 38; with_reducible refine (HP.out).mono ?_; rintro e w1 ⟨rfl, hb⟩)
          | (go_at_call 30; with_reducible refine (H23.out _).mono ?_; rintro e w2 ⟨rfl, hw⟩; rw [hw]; clear hw)
          | (go_at_call 39; with_reducible refine (HT.out _).mono ?_; rintro e w2 ⟨rfl, hw⟩; rw [hw]; clear hw)
          | (go_at_call 40; with_reducible refine (HD.out _).mono ?_; rintro e w3 ⟨rfl, hb3⟩))
        go_ret2
        exact ⟨rfl, Base.below_step hb hb3⟩
end code
end Go.Proofs.YtoakalklbpoknaaDoor.Frm
