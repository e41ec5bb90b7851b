/-
  Layer 6 (line): contracts of New and Byte of package line.
-/
import Derived.Test.YthkgdhkfhidghaaLine
import Derived.Test.YthkgdhkfhidghaaQuirks
import Derived.Deep.QuietTactic
import Derived.BigQuiet
namespace Go.Proofs.Ythkgdhkfhidghaa.Ln
open Go.RowKit Base

/-- Within 0 and 4096. -/
def mid (x : Int) : Nat := (min (max x 0) 4096).toNat
theorem mid_le (x : Int) : mid x ≤ 4096 := by unfold mid; omega
theorem mid_a (x : Int) : ((mid x : Nat) : Int) = max 0 (min x 4096) := by unfold mid; omega
theorem mid_b (x : Int) : ((mid x : Nat) : Int) = min (max x 0) 4096 := by unfold mid; omega

/-- How a reader begins, by a profile. -/
abbrev M.of (p : Nat) (most : Int) : M := M.new (Qk.has p 1) (Qk.has p 2) (mid most)

theorem byte_info : (Try.prog.info? 5).map (fun i => (i.zero, i.size, i.bytes)) = some (some (.int .u8 0), 1, 1) := by kernel_rfl

section code
set_option maxHeartbeats 2000000
attribute [local go_sem] Base.some_undef
theorem new_any (p : Nat) (hp : p < 4294967296) (most : Int) (w : World) : Calls Try.prog 8 #[.int .u32 p, .int .i64 most] w fun e w' => e = .returned (ptr w.heap.size) ∧ w' = w.alloc (.cells (cellsOf (M.of p most) (.slice none 0 0)) 47) := by
  have H1 := Lib.hid (Qk.has_any p hp 1); have H2 := Lib.hid (Qk.has_any p hp 2)
  have HM := Lib.hid (mid_a most)
  unfold M.of
  generalize Qk.has p 1 = b1 at *
  generalize Qk.has p 2 = b2 at *
  go_enter Try.func8, Try.ntmps8
  go_wp2_with (go_at_call 16; first
    | (with_reducible refine (H1.out _).mono ?_; rintro e w1 ⟨rfl, hw⟩; rw [hw]; clear hw)
    | (with_reducible refine (H2.out _).mono ?_; rintro e w1 ⟨rfl, hw⟩; rw [hw]; clear hw))
  go_ret
  refine ⟨rfl, ?_⟩
  simp only [M.new, cellsOf, HM.out]

theorem next_any (c : UInt8) (m : M) (hm : m.buf.length ≤ 4096) (w : World) (B g : Nat) (v : Value) (h : Rd w B g v m) :
    Calls Try.prog 18 #[ptr g, byteV c] w fun e w' => ∃ v', e = .returned (.int .i64 (m.next c)) ∧ Rd w' B g v' (m.told c) ∧ Kept g v.ownBlock w w' ∧ Moved w v.ownBlock v'.ownBlock := by
  have HF := Lib.hid (failed_any h.row); have HE := Lib.hid (bareEnd_any h.row); have HC := Lib.hid (behindCR_any c h.row)
  have HR := Lib.hid h
  have stay : m.keeps c = false → m.told c = m := fun hk => by unfold M.told; rw [hk, if_neg (by decide), List.append_nil]
  have ST := Lib.hid stay
  clear stay
  obtain ⟨q0, q1, q2, q3, q4, q5⟩ := five h.row
  clear h q0 q1 q4
  have HN : m.next c = m.next c := rfl
  conv at HN => rhs; unfold M.next
  have HK : m.keeps c = m.keeps c := rfl
  conv at HK => rhs; unfold M.keeps
  cases hf : failed m.last with
  | true =>
    rw [hf] at HF
    rw [HN, hf, if_pos rfl]
    rw [hf, if_pos rfl] at HK
    have HK' := Lib.hid HK
    clear HN HK
    go_enter Try.func18, Try.ntmps18
    go_wp2_with (go_at_call 23; with_reducible refine (HF.out).mono ?_; rintro e w1 ⟨rfl, hw⟩; rw [hw]; clear hw)
    go_ret
    exact ⟨v, rfl, by rw [ST.out HK'.out]; exact HR.out, Kept.refl _ _ _, Moved.refl _ _⟩
  | false =>
    rw [hf] at HF
    rw [HN, hf, if_neg (by decide)]
    rw [hf, if_neg (by decide)] at HK
    clear HN
    cases hp : m.pend with
    | true =>
      rw [hp] at q5
      rw [if_pos rfl]
      rw [hp, if_pos rfl] at HK
      have HK' := Lib.hid HK
      clear HK
      generalize (if c = 10 then (1 : Int) else if m.cr = true then 2 else 3) = x at *
      go_enter Try.func18, Try.ntmps18
      go_wp2_with (first
        | (go_at_call 23; with_reducible refine (HF.out).mono ?_; rintro e w1 ⟨rfl, hw⟩; rw [hw]; clear hw)
        | (go_at_call 24; with_reducible refine (HC.out).mono ?_; rintro e w1 ⟨rfl, hw⟩; rw [hw]; clear hw))
      go_ret
      exact ⟨v, rfl, by rw [ST.out HK'.out]; exact HR.out, Kept.refl _ _ _, Moved.refl _ _⟩
    | false =>
      rw [hp] at q5
      rw [if_neg (by decide)]
      rw [hp, if_neg (by decide)] at HK
      by_cases h10 : c = 10
      · rw [if_pos h10]
        rw [if_pos h10] at HK
        have HK' := Lib.hid HK
        have e10 : ((c.toNat : Int) == 10) = true := by rw [h10]; rfl
        clear HK h10
        generalize (if m.lf = true then (1 : Int) else 3) = x at *
        go_enter Try.func18, Try.ntmps18
        go_wp2_with (first
          | (go_at_call 23; with_reducible refine (HF.out).mono ?_; rintro e w1 ⟨rfl, hw⟩; rw [hw]; clear hw)
          | (go_at_call 25; with_reducible refine (HE.out).mono ?_; rintro e w1 ⟨rfl, hw⟩; rw [hw]; clear hw))
        go_ret
        exact ⟨v, rfl, by rw [ST.out HK'.out]; exact HR.out, Kept.refl _ _ _, Moved.refl _ _⟩
      · rw [if_neg h10]
        rw [if_neg h10] at HK
        have e10 := ne10 h10
        by_cases h13 : c = 13
        · rw [if_pos h13]
          rw [if_pos h13] at HK
          have HK' := Lib.hid HK
          have e13 : ((c.toNat : Int) == 13) = true := by rw [h13]; rfl
          clear HK h13 h10
          go_enter Try.func18, Try.ntmps18
          go_wp2_with (go_at_call 23; with_reducible refine (HF.out).mono ?_; rintro e w1 ⟨rfl, hw⟩; rw [hw]; clear hw)
          go_ret
          exact ⟨v, rfl, by rw [ST.out HK'.out]; exact HR.out, Kept.refl _ _ _, Moved.refl _ _⟩
        · rw [if_neg h13]
          rw [if_neg h13] at HK
          have e13 := ne13 h13
          obtain ⟨bb, cap, rfl, hcap, _, hbb⟩ := own_slice HR.out.own
          by_cases hl : m.buf.length = m.most
          · rw [if_pos hl]
            rw [if_pos hl] at HK
            have HK' := Lib.hid HK
            have eL : ((m.buf.length : Int) == (m.most : Int)) = true := beq_iff_eq.2 (by omega)
            clear HK hbb hl h10 h13
            go_enter Try.func18, Try.ntmps18
            go_wp2_with (go_at_call 23; with_reducible refine (HF.out).mono ?_; rintro e w1 ⟨rfl, hw⟩; rw [hw]; clear hw)
            go_quiet (fail)
            go_wp2
            go_ret
            exact ⟨_, rfl, by rw [ST.out HK'.out]; exact ⟨HR.out.row, HR.out.own, HR.out.ge, HR.out.ne⟩, Kept.of_below (Base.below_drewN (Below.refl _ _) _) _ _, Moved.refl _ _⟩
          · rw [if_neg hl]
            rw [if_neg hl] at HK
            have HK' := Lib.hid HK
            have eL : ((m.buf.length : Int) == (m.most : Int)) = false := beq_eq_false_iff_ne.2 (by omega)
            clear HK hbb hl h10 h13
            obtain ⟨i0, hi, hz0, hz1, hz2⟩ := info_parts byte_info
            have G1 := Lib.hid hi; have G2 := Lib.hid hz0; have G3 := Lib.hid hz1; have G4 := Lib.hid hz2
            clear hi hz0 hz1 hz2
            go_enter Try.func18, Try.ntmps18
            go_wp2_with (go_at_call 23; with_reducible refine (HF.out).mono ?_; rintro e w1 ⟨rfl, hw⟩; rw [hw]; clear hw)
            go_quiet (fail)
            rename_i nq
            have HR1 : Hid (Rd (w.drewN nq) B g (.slice bb m.buf.length cap) m) := Lib.hid ⟨HR.out.row, HR.out.own, HR.out.ge, HR.out.ne⟩
            have HK1 : Hid (Kept g (Value.slice bb m.buf.length cap).ownBlock w (w.drewN nq)) := Lib.hid (Kept.of_below (Base.below_drewN (Below.refl _ _) _) _ _)
            have HS1 : Hid (w.heap.size ≤ (w.drewN nq).heap.size) := Lib.hid (Nat.le_refl _)
            obtain ⟨q0, q1, q2', q3', q4, q5'⟩ := five HR1.out.row
            clear q0 q1 q2' q4 q5' q2 q3 q5 HF HE HC eL
            generalize w.drewN nq = w1 at *
            go_wp2_with (at_builtin; (refine wpList_append_own_at _ rfl _ _ 22 rfl B 5 i0 (.int .u8 0) 1 1 Try.underlying22 G1.out G2.out G3.out G4.out rfl (by decide) _ _ _ rfl (HR1.out.own.alloc _) ⟨w1.heap.size, 0, none⟩ 1 1 [byteV c] rfl rfl ?c1 ?c2 ?c3 ?c4 ?c5 ?_))
            case c1 => exact fun j u hu => by have := news_one w1 (byteV c) 5 j u hu; simpa using this
            case c2 => intro u hu; obtain rfl : u = byteV c := by simpa using hu
                       rfl
            case c3 => unfold maxLen; omega
            case c4 => omega
            case c5 =>
              have := row_lt HR1.out.row
              have := HR1.out.ge
              simp; omega
            intro v0 w2 hown hgr _ hmv
            obtain ⟨b2, cap2, hv2, _, _, _⟩ := own_slice hown
            obtain ⟨v', hv'⟩ : ∃ v', v' = Value.slice b2 (m.buf.length + 1) cap2 := ⟨_, rfl⟩
            rw [hv2] at hown hmv ⊢
            rw [← hv'] at hown hmv
            have hg1 := row_lt HR1.out.row
            have hr2 : w2.heap[g]? = some (.cells (cellsOf m (.slice bb m.buf.length cap)) 47 (0, 0)) :=
              (hgr.block g (by simp; omega) (fun e => HR1.out.ne e.symm)).trans ((Below.heap_alloc w1 _ g hg1).trans HR1.out.row)
            have HB : (m.told c).buf = m.buf ++ [c] := by unfold M.told; rw [HK'.out, if_pos rfl]
            have HD : Hid (Rd (w2.setCell ⟨g, 3, none⟩ v') B g v' (m.told c)) := Lib.hid (by
              have ne' : v'.ownBlock ≠ some g := by
                rcases hmv with e | e
                · rw [e]; exact HR1.out.ne
                · rw [e]; intro h; simp at h; omega
              refine ⟨(row_set hr2 3 v').trans rfl, own_set ?_ ne' 3 v', HR1.out.ge, ne'⟩
              rw [HB, vals_app, List.length_append]
              exact hown)
            have HKK : Hid (Kept g (Value.slice bb m.buf.length cap).ownBlock w (w2.setCell ⟨g, 3, none⟩ v')) := Lib.hid (
              ((HK1.out.trans (Kept.of_below ((Below.refl _ _).alloc (Nat.le_refl _) _) g _) (Moved.refl _ _)).trans (Kept.grown hgr g) (Moved.refl _ _)).trans (Kept.set g _ w2 3 v') (Moved.refl _ _))
            have HMV : Hid (Moved w (Value.slice bb m.buf.length cap).ownBlock v'.ownBlock) := Lib.hid (by
              rcases hmv with e | e
              · exact .inl e
              · exact .inr (.inr ⟨_, e, by have := HS1.out; simp; omega⟩))
            have q3 := (five hr2).2.2.2.1
            have z3 := row_frozen hr2 3
            clear hown hgr hmv hr2 HB hv2
            subst hv'
            go_wp2
            go_ret
            exact ⟨_, rfl, HD.out, HKK.out, HMV.out⟩

theorem clear_of {m : M} (h : ended m.last = false) : m.clear = m := by
  obtain ⟨lf, cr, most, buf, last, pend⟩ := m
  simp only at h
  simp [M.clear, h]
theorem tail_rd {w : World} {B g : Nat} {v : Value} {m : M} {c : UInt8} (h : Rd w B g v (m.clear.told c)) :
    Rd ((w.setCell ⟨g, 4, none⟩ (.int .i64 (m.clear.next c))).setCell ⟨g, 5, none⟩ (.bool (m.clear.next c == 0 && c == 13))) B g v (m.byte c) :=
  ⟨(row_set (row_set h.row 4 _) 5 _).trans rfl, own_set (own_set h.own h.ne 4 _) h.ne 5 _, h.ge, h.ne⟩
theorem clear_rd {w : World} {B g : Nat} {b : Option Addr} {cap : Nat} {m : M} (he : ended m.last = true) (h : Rd w B g (.slice b m.buf.length cap) m) : Rd (w.setCell ⟨g, 3, none⟩ (.slice b 0 cap)) B g (.slice b 0 cap) m.clear := by
  have e : m.clear.buf = [] := by unfold M.clear; simp only; rw [he, if_pos rfl]
  have ne : (Value.slice b 0 cap).ownBlock ≠ some g := by have := h.ne; cases b <;> exact this
  refine ⟨(row_set h.row 3 _).trans rfl, own_set ?_ ne 3 _, h.ge, ne⟩
  rw [e]
  exact own_none h.own

theorem byte_any (c : UInt8) (m : M) (hm : m.Ok) (w : World) (B g : Nat) (v : Value) (h : Rd w B g v m) :
    Calls Try.prog 10 #[ptr g, byteV c] w fun e w' => ∃ v', e = .returned (.int .i64 (m.byte c).last) ∧ Rd w' B g v' (m.byte c) ∧ Kept g v.ownBlock w w' ∧ Moved w v.ownBlock v'.ownBlock := by
  have HE := Lib.hid (ended_any h.row)
  have HNX := Lib.hid (fun (w : World) (v : Value) (h : Rd w B g v m.clear) => next_any c m.clear (Nat.le_trans hm.clear.len hm.most) w B g v h)
  have HT := Lib.hid (fun (w : World) (v : Value) (h : Rd w B g v (m.clear.told c)) => tail_rd h)
  have HR := Lib.hid h
  have hc : (c = 13 ∧ ((c.toNat : Int) == 13) = true ∧ (c == 13) = true) ∨ (((c.toNat : Int) == 13) = false ∧ (c == 13) = false) := by
    by_cases e : c = 13
    · subst e; exact .inl ⟨rfl, rfl, rfl⟩
    · exact .inr ⟨ne13 e, beq_eq_false_iff_ne.2 e⟩
  have hL : (m.byte c).last = m.clear.next c := rfl
  rw [hL]
  have hx : m.clear.next c = 0 ∨ (m.clear.next c == 0) = false := by
    by_cases e : m.clear.next c = 0
    · exact .inl e
    · exact .inr (beq_eq_false_iff_ne.2 e)
  obtain ⟨b, cap, rfl, hcap, hcm, hbb⟩ := own_slice h.own
  have HM := Lib.hid (show (Value.slice b 0 cap).ownBlock = (Value.slice b m.buf.length cap).ownBlock by cases b <;> rfl)
  cases he : ended m.last with
  | true =>
    rw [he] at HE
    have HCL := Lib.hid (clear_rd he h)
    obtain ⟨q0, q1, q2, q3, q4, q5⟩ := five h.row
    have z3 := row_frozen h.row 3
    clear h hL q0 q1 q2 q4 q5
    generalize m.clear.next c = x at *
    unfold maxLen at hcm
    rcases hbb with ⟨rfl, hn0, rfl⟩ | ⟨j, rfl⟩ <;> rcases hx with rfl | hx <;> rcases hc with ⟨hc0, hc, hc'⟩ | ⟨hc, hc'⟩
    all_goals
      try clear hc0
      go_enter Try.func10, Try.ntmps10
      go_wp2_with (first
        | (go_at_call 17; with_reducible refine (HE.out).mono ?_; rintro e w1 ⟨rfl, hw⟩; rw [hw]; clear hw)
        | (go_at_call 18; with_reducible refine (HNX.out _ _ HCL.out).mono ?_; rintro e w2 ⟨v2, rfl, hD, hK, hV⟩
           have hD' := Lib.hid hD
           obtain ⟨_, _, _, _, q4, q5⟩ := five hD.row
           have z4 := row_frozen hD.row 4
           have z5 := row_frozen hD.row 5
           clear hD))
      have HT1 := HT.out _ _ hD'.out
      first | rw [hx, hc'] at HT1 | rw [hc'] at HT1
      go_ret
      exact ⟨_, rfl, HT1, ((Kept.set g _ w 3 _).trans hK (.inl HM.out)).trans ((Kept.set g _ _ 4 _).trans (Kept.set g _ _ 5 _) (Moved.refl _ _)) (Moved.refl _ _), Moved.trans (.inl HM.out) hV (by simp)⟩
  | false =>
    rw [he] at HE
    have HCL : Hid (Rd w B g (.slice b m.buf.length cap) m.clear) := Lib.hid (by rw [clear_of he]; exact h)
    clear h hL
    generalize m.clear.next c = x at *
    unfold maxLen at hcm
    rcases hx with rfl | hx <;> rcases hc with ⟨hc0, hc, hc'⟩ | ⟨hc, hc'⟩
    all_goals
      try clear hc0
      go_enter Try.func10, Try.ntmps10
      go_wp2_with (first
        | (go_at_call 17; with_reducible refine (HE.out).mono ?_; rintro e w1 ⟨rfl, hw⟩; rw [hw]; clear hw)
        | (go_at_call 18; with_reducible refine (HNX.out _ _ HCL.out).mono ?_; rintro e w2 ⟨v2, rfl, hD, hK, hV⟩
           have hD' := Lib.hid hD
           obtain ⟨_, _, _, _, q4, q5⟩ := five hD.row
           have z4 := row_frozen hD.row 4
           have z5 := row_frozen hD.row 5
           clear hD))
      have HT1 := HT.out _ _ hD'.out
      first | rw [hx, hc'] at HT1 | rw [hc'] at HT1
      go_ret
      exact ⟨_, rfl, HT1, hK.trans ((Kept.set g _ _ 4 _).trans (Kept.set g _ _ 5 _) (Moved.refl _ _)) (Moved.refl _ _), hV⟩
end code
end Go.Proofs.Ythkgdhkfhidghaa.Ln
