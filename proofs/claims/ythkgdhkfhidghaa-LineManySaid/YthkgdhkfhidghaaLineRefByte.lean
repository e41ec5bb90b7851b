/-
  Layer 6 (line): the contract of Byte of the document's reader of lines.
-/
import Derived.Test.YthkgdhkfhidghaaLineRef
namespace Go.Proofs.Ythkgdhkfhidghaa.Ln
open Go.RowKit Base

section code
set_option maxHeartbeats 4000000
attribute [local go_sem] Base.some_undef
theorem rbyte_any (c : UInt8) (q : R) (hq : q.most ≤ 4096) (p : Nat) (hp : p < 4294967296) (h1 : q.lf = Qk.has p 1) (h2 : q.cr = Qk.has p 2) (w : World) (B g : Nat) (v : Value) (h : Rr w B g v p q) :
    Calls Try.prog 11 #[ptr g, byteV c] w fun e w' => ∃ v', e = .returned (.int .i64 (q.how c)) ∧ Rr w' B g v' p (q.byte c) ∧ Kept g v.ownBlock w w' ∧ Moved w v.ownBlock v'.ownBlock := by
  have HR := Lib.hid h
  have HS := Lib.hid (start_rr h)
  have HSK := Lib.hid (start_kept w g v.ownBlock)
  have HEN := Lib.hid (fun x => rend_any x _ B g v p q.start HS.out)
  have HDI := Lib.hid (fun x => rdie_any x _ B g v p q.start HS.out)
  have HL := Lib.hid (fun w => Qk.rhas_any p hp 1 w); have HC := Lib.hid (fun w => Qk.rhas_any p hp 2 w)
  obtain ⟨q0, q1, q2, q3, q4, q5, q6⟩ := seven h.row
  have z2 := row_frozen h.row 2
  have z3 := row_frozen h.row 3
  have z4 := row_frozen h.row 4
  have z5 := row_frozen h.row 5
  clear h
  have HH : q.how c = q.how c := rfl
  conv at HH => rhs; unfold R.how
  have HB : q.byte c = q.byte c := rfl
  conv at HB => rhs; unfold R.byte
  generalize hd : q.dead = d at *
  cases d with
  | true =>
    rw [if_pos rfl] at HH HB
    rw [HH, HB]
    clear HH HB
    go_enter Try.func11, Try.ntmps11
    go_wp2
    go_ret
    exact ⟨v, rfl, HR.out, Kept.refl _ _ _, Moved.refl _ _⟩
  | false =>
    rw [if_neg (by decide)] at HH HB
    rw [← h1] at HL
    rw [← h2] at HC
    clear h1 h2
    generalize hCR : q.CR = CR at *
    have hc : (c = 10 ∧ ((c.toNat : Int) == 10) = true ∧ (c == 10) = true) ∨ (¬ c = 10 ∧ ((c.toNat : Int) == 10) = false ∧ (c == 10) = false) := by
      by_cases e : c = 10
      · subst e; exact .inl ⟨rfl, rfl, rfl⟩
      · exact .inr ⟨e, ne10 e, beq_eq_false_iff_ne.2 e⟩
    obtain ⟨b, cap, rfl, hcap, hcm, hbb⟩ := own_slice HR.out.own
    cases CR with
    | true =>
      rcases hc with ⟨hc0, hc1, hc2⟩ | ⟨hc0, hc1, hc2⟩
      · rw [hc2] at HH HB
        simp only [Bool.and_self, if_true] at HH HB
        rw [HH, HB]
        clear HH HB hc0 hc2
        go_enter Try.func11, Try.ntmps11
        go_wp2_with (go_at_call 19; with_reducible refine (HEN.out _).mono ?_; rintro e w2 ⟨rfl, hD, hK⟩)
        go_ret
        exact ⟨_, rfl, hD, HSK.out.trans (hK _) (Moved.refl _ _), .inr (.inl rfl)⟩
      · generalize q.cr = cr at *
        rw [hc2] at HH HB
        cases cr
        all_goals
          simp only [Bool.and_false, Bool.false_eq_true, if_true, if_false] at HH HB
          rw [HH, HB]
          clear HH HB hc0 hc2
          go_enter Try.func11, Try.ntmps11
          go_wp2_with (first
            | (go_at_call 19; with_reducible refine (HEN.out _).mono ?_; rintro e w2 ⟨rfl, hD, hK⟩)
            | (go_at_call 21; with_reducible refine (HDI.out _).mono ?_; rintro e w2 ⟨rfl, hD, hK⟩)
            | (go_at_call 20; with_reducible refine (HC.out _).mono ?_; rintro e w3 ⟨rfl, hw⟩; rw [hw]; clear hw))
          go_ret
          first
            | exact ⟨_, rfl, hD, HSK.out.trans (hK _) (Moved.refl _ _), .inr (.inl rfl)⟩
            | exact ⟨_, rfl, hD, HSK.out.trans (hK _) (Moved.refl _ _), Moved.refl _ _⟩
            | exact ⟨rfl, _, hD, HSK.out.trans (hK _) (Moved.refl _ _), .inr (.inl rfl)⟩
            | exact ⟨rfl, _, hD, HSK.out.trans (hK _) (Moved.refl _ _), Moved.refl _ _⟩
    | false =>
      simp only [Bool.false_and, Bool.false_eq_true, if_false] at HH HB
      rcases hc with ⟨hc0, hc1, hc2⟩ | ⟨hc0, hc1, hc2⟩
      · generalize q.lf = lf at *
        rw [hc2] at HH HB
        cases lf
        all_goals
          simp only [Bool.and_false, Bool.false_eq_true, if_true, if_false] at HH HB
          rw [HH, HB]
          clear HH HB hc0 hc2
          go_enter Try.func11, Try.ntmps11
          go_wp2_with (first
            | (go_at_call 19; with_reducible refine (HEN.out _).mono ?_; rintro e w2 ⟨rfl, hD, hK⟩)
            | (go_at_call 21; with_reducible refine (HDI.out _).mono ?_; rintro e w2 ⟨rfl, hD, hK⟩)
            | (go_at_call 20; with_reducible refine (HL.out _).mono ?_; rintro e w3 ⟨rfl, hw⟩; rw [hw]; clear hw))
          go_ret
          first
            | exact ⟨_, rfl, hD, HSK.out.trans (hK _) (Moved.refl _ _), .inr (.inl rfl)⟩
            | exact ⟨_, rfl, hD, HSK.out.trans (hK _) (Moved.refl _ _), Moved.refl _ _⟩
            | exact ⟨rfl, _, hD, HSK.out.trans (hK _) (Moved.refl _ _), .inr (.inl rfl)⟩
            | exact ⟨rfl, _, hD, HSK.out.trans (hK _) (Moved.refl _ _), Moved.refl _ _⟩
      · rw [hc2] at HH HB
        simp only [Bool.false_and, Bool.false_eq_true, if_false] at HH HB
        by_cases h13 : c = 13
        · have e13 : ((c.toNat : Int) == 13) = true := by rw [h13]; rfl
          have e13' : (c == 13) = true := by rw [h13]; rfl
          rw [e13'] at HH HB
          simp only [if_true] at HH HB
          have HX := Lib.hid (cr_rr HS.out)
          have HXK := Lib.hid (Kept.set g (Value.slice b q.B.length cap).ownBlock ((w.setCell ⟨g, 4, none⟩ (.string ⟨#[]⟩)).setCell ⟨g, 5, none⟩ (.bool false)) 3 (.bool true))
          rw [HH, HB]
          clear HH HB hc0 hc2 h13 e13'
          go_enter Try.func11, Try.ntmps11
          go_wp2
          go_ret
          exact ⟨_, rfl, HX.out, HSK.out.trans HXK.out (Moved.refl _ _), Moved.refl _ _⟩
        · have e13 := ne13 h13
          have e13' : (c == 13) = false := beq_eq_false_iff_ne.2 h13
          rw [e13'] at HH HB
          simp only [Bool.false_eq_true, if_false] at HH HB
          by_cases hl : q.most ≤ q.B.length
          · rw [if_pos hl] at HH HB
            rw [HH, HB]
            have eL : (q.most : Int) ≤ (q.B.length : Int) := by omega
            clear HH HB hc0 hc2 h13 e13' hl
            go_enter Try.func11, Try.ntmps11
            go_wp2
            go_quiet (fail)
            rename_i nq
            have HDI2 := Lib.hid (fun x => rdie_any x (((w.setCell ⟨g, 4, none⟩ (.string ⟨#[]⟩)).setCell ⟨g, 5, none⟩ (.bool false)).drewN nq) B g _ p q.start ⟨HS.out.row, HS.out.own, HS.out.ge, HS.out.ne⟩)
            go_wp2_with (go_at_call 21; with_reducible refine (HDI2.out _).mono ?_; rintro e w2 ⟨rfl, hD, hK⟩)
            go_ret
            exact ⟨_, rfl, hD, (HSK.out.trans (Kept.of_below (Base.below_drewN (Below.refl _ _) nq) g _) (Moved.refl _ _)).trans (hK _) (Moved.refl _ _), Moved.refl _ _⟩
          · rw [if_neg hl] at HH HB
            rw [HH, HB]
            have eL : ¬ (q.most : Int) ≤ (q.B.length : Int) := by omega
            clear HH HB hc0 hc2 h13 e13' hl
            obtain ⟨i0, hi, hz0, hz1, hz2⟩ := info_parts byte_info
            have G1 := Lib.hid hi; have G2 := Lib.hid hz0; have G3 := Lib.hid hz1; have G4 := Lib.hid hz2
            clear hi hz0 hz1 hz2
            go_enter Try.func11, Try.ntmps11
            go_wp2
            go_quiet (fail)
            rename_i nq
            have HK1 : Hid (Kept g (Value.slice b q.B.length cap).ownBlock w (((w.setCell ⟨g, 4, none⟩ (.string ⟨#[]⟩)).setCell ⟨g, 5, none⟩ (.bool false)).drewN nq)) := Lib.hid (HSK.out.trans (Kept.of_below (Base.below_drewN (Below.refl _ _) nq) g _) (Moved.refl _ _))
            have HR1 : Hid (Rr (((w.setCell ⟨g, 4, none⟩ (.string ⟨#[]⟩)).setCell ⟨g, 5, none⟩ (.bool false)).drewN nq) B g (.slice b q.B.length cap) p q.start) := Lib.hid ⟨HS.out.row, HS.out.own, HS.out.ge, HS.out.ne⟩
            generalize ((w.setCell ⟨g, 4, none⟩ (.string ⟨#[]⟩)).setCell ⟨g, 5, none⟩ (.bool false)).drewN nq = w1 at *
            have hg0 := row_lt HR.out.row
            have hs0 := HK1.out.size
            clear q0 q1 q2 q3 q4 q5 q6 z2 z3 z4 z5 HEN HDI HL HC HS HSK
            obtain ⟨q0, q1, q2, q3, q4, q5, q6⟩ := seven HR1.out.row
            clear q0 q1 q3 q4 q5 q6
            go_wp2_with (at_builtin; (refine wpList_append_own_at _ rfl _ _ 22 rfl B 5 i0 (.int .u8 0) 1 1 Try.underlying22 G1.out G2.out G3.out G4.out rfl (by decide) _ _ _ rfl (HR1.out.own.alloc _) ⟨w1.heap.size, 0, none⟩ 1 1 [byteV c] rfl rfl ?c1 ?c2 ?c3 ?c4 ?c5 ?_))
            case c1 => exact fun j u hu => by have := news_one w1 (byteV c) 5 j u hu; simpa using this
            case c2 => intro u hu; obtain rfl : u = byteV c := by simpa using hu
                       rfl
            case c3 => show q.B.length + 1 ≤ maxLen; unfold maxLen; omega
            case c4 => show (q.B.length + 1) * 1 ≤ _; omega
            case c5 =>
              have := row_lt HR1.out.row
              have := HR1.out.ge
              simp; omega
            intro v0 w2 hown hgr _ hmv
            replace hown : w2.ownsRow B 5 1 v0 (q.B.length + 1) (vals q.B ++ [byteV c]) := hown
            obtain ⟨b2, cap2, hv2, _, _, _⟩ := own_slice hown
            obtain ⟨v', hv'⟩ : ∃ v', v' = Value.slice b2 (q.B.length + 1) cap2 := ⟨_, rfl⟩
            rw [hv2] at hown hmv ⊢
            rw [← hv'] at hown hmv
            have hg1 := row_lt HR1.out.row
            have hr2 : w2.heap[g]? = some (.cells (rcells p q.start (.slice b q.B.length cap)) 37 (0, 0)) :=
              (hgr.block g (by simp; omega) (fun e => HR1.out.ne e.symm)).trans ((Below.heap_alloc w1 _ g hg1).trans HR1.out.row)
            have HD : Hid (Rr (w2.setCell ⟨g, 2, none⟩ v') B g v' p { q.start with B := q.B ++ [c] }) := Lib.hid (by
              have ne' : v'.ownBlock ≠ some g := by
                rcases hmv with e | e
                · rw [e]; exact HR1.out.ne
                · rw [e]; intro h; simp at h; omega
              refine ⟨(row_set hr2 2 v').trans rfl, own_set ?_ ne' 2 v', HR1.out.ge, ne'⟩
              rw [vals_app, List.length_append]
              exact hown)
            have HKK : Hid (Kept g (Value.slice b q.B.length cap).ownBlock w (w2.setCell ⟨g, 2, none⟩ v')) := Lib.hid (
              ((HK1.out.trans (Kept.of_below ((Below.refl _ _).alloc (Nat.le_refl _) _) g _) (Moved.refl _ _)).trans (Kept.grown hgr g) (Moved.refl _ _)).trans (Kept.set g _ w2 2 v') (Moved.refl _ _))
            have HMV : Hid (Moved w (Value.slice b q.B.length cap).ownBlock v'.ownBlock) := Lib.hid (by
              rcases hmv with e | e
              · exact .inl e
              · refine .inr (.inr ⟨_, e, ?_⟩)
                first | omega | (simp; omega))
            have q3 := (seven hr2).2.2.1
            have z3 := row_frozen hr2 2
            clear hown hgr hmv hr2 hv2
            subst hv'
            go_wp2
            go_ret
            first | exact ⟨_, rfl, HD.out, HKK.out, HMV.out⟩ | exact ⟨rfl, _, HD.out, HKK.out, HMV.out⟩
end code
end Go.Proofs.Ythkgdhkfhidghaa.Ln
