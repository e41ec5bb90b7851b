/-
  What the proof reaches, part 5.
-/
import Derived.Test.YtbineebnhjifiaaGreatDoorExd
/- PgByte -/
namespace Go.Proofs.YtbineebnhjifiaaGreatDoor.Pg
open Go.RowKit Base Txt Mem Par

/-- A parser, that goes on or has failed, by its blocks. -/
def At (w : World) (B : Zone) (g : Nat) (p : Nat) (b : Bd) (L : List (Option Nat)) : Q → Prop
  | .live s => ∃ q v f bd t o, L = blks g q v f bd t o ∧ PR w B g q v f bd t o p b s
  | .dead e out => ∃ o, L = [some g, o.ownBlock] ∧ Dead w B g e o out
theorem ba_list (l : List UInt8) : (ba l).data.toList = l := rfl
section
variable {w w' : World} {B : Zone} {g q : Nat} {v f bd t o : Value} {p : Nat} {rd : Ln.M} {fs ts : List Fld} {body : List UInt8} {out : List Rec.R}
/-- Its line has gone on. -/
theorem Own.reader (h : Own w B g q v f bd t o rd fs body ts out) {v' : Value} {rd' : Ln.M} (hk : Ln.Kept q v.ownBlock w w') (hm : Ln.Moved w v.ownBlock v'.ownBlock) (hr : Ln.Rd w' B q v' rd') :
    Own w' B g q v' f bd t o rd' fs body ts out ∧ Step (blks g q v f bd t o) (blks g q v' f bd t o) w w' ∧ Keeps [some q, v.ownBlock] w w' := by
  have hk2 : Keeps [some q, v.ownBlock] w w' := Keeps.of_kept hk (by simp) fun k e => by simp [e]
  have hn : ∀ i j, i ≠ 1 → i ≠ 2 → (blks g q v f bd t o)[i]? = some (some j) → some j ∉ [some q, v.ownBlock] := fun i j h1 h2 hj hm => by
    rcases (by simpa using hm : j = q ∨ some j = v.ownBlock) with e | e
    · exact h1 (h.lone i 1 j hj (by rw [e]; rfl))
    · exact h2 (h.lone i 2 j hj (by rw [e]; rfl))
  have e : blks g q v' f bd t o = (blks g q v f bd t o).set 2 v'.ownBlock := rfl
  have ho : v'.ownBlock = none ∨ (blks g q v f bd t o)[2]? = some v'.ownBlock ∨ ∃ k, v'.ownBlock = some k ∧ w.heap.size ≤ k := by
    rcases hm with e | e | e
    · exact .inr (.inl (by rw [e]; rfl))
    · exact .inl e
    · exact .inr (.inr e)
  have hof : Of w (blks g q v f bd t o) (blks g q v' f bd t o) := by rw [e]; exact Of.set 2 _ ho
  have hkL : Keeps (blks g q v f bd t o) w w' := hk2.mono fun k hk => by
    rcases (by simpa using hk : k = q ∨ some k = v.ownBlock) with e | e
    · simp [e]
    · simp [e]
  obtain ⟨ps, h1, h2, h3⟩ := h.O
  refine ⟨⟨hr, hk2.own h.F fun j e => hn 3 j (by decide) (by decide) (by rw [← e]; rfl), hk2.own h.D fun j e => hn 4 j (by decide) (by decide) (by rw [← e]; rfl), hk2.own h.TR fun j e => hn 5 j (by decide) (by decide) (by rw [← e]; rfl),
    ⟨ps, h1, fun x hx => ⟨(h2 x hx).1, by
      have hx2 := (h2 x hx).2.keeps hkL
      exact ⟨hx2.reads, fun k hb => ⟨fun hm => by
        rcases hof k hm with e | e
        · exact (hx2.far k hb).1 e
        · exact absurd ((h2 x hx).2.far k hb).2 (by omega), (hx2.far k hb).2⟩, hx2.off⟩⟩, hk2.own h3 fun j e => hn 6 j (by decide) (by decide) (by rw [← e]; rfl)⟩, ?_, h.ge, Nat.lt_of_lt_of_le h.lt hk2.size, h.zone.of hk2.size hof⟩, ⟨hkL, hof⟩, hk2⟩
  rw [e]
  exact h.lone.set h.in 2 _ ho
theorem PR.reader {b : Bd} {s : T} (h : PR w B g q v f bd t o p b s) {v' : Value} {rd' : Ln.M} (hk : Ln.Kept q v.ownBlock w w') (hm : Ln.Moved w v.ownBlock v'.ownBlock) (hr : Ln.Rd w' B q v' rd') :
    PR w' B g q v' f bd t o p b { s with rd := rd' } ∧ Step (blks g q v f bd t o) (blks g q v' f bd t o) w w' := by
  obtain ⟨h1, h2, h3⟩ := h.own.reader hk hm hr
  refine ⟨⟨h3.row h.row fun hm => ?_, h1⟩, h2⟩
  rcases (by simpa using hm : g = q ∨ some g = v.ownBlock) with e | e
  · exact absurd (h.own.lone 0 1 g rfl (by rw [e]; rfl)) (by decide)
  · exact absurd (h.own.lone 0 2 g rfl (by rw [e]; rfl)) (by decide)
end
section code
set_option maxHeartbeats 4000000
set_option maxRecDepth 20000
attribute [local go_sem] Base.some_undef
variable {w : World} {B : Zone} {g q : Nat} {v f bd t o : Value} {p : Nat} {b : Bd} {s : T}
/-- Its line goes on by a byte. -/
theorem reader_any (c : UInt8) (hm : s.rd.Ok) (h : PR w B g q v f bd t o p b s) : Calls Tryz.prog 135 #[ptr q, .int .u8 (c.toNat : Int)] w fun r w' =>
    ∃ v1, r = .returned (.int .i64 (s.rd.clear.next c)) ∧ PR w' B g q v1 f bd t o p b { s with rd := s.rd.byte c } ∧ Step (blks g q v f bd t o) (blks g q v1 f bd t o) w w' := by
  refine (Ln.byte_any c s.rd hm w B q v h.own.R).mono ?_
  rintro r w' ⟨v1, rfl, h1, h2, h3⟩
  obtain ⟨h4, h5⟩ := h.reader h2 h3 h1
  exact ⟨v1, rfl, h4, h5⟩
theorem inLine_any (hp : p < 4294967296) (hb0 : b.right = true) (c : UInt8) (h : PR w B g q v f bd t o p b s) (ok : s.Ok) (hout : s.out.length ≤ 1000000000) : Calls Tryz.prog 116 #[ptr g, .int .u8 (c.toNat : Int)] w fun r w' =>
    r = .returned (.bool (s.inLine p b c).2) ∧ ∃ L1, At w' B g p b L1 (s.inLine p b c).1 ∧ Step (blks g q v f bd t o) L1 w w' := by
  have hby := reader_any c ok.rd h
  rcases Ln.M.next_is s.rd.clear c with hhow | hhow | hhow | hhow | hhow
  · have HBY := Lib.hid (show Calls Tryz.prog 135 #[ptr q, .int .u8 (c.toNat : Int)] w fun r w' => ∃ v1, r = .returned (.int .i64 0) ∧ PR w' B g q v1 f bd t o p b { s with rd := s.rd.byte c } ∧ Step (blks g q v f bd t o) (blks g q v1 f bd t o) w w' from by rw [← hhow]; exact hby)
    have e0 : s.inLine p b c = (.live { s with rd := s.rd.byte c }, true) := by
      unfold T.inLine
      dsimp only
      rw [hhow, if_pos rfl]
    rw [e0]
    have c25 := h.cs.c25
    clear h hby ok hout e0 hhow
    go_enter Tryz.func116, Tryz.ntmps116
    go_wp2_with
      (go_at_call 135; with_reducible refine HBY.out.mono ?_; rintro r w2 ⟨v1, rfl, h2, hS2⟩
       have HP := Lib.hid h2; have HS := Lib.hid hS2
       clear h2 hS2 c25)
    go_ret
    exact ⟨rfl, _, ⟨_, _, _, _, _, _, rfl, HP.out⟩, HS.out⟩
  · have HBY := Lib.hid (show Calls Tryz.prog 135 #[ptr q, .int .u8 (c.toNat : Int)] w fun r w' => ∃ v1, r = .returned (.int .i64 1) ∧ PR w' B g q v1 f bd t o p b { s with rd := s.rd.byte c } ∧ Step (blks g q v f bd t o) (blks g q v1 f bd t o) w w' from by rw [← hhow]; exact hby)
    have ok2 : ({ s with rd := s.rd.byte c } : T).Ok := ok.byteR c (by rw [hhow]; rfl)
    have hln := line_len ok c
    obtain ⟨ln, hl⟩ : ∃ ln, (s.rd.byte c).line = ln := ⟨_, rfl⟩
    rw [hl] at hln
    obtain ⟨⟨e, t2⟩, hx⟩ : ∃ x, T.line p b { s with rd := s.rd.byte c } ln = x := ⟨_, rfl⟩
    have e0 : s.inLine p b c = (ends (e, t2), true) := by
      unfold T.inLine
      dsimp only
      rw [hhow, if_neg (by decide), if_neg (by decide), if_neg (by decide), hl, hx]
      rfl
    rw [e0]
    have HEN := Lib.hid (fun (w2 : World) (v1 : Value) (h2 : PR w2 B g q v1 f bd t o p b { s with rd := s.rd.byte c }) => endLine_any hp hb0 (ba ln) (by rw [size_ba]; exact hln) h2 ok2 hout)
    have HLI := Lib.hid (fun (w2 : World) (v1 : Value) (h2 : PR w2 B g q v1 f bd t o p b { s with rd := s.rd.byte c }) => Ln.line_any h2.own.R.row h2.own.R.own)
    have HLN := Lib.hid hl; have HX := Lib.hid hx
    have c25 := h.cs.c25
    clear h hby ok2 hln hl hx e0 hhow ok
    rcases Nat.eq_zero_or_pos e with he | he
    · subst he
      go_enter Tryz.func116, Tryz.ntmps116
      go_wp2_with (first
        | (go_at_call 115; with_reducible refine (HFZ.out).mono ?_; rintro r w5 ⟨rfl, hw⟩; rw [hw]; clear hw)
        | (go_at_call 136; with_reducible refine HEN2.out.mono ?_; rintro r w4 ⟨rfl, q1, v2, f1, bd1, t1, o1, hP, hS⟩
           have HP := Lib.hid hP; have HS := Lib.hid (HS2.out.trans hS); have HFZ := Lib.hid (fail_zero w4 g)
           clear hP hS)
        | (go_at_call 137; with_reducible refine HLI2.out.mono ?_; rintro r w3 ⟨rfl, hw⟩; rw [hw]; clear hw)
        | (go_at_call 135; with_reducible refine HBY.out.mono ?_; rintro r w2 ⟨v1, rfl, h2, hS2⟩
           have d25 := h2.cs.c25
           have HS2 := Lib.hid hS2
           have HEN2 := HEN.out w2 v1 h2; have HLI2 := HLI.out w2 v1 h2
           replace HEN2 := Lib.hid (show Calls Tryz.prog 136 #[ptr g, .string (Ln.ba ln)] w2 fun r w' => r = .returned (.int .i64 0) ∧ ∃ q1 v2 f1 bd1 t1 o1, PR w' B g q1 v2 f1 bd1 t1 o1 p b t2 ∧ Step (blks g q v1 f bd t o) (blks g q1 v2 f1 bd1 t1 o1) w2 w' from by rw [ba_list, HX.out] at HEN2; exact HEN2)
           rw [HLN.out] at HLI2
           replace HLI2 := Lib.hid HLI2
           clear h2 hS2 c25))
      go_ret
      exact ⟨rfl, _, ⟨_, _, _, _, _, _, rfl, HP.out⟩, HS.out⟩
    · have hne : e ≠ 0 := by omega
      have e1 : ends (e, t2) = .dead e t2.out := by unfold ends; rw [if_neg hne]
      rw [e1]
      have HNE := Lib.hid hne
      clear he hne e1
      go_enter Tryz.func116, Tryz.ntmps116
      go_wp2_with (first
        | (go_at_call 115; with_reducible refine HFA.out.mono ?_; rintro r w5 ⟨rfl, hD, hS5⟩)
        | (go_at_call 136; with_reducible refine HEN2.out.mono ?_; rintro r w4 ⟨rfl, q1, v2, f1, bd1, t1, o1, hP, hS⟩
           have HS := Lib.hid (HS2.out.trans hS); have HFA := Lib.hid (fail_any hP e HNE.out _ rfl)
           clear hP hS)
        | (go_at_call 137; with_reducible refine HLI2.out.mono ?_; rintro r w3 ⟨rfl, hw⟩; rw [hw]; clear hw)
        | (go_at_call 135; with_reducible refine HBY.out.mono ?_; rintro r w2 ⟨v1, rfl, h2, hS2⟩
           have d25 := h2.cs.c25
           have HS2 := Lib.hid hS2
           have HEN2 := HEN.out w2 v1 h2; have HLI2 := HLI.out w2 v1 h2
           replace HEN2 := Lib.hid (show Calls Tryz.prog 136 #[ptr g, .string (Ln.ba ln)] w2 fun r w' => r = .returned (.int .i64 (e : Int)) ∧ ∃ q1 v2 f1 bd1 t1 o1, PR w' B g q1 v2 f1 bd1 t1 o1 p b t2 ∧ Step (blks g q v1 f bd t o) (blks g q1 v2 f1 bd1 t1 o1) w2 w' from by rw [ba_list, HX.out] at HEN2; exact HEN2)
           rw [HLN.out] at HLI2
           replace HLI2 := Lib.hid HLI2
           clear h2 hS2 c25))
      go_ret
      exact ⟨rfl, _, ⟨_, rfl, hD⟩, HS.out.trans hS5⟩
  · have HBY := Lib.hid (show Calls Tryz.prog 135 #[ptr q, .int .u8 (c.toNat : Int)] w fun r w' => ∃ v1, r = .returned (.int .i64 2) ∧ PR w' B g q v1 f bd t o p b { s with rd := s.rd.byte c } ∧ Step (blks g q v f bd t o) (blks g q v1 f bd t o) w w' from by rw [← hhow]; exact hby)
    have ok2 : ({ s with rd := s.rd.byte c } : T).Ok := ok.byteR c (by rw [hhow]; rfl)
    have hln := line_len ok c
    obtain ⟨ln, hl⟩ : ∃ ln, (s.rd.byte c).line = ln := ⟨_, rfl⟩
    rw [hl] at hln
    obtain ⟨⟨e, t2⟩, hx⟩ : ∃ x, T.line p b { s with rd := s.rd.byte c } ln = x := ⟨_, rfl⟩
    have e0 : s.inLine p b c = (ends (e, t2), false) := by
      unfold T.inLine
      dsimp only
      rw [hhow, if_neg (by decide), if_neg (by decide), if_neg (by decide), hl, hx]
      rfl
    rw [e0]
    have HEN := Lib.hid (fun (w2 : World) (v1 : Value) (h2 : PR w2 B g q v1 f bd t o p b { s with rd := s.rd.byte c }) => endLine_any hp hb0 (ba ln) (by rw [size_ba]; exact hln) h2 ok2 hout)
    have HLI := Lib.hid (fun (w2 : World) (v1 : Value) (h2 : PR w2 B g q v1 f bd t o p b { s with rd := s.rd.byte c }) => Ln.line_any h2.own.R.row h2.own.R.own)
    have HLN := Lib.hid hl; have HX := Lib.hid hx
    have c25 := h.cs.c25
    clear h hby ok2 hln hl hx e0 hhow ok
    rcases Nat.eq_zero_or_pos e with he | he
    · subst he
      go_enter Tryz.func116, Tryz.ntmps116
      go_wp2_with (first
        | (go_at_call 115; with_reducible refine (HFZ.out).mono ?_; rintro r w5 ⟨rfl, hw⟩; rw [hw]; clear hw)
        | (go_at_call 136; with_reducible refine HEN2.out.mono ?_; rintro r w4 ⟨rfl, q1, v2, f1, bd1, t1, o1, hP, hS⟩
           have HP := Lib.hid hP; have HS := Lib.hid (HS2.out.trans hS); have HFZ := Lib.hid (fail_zero w4 g)
           clear hP hS)
        | (go_at_call 137; with_reducible refine HLI2.out.mono ?_; rintro r w3 ⟨rfl, hw⟩; rw [hw]; clear hw)
        | (go_at_call 135; with_reducible refine HBY.out.mono ?_; rintro r w2 ⟨v1, rfl, h2, hS2⟩
           have d25 := h2.cs.c25
           have HS2 := Lib.hid hS2
           have HEN2 := HEN.out w2 v1 h2; have HLI2 := HLI.out w2 v1 h2
           replace HEN2 := Lib.hid (show Calls Tryz.prog 136 #[ptr g, .string (Ln.ba ln)] w2 fun r w' => r = .returned (.int .i64 0) ∧ ∃ q1 v2 f1 bd1 t1 o1, PR w' B g q1 v2 f1 bd1 t1 o1 p b t2 ∧ Step (blks g q v1 f bd t o) (blks g q1 v2 f1 bd1 t1 o1) w2 w' from by rw [ba_list, HX.out] at HEN2; exact HEN2)
           rw [HLN.out] at HLI2
           replace HLI2 := Lib.hid HLI2
           clear h2 hS2 c25))
      go_ret
      exact ⟨rfl, _, ⟨_, _, _, _, _, _, rfl, HP.out⟩, HS.out⟩
    · have hne : e ≠ 0 := by omega
      have e1 : ends (e, t2) = .dead e t2.out := by unfold ends; rw [if_neg hne]
      rw [e1]
      have HNE := Lib.hid hne
      clear he hne e1
      go_enter Tryz.func116, Tryz.ntmps116
      go_wp2_with (first
        | (go_at_call 115; with_reducible refine HFA.out.mono ?_; rintro r w5 ⟨rfl, hD, hS5⟩)
        | (go_at_call 136; with_reducible refine HEN2.out.mono ?_; rintro r w4 ⟨rfl, q1, v2, f1, bd1, t1, o1, hP, hS⟩
           have HS := Lib.hid (HS2.out.trans hS); have HFA := Lib.hid (fail_any hP e HNE.out _ rfl)
           clear hP hS)
        | (go_at_call 137; with_reducible refine HLI2.out.mono ?_; rintro r w3 ⟨rfl, hw⟩; rw [hw]; clear hw)
        | (go_at_call 135; with_reducible refine HBY.out.mono ?_; rintro r w2 ⟨v1, rfl, h2, hS2⟩
           have d25 := h2.cs.c25
           have HS2 := Lib.hid hS2
           have HEN2 := HEN.out w2 v1 h2; have HLI2 := HLI.out w2 v1 h2
           replace HEN2 := Lib.hid (show Calls Tryz.prog 136 #[ptr g, .string (Ln.ba ln)] w2 fun r w' => r = .returned (.int .i64 (e : Int)) ∧ ∃ q1 v2 f1 bd1 t1 o1, PR w' B g q1 v2 f1 bd1 t1 o1 p b t2 ∧ Step (blks g q v1 f bd t o) (blks g q1 v2 f1 bd1 t1 o1) w2 w' from by rw [ba_list, HX.out] at HEN2; exact HEN2)
           rw [HLN.out] at HLI2
           replace HLI2 := Lib.hid HLI2
           clear h2 hS2 c25))
      go_ret
      exact ⟨rfl, _, ⟨_, rfl, hD⟩, HS.out.trans hS5⟩
  · have HBY := Lib.hid (show Calls Tryz.prog 135 #[ptr q, .int .u8 (c.toNat : Int)] w fun r w' => ∃ v1, r = .returned (.int .i64 3) ∧ PR w' B g q v1 f bd t o p b { s with rd := s.rd.byte c } ∧ Step (blks g q v f bd t o) (blks g q v1 f bd t o) w w' from by rw [← hhow]; exact hby)
    have e0 : s.inLine p b c = (.dead 400 s.out, true) := by
      unfold T.inLine
      dsimp only
      rw [hhow, if_neg (by decide), if_pos rfl]
    rw [e0]
    have c25 := h.cs.c25
    clear h hby ok hout e0 hhow
    go_enter Tryz.func116, Tryz.ntmps116
    go_wp2_with (first
      | (go_at_call 115; with_reducible refine HFA.out.mono ?_; rintro r w5 ⟨rfl, hD, hS5⟩)
      | (go_at_call 135; with_reducible refine HBY.out.mono ?_; rintro r w2 ⟨v1, rfl, h2, hS2⟩
         have HS2 := Lib.hid hS2; have HFA := Lib.hid (fail_any h2 400 (by decide) 400 rfl)
         clear h2 hS2 c25))
    go_ret
    exact ⟨rfl, _, ⟨_, rfl, hD⟩, HS2.out.trans hS5⟩
  · have HBY := Lib.hid (show Calls Tryz.prog 135 #[ptr q, .int .u8 (c.toNat : Int)] w fun r w' => ∃ v1, r = .returned (.int .i64 4) ∧ PR w' B g q v1 f bd t o p b { s with rd := s.rd.byte c } ∧ Step (blks g q v f bd t o) (blks g q v1 f bd t o) w w' from by rw [← hhow]; exact hby)
    have HH0 := fun w => Qk.has_any p hp 29 w
    have c25 := h.cs.c25
    have e0 : s.inLine p b c = (if (s.st == 6 && Qk.has p 29) = true then (.live (({ s with rd := s.rd.byte c } : T).enter p 4 b.x0), false) else (.dead (longE s.st) s.out, true)) := by
      unfold T.inLine
      dsimp only
      rw [hhow, if_neg (by decide), if_neg (by decide), if_pos rfl]
    rw [e0]
    have HEN := Lib.hid (fun (w2 : World) (v1 : Value) (h2 : PR w2 B g q v1 f bd t o p b { s with rd := s.rd.byte c }) => enter_any hp h2 4 4 rfl b.x0)
    have HTL := Lib.hid (fun (w2 : World) (v1 : Value) (h2 : PR w2 B g q v1 f bd t o p b { s with rd := s.rd.byte c }) => tooLong_any h2.cs.c24)
    have hlong : longE s.st ≠ 0 := by unfold longE; split <;> first | decide | (split <;> decide)
    have HLE := Lib.hid hlong
    clear h hby ok hout e0 hhow hlong
    by_cases h6 : s.st = 6
    · cases hh : Qk.has p 29 with
      | true =>
        rw [hh] at HH0
        have HH := Lib.hid HH0
        have H6 := Lib.hid h6
        rw [h6, if_pos (by decide)]
        clear HH0 hh h6
        go_enter Tryz.func116, Tryz.ntmps116
        go_wp2_with (first
          | (go_at_call 59; with_reducible refine HE2.out.mono ?_; rintro r w5 ⟨rfl, q1, hP, hS5⟩)
          | (go_at_call 111; with_reducible refine (HH.out _).mono ?_; rintro r w4 ⟨rfl, hw⟩; rw [hw]; clear hw)
          | (go_at_call 135; with_reducible refine HBY.out.mono ?_; rintro r w2 ⟨v1, rfl, h2, hS2⟩
             have HS2 := Lib.hid hS2; have HE2 := Lib.hid (HEN.out w2 v1 h2)
             have c24 : w2.cell? ⟨g, 24, none⟩ = some (.int .i64 6) := by have := h2.cs.c24; rw [show ({ s with rd := s.rd.byte c } : T).st = 6 from H6.out] at this; exact this
             have c13 := h2.cs.c13; have c14 := h2.cs.c14
             clear h2 hS2 c25))
        go_ret
        exact ⟨rfl, _, ⟨_, _, _, _, _, _, rfl, hP⟩, HS2.out.trans hS5⟩
      | false =>
        rw [hh] at HH0
        have HH := Lib.hid HH0
        have H6 := Lib.hid h6
        have e1 : (s.st == 6 && false) = false := Bool.and_false _
        rw [e1, if_neg (by decide)]
        clear HH0 hh h6 e1
        go_enter Tryz.func116, Tryz.ntmps116
        go_wp2_with (first
          | (go_at_call 115; with_reducible refine HFA.out.mono ?_; rintro r w5 ⟨rfl, hD, hS5⟩)
          | (go_at_call 138; with_reducible refine HT2.out.mono ?_; rintro r w4 ⟨rfl, hw⟩; rw [hw]; clear hw)
          | (go_at_call 111; with_reducible refine (HH.out _).mono ?_; rintro r w4 ⟨rfl, hw⟩; rw [hw]; clear hw)
          | (go_at_call 135; with_reducible refine HBY.out.mono ?_; rintro r w2 ⟨v1, rfl, h2, hS2⟩
             have HS2 := Lib.hid hS2; have HT2 := Lib.hid (HTL.out w2 v1 h2); have HFA := Lib.hid (fail_any h2 (longE s.st) HLE.out _ rfl)
             have c24 : w2.cell? ⟨g, 24, none⟩ = some (.int .i64 6) := by have := h2.cs.c24; rw [show ({ s with rd := s.rd.byte c } : T).st = 6 from H6.out] at this; exact this
             have c13 := h2.cs.c13
             clear h2 hS2 c25))
        go_ret
        exact ⟨rfl, _, ⟨_, rfl, hD⟩, HS2.out.trans hS5⟩
    · have t6 : ((s.st : Int) == 6) = false := beq_eq_false_iff_ne.2 (by omega)
      have m6 : ¬ (s.st : Int) = 6 := by omega
      have m6n : ¬ s.st = 6 := h6
      rw [beq_eq_false_iff_ne.2 h6, Bool.false_and, if_neg (by decide)]
      clear HH0 h6
      go_enter Tryz.func116, Tryz.ntmps116
      go_wp2_with (first
        | (go_at_call 115; with_reducible refine HFA.out.mono ?_; rintro r w5 ⟨rfl, hD, hS5⟩)
        | (go_at_call 138; with_reducible refine HT2.out.mono ?_; rintro r w4 ⟨rfl, hw⟩; rw [hw]; clear hw)
        | (go_at_call 135; with_reducible refine HBY.out.mono ?_; rintro r w2 ⟨v1, rfl, h2, hS2⟩
           have HS2 := Lib.hid hS2; have HT2 := Lib.hid (HTL.out w2 v1 h2); have HFA := Lib.hid (fail_any h2 (longE s.st) HLE.out _ rfl)
           have c24 : w2.cell? ⟨g, 24, none⟩ = some (.int .i64 (s.st : Int)) := h2.cs.c24
           clear h2 hS2 c25))
      go_ret
      exact ⟨rfl, _, ⟨_, rfl, hD⟩, HS2.out.trans hS5⟩
theorem look_any (hp : p < 4294967296) (hb0 : b.right = true) (c : UInt8) (h : PR w B g q v f bd t o p b s) (ok : s.Ok) (hout : s.out.length ≤ 1000000000) : Calls Tryz.prog 92 #[ptr g, .int .u8 (c.toNat : Int)] w fun r w' =>
    r = .returned (.bool (s.look p b c).2) ∧ ∃ L1, At w' B g p b L1 (s.look p b c).1 ∧ Step (blks g q v f bd t o) L1 w w' := by
  have H := Lib.hid h
  have c24 := h.cs.c24
  by_cases hbd : bodied s.st = true
  · have hl := ok.left hbd
    have hbl := ok.body
    have HK0 := keep_any c h ⟨hl, by omega⟩ (by omega)
    have HK9 := Lib.hid (fun (w2 : World) (bd1 : Value) (h2 : PR w2 B g q v f bd1 t o p b (s.keep c)) => endData_any hp h2 hout)
    have hst : s.st = 3 ∨ s.st = 5 := by
      unfold bodied at hbd
      simpa using hbd
    unfold T.look
    rw [if_pos hbd]
    clear h hb0 hbl hout ok hbd
    by_cases h1 : s.left = 1
    · rw [decide_eq_true h1] at HK0
      have HK := Lib.hid HK0
      rw [if_pos h1]
      clear HK0 h1 hl
      rcases hst with hst | hst
      · rw [hst] at c24
        clear hst
        go_enter Tryz.func92, Tryz.ntmps92
        go_wp2_with (first
          | (go_at_call 113; with_reducible refine HED.out.mono ?_; rintro r w5 ⟨rfl, q1, v1, f1, bd2, t1, o1, hP, hS5⟩)
          | (go_at_call 112; with_reducible refine HK.out.mono ?_; rintro r w4 ⟨rfl, bd1, h2, hS2⟩
             have HS2 := Lib.hid hS2; have HED := Lib.hid (HK9.out w4 bd1 h2)
             clear h2 hS2))
        go_ret
        exact ⟨rfl, _, ⟨_, _, _, _, _, _, rfl, hP⟩, HS2.out.trans hS5⟩
      · rw [hst] at c24
        clear hst
        go_enter Tryz.func92, Tryz.ntmps92
        go_wp2_with (first
          | (go_at_call 113; with_reducible refine HED.out.mono ?_; rintro r w5 ⟨rfl, q1, v1, f1, bd2, t1, o1, hP, hS5⟩)
          | (go_at_call 112; with_reducible refine HK.out.mono ?_; rintro r w4 ⟨rfl, bd1, h2, hS2⟩
             have HS2 := Lib.hid hS2; have HED := Lib.hid (HK9.out w4 bd1 h2)
             clear h2 hS2))
        go_ret
        exact ⟨rfl, _, ⟨_, _, _, _, _, _, rfl, hP⟩, HS2.out.trans hS5⟩
    · rw [decide_eq_false h1] at HK0
      have HK := Lib.hid HK0
      rw [if_neg h1]
      clear HK0 h1 hl
      rcases hst with hst | hst
      · rw [hst] at c24
        clear hst
        go_enter Tryz.func92, Tryz.ntmps92
        go_wp2_with (go_at_call 112; with_reducible refine HK.out.mono ?_; rintro r w4 ⟨rfl, bd1, h2, hS2⟩)
        go_ret
        exact ⟨rfl, _, ⟨_, _, _, _, _, _, rfl, h2⟩, hS2⟩
      · rw [hst] at c24
        clear hst
        go_enter Tryz.func92, Tryz.ntmps92
        go_wp2_with (go_at_call 112; with_reducible refine HK.out.mono ?_; rintro r w4 ⟨rfl, bd1, h2, hS2⟩)
        go_ret
        exact ⟨rfl, _, ⟨_, _, _, _, _, _, rfl, h2⟩, hS2⟩
  · have hbd : bodied s.st = false := by simpa using hbd
    unfold T.look
    rw [if_neg (by rw [hbd]; decide)]
    have hn : ¬ s.st = 3 ∧ ¬ s.st = 5 := by
      unfold bodied at hbd
      simpa using hbd
    by_cases hhd : headed s.st = true
    · rw [if_pos hhd]
      have hst : s.st = 1 ∨ s.st = 2 ∨ s.st = 7 := by
        unfold headed at hhd
        simp only [Bool.or_eq_true, beq_iff_eq] at hhd
        omega
      have hsz : s.size ≤ 1000000 := Nat.le_trans ok.size (by decide)
      have HQ := Lib.hid ((h.drew 1).bk)
      clear hhd hn
      by_cases hov : b.x2 < (s.counted.size : Int)
      · rw [if_pos hov]
        have HTR := Lib.hid (show (!decide (b.x2 < (s.counted.size : Int))) = false by rw [decide_eq_true hov]; rfl)
        clear hov h hbd hout hb0 ok
        rcases hst with hst | hst | hst
        · rw [hst] at c24
          go_enter Tryz.func92, Tryz.ntmps92
          go_upto_region 10 with fail
          refine Each.region 8 [23, 24, 25, 26, 27, 28, 29, 30]
              [fun v _ => v = .pointer (some ⟨g, 0, none⟩),
                fun v _ => v = .pointer (some ⟨g, 0, none⟩),
                fun v _ => v = .pointer (some ⟨g, 1, none⟩),
                fun v _ => v = .pointer (some ⟨g, 0, none⟩),
                fun v _ => v = .pointer (some ⟨g, 0, none⟩),
                fun v _ => v = .pointer (some ⟨g, 14, none⟩),
                fun v _ => v = .pointer (some ⟨g, 16, none⟩),
                fun v _ => v = .int .i64 b.x2]
              (.act 8 (.quiet 9 .done)) (by kernel_rfl) (by kernel_rfl) (by kernel_rfl) (by kernel_rfl) (fun _ _ d _ _ h => by cases d <;> exact h) (by rfl) (by rfl)
              ⟨Each.Lasts.eq _, Each.Lasts.eq _, Each.Lasts.eq _, Each.Lasts.eq _, Each.Lasts.eq _, Each.Lasts.eq _, Each.Lasts.eq _, Each.Lasts.eq _, trivial⟩ ?_ ?_
          · refine ⟨?_, ?_, ?_, ?_, ?_, ?_, ?_, ?_, trivial⟩
            · refine Each.fine rfl (fun ev w1 hR hb hh => ?_)
              clear hh
              have e0 := hR.old 0 rfl
              simp only [Array.getD_eq_getD_getElem?, List.getElem?_toArray, List.getElem?_cons_zero, Option.getD_some] at e0
              refine Each.Goes.same ?_
              go_simp
              try with_reducible rfl
            · refine Each.fine rfl (fun ev w1 hR hb hh => ?_)
              have e23 : (ev (.tmp 23) = .pointer (some ⟨g, 0, none⟩)) := hh.at 0
              clear hh
              refine Each.Goes.same ?_
              go_simp
              try with_reducible rfl
            · refine Each.fine rfl (fun ev w1 hR hb hh => ?_)
              have e24 : (ev (.tmp 24) = .pointer (some ⟨g, 0, none⟩)) := hh.at 0
              clear hh
              refine Each.Goes.same ?_
              go_simp
              try with_reducible rfl
            · refine Each.fine rfl (fun ev w1 hR hb hh => ?_)
              clear hh
              have e0 := hR.old 0 rfl
              simp only [Array.getD_eq_getD_getElem?, List.getElem?_toArray, List.getElem?_cons_zero, Option.getD_some] at e0
              refine Each.Goes.same ?_
              go_simp
              try with_reducible rfl
            · refine Each.fine rfl (fun ev w1 hR hb hh => ?_)
              have e26 : (ev (.tmp 26) = .pointer (some ⟨g, 0, none⟩)) := hh.at 0
              clear hh
              refine Each.Goes.same ?_
              go_simp
              try with_reducible rfl
            · refine Each.fine rfl (fun ev w1 hR hb hh => ?_)
              have e27 : (ev (.tmp 27) = .pointer (some ⟨g, 0, none⟩)) := hh.at 0
              clear hh
              refine Each.Goes.same ?_
              go_simp
              try with_reducible rfl
            · refine Each.fine rfl (fun ev w1 hR hb hh => ?_)
              have e28 : (ev (.tmp 28) = .pointer (some ⟨g, 14, none⟩)) := hh.at 0
              clear hh
              refine Each.Goes.same ?_
              go_simp
              try with_reducible rfl
            · refine Each.fine rfl (fun ev w1 hR hb hh => ?_)
              have e29 : (ev (.tmp 29) = .pointer (some ⟨g, 16, none⟩)) := hh.at 0
              clear hh
              have q16 := (HQ.out.below hb).c 16 _ rfl
              refine Each.Goes.same ?_
              go_simp
              try with_reducible rfl
          intro g1 w2 hb hf
          have z25 : (g1 25 = .pointer (some ⟨g, 1, none⟩)) := hf.at 2
          have z30 : (g1 30 = .int .i64 b.x2) := hf.at 7
          clear hf
          simp only [Each.putg, Act.put, List.setIfInBounds_toArray, List.set_cons_zero, List.set_cons_succ]
          rw [z25, z30]
          simp only [Tree.grow, Tree.put1, List.getElem?_cons_zero, List.getElem?_cons_succ]
          have HS1 := Lib.hid (Step.of_below hb (L := blks g q v f bd t o))
          have HFI := Lib.hid (count_any b.x2 (H.out.below hb) hsz)
          clear hb HQ
          rw [HTR.out] at HFI
          refine Tree.change (by rfl) (fun K hK => ?_)
          refine Each.oper_enter (g := 114) (args := #[.pointer (some ⟨g, 1, none⟩), .int .i64 b.x2]) (by go_simp) (HFI.out.mono ?_)
          rintro r w3 ⟨rfl, hP, hS⟩
          refine ⟨_, rfl, ?_⟩
          refine hK _ _ trivial ?_
          clear hK K
          simp only [Act.put, List.setIfInBounds_toArray, List.set_cons_zero, List.set_cons_succ]
          refine Tree.quiet (by rfl) (.bool true) (fun _ _ => by go_simp) ?_
          simp only [Act.put, List.setIfInBounds_toArray, List.set_cons_zero, List.set_cons_succ]
          refine Tree.done ?_
          have HP2 := Lib.hid hP; have HS2 := Lib.hid (HS1.out.trans hS)
          clear HFI HS1 hS
          have HF := Lib.hid (fail_any hP 431 (by decide) 431 rfl)
          clear hP
          go_wp2_with (go_at_call 115; with_reducible refine HF.out.mono ?_; rintro r w4 ⟨rfl, hD, hS4⟩)
          go_ret
          exact ⟨rfl, _, ⟨_, rfl, by rw [counted_out] at hD; exact hD⟩, HS2.out.trans hS4⟩
        · rw [hst] at c24
          go_enter Tryz.func92, Tryz.ntmps92
          go_upto_region 10 with fail
          refine Each.region 8 [23, 24, 25, 26, 27, 28, 29, 30]
              [fun v _ => v = .pointer (some ⟨g, 0, none⟩),
                fun v _ => v = .pointer (some ⟨g, 0, none⟩),
                fun v _ => v = .pointer (some ⟨g, 1, none⟩),
                fun v _ => v = .pointer (some ⟨g, 0, none⟩),
                fun v _ => v = .pointer (some ⟨g, 0, none⟩),
                fun v _ => v = .pointer (some ⟨g, 14, none⟩),
                fun v _ => v = .pointer (some ⟨g, 16, none⟩),
                fun v _ => v = .int .i64 b.x2]
              (.act 8 (.quiet 9 .done)) (by kernel_rfl) (by kernel_rfl) (by kernel_rfl) (by kernel_rfl) (fun _ _ d _ _ h => by cases d <;> exact h) (by rfl) (by rfl)
              ⟨Each.Lasts.eq _, Each.Lasts.eq _, Each.Lasts.eq _, Each.Lasts.eq _, Each.Lasts.eq _, Each.Lasts.eq _, Each.Lasts.eq _, Each.Lasts.eq _, trivial⟩ ?_ ?_
          · refine ⟨?_, ?_, ?_, ?_, ?_, ?_, ?_, ?_, trivial⟩
            · refine Each.fine rfl (fun ev w1 hR hb hh => ?_)
              clear hh
              have e0 := hR.old 0 rfl
              simp only [Array.getD_eq_getD_getElem?, List.getElem?_toArray, List.getElem?_cons_zero, Option.getD_some] at e0
              refine Each.Goes.same ?_
              go_simp
              try with_reducible rfl
            · refine Each.fine rfl (fun ev w1 hR hb hh => ?_)
              have e23 : (ev (.tmp 23) = .pointer (some ⟨g, 0, none⟩)) := hh.at 0
              clear hh
              refine Each.Goes.same ?_
              go_simp
              try with_reducible rfl
            · refine Each.fine rfl (fun ev w1 hR hb hh => ?_)
              have e24 : (ev (.tmp 24) = .pointer (some ⟨g, 0, none⟩)) := hh.at 0
              clear hh
              refine Each.Goes.same ?_
              go_simp
              try with_reducible rfl
            · refine Each.fine rfl (fun ev w1 hR hb hh => ?_)
              clear hh
              have e0 := hR.old 0 rfl
              simp only [Array.getD_eq_getD_getElem?, List.getElem?_toArray, List.getElem?_cons_zero, Option.getD_some] at e0
              refine Each.Goes.same ?_
              go_simp
              try with_reducible rfl
            · refine Each.fine rfl (fun ev w1 hR hb hh => ?_)
              have e26 : (ev (.tmp 26) = .pointer (some ⟨g, 0, none⟩)) := hh.at 0
              clear hh
              refine Each.Goes.same ?_
              go_simp
              try with_reducible rfl
            · refine Each.fine rfl (fun ev w1 hR hb hh => ?_)
              have e27 : (ev (.tmp 27) = .pointer (some ⟨g, 0, none⟩)) := hh.at 0
              clear hh
              refine Each.Goes.same ?_
              go_simp
              try with_reducible rfl
            · refine Each.fine rfl (fun ev w1 hR hb hh => ?_)
              have e28 : (ev (.tmp 28) = .pointer (some ⟨g, 14, none⟩)) := hh.at 0
              clear hh
              refine Each.Goes.same ?_
              go_simp
              try with_reducible rfl
            · refine Each.fine rfl (fun ev w1 hR hb hh => ?_)
              have e29 : (ev (.tmp 29) = .pointer (some ⟨g, 16, none⟩)) := hh.at 0
              clear hh
              have q16 := (HQ.out.below hb).c 16 _ rfl
              refine Each.Goes.same ?_
              go_simp
              try with_reducible rfl
          intro g1 w2 hb hf
          have z25 : (g1 25 = .pointer (some ⟨g, 1, none⟩)) := hf.at 2
          have z30 : (g1 30 = .int .i64 b.x2) := hf.at 7
          clear hf
          simp only [Each.putg, Act.put, List.setIfInBounds_toArray, List.set_cons_zero, List.set_cons_succ]
          rw [z25, z30]
          simp only [Tree.grow, Tree.put1, List.getElem?_cons_zero, List.getElem?_cons_succ]
          have HS1 := Lib.hid (Step.of_below hb (L := blks g q v f bd t o))
          have HFI := Lib.hid (count_any b.x2 (H.out.below hb) hsz)
          clear hb HQ
          rw [HTR.out] at HFI
          refine Tree.change (by rfl) (fun K hK => ?_)
          refine Each.oper_enter (g := 114) (args := #[.pointer (some ⟨g, 1, none⟩), .int .i64 b.x2]) (by go_simp) (HFI.out.mono ?_)
          rintro r w3 ⟨rfl, hP, hS⟩
          refine ⟨_, rfl, ?_⟩
          refine hK _ _ trivial ?_
          clear hK K
          simp only [Act.put, List.setIfInBounds_toArray, List.set_cons_zero, List.set_cons_succ]
          refine Tree.quiet (by rfl) (.bool true) (fun _ _ => by go_simp) ?_
          simp only [Act.put, List.setIfInBounds_toArray, List.set_cons_zero, List.set_cons_succ]
          refine Tree.done ?_
          have HP2 := Lib.hid hP; have HS2 := Lib.hid (HS1.out.trans hS)
          clear HFI HS1 hS
          have HF := Lib.hid (fail_any hP 431 (by decide) 431 rfl)
          clear hP
          go_wp2_with (go_at_call 115; with_reducible refine HF.out.mono ?_; rintro r w4 ⟨rfl, hD, hS4⟩)
          go_ret
          exact ⟨rfl, _, ⟨_, rfl, by rw [counted_out] at hD; exact hD⟩, HS2.out.trans hS4⟩
        · rw [hst] at c24
          go_enter Tryz.func92, Tryz.ntmps92
          go_upto_region 10 with fail
          refine Each.region 8 [23, 24, 25, 26, 27, 28, 29, 30]
              [fun v _ => v = .pointer (some ⟨g, 0, none⟩),
                fun v _ => v = .pointer (some ⟨g, 0, none⟩),
                fun v _ => v = .pointer (some ⟨g, 1, none⟩),
                fun v _ => v = .pointer (some ⟨g, 0, none⟩),
                fun v _ => v = .pointer (some ⟨g, 0, none⟩),
                fun v _ => v = .pointer (some ⟨g, 14, none⟩),
                fun v _ => v = .pointer (some ⟨g, 16, none⟩),
                fun v _ => v = .int .i64 b.x2]
              (.act 8 (.quiet 9 .done)) (by kernel_rfl) (by kernel_rfl) (by kernel_rfl) (by kernel_rfl) (fun _ _ d _ _ h => by cases d <;> exact h) (by rfl) (by rfl)
              ⟨Each.Lasts.eq _, Each.Lasts.eq _, Each.Lasts.eq _, Each.Lasts.eq _, Each.Lasts.eq _, Each.Lasts.eq _, Each.Lasts.eq _, Each.Lasts.eq _, trivial⟩ ?_ ?_
          · refine ⟨?_, ?_, ?_, ?_, ?_, ?_, ?_, ?_, trivial⟩
            · refine Each.fine rfl (fun ev w1 hR hb hh => ?_)
              clear hh
              have e0 := hR.old 0 rfl
              simp only [Array.getD_eq_getD_getElem?, List.getElem?_toArray, List.getElem?_cons_zero, Option.getD_some] at e0
              refine Each.Goes.same ?_
              go_simp
              try with_reducible rfl
            · refine Each.fine rfl (fun ev w1 hR hb hh => ?_)
              have e23 : (ev (.tmp 23) = .pointer (some ⟨g, 0, none⟩)) := hh.at 0
              clear hh
              refine Each.Goes.same ?_
              go_simp
              try with_reducible rfl
            · refine Each.fine rfl (fun ev w1 hR hb hh => ?_)
              have e24 : (ev (.tmp 24) = .pointer (some ⟨g, 0, none⟩)) := hh.at 0
              clear hh
              refine Each.Goes.same ?_
              go_simp
              try with_reducible rfl
            · refine Each.fine rfl (fun ev w1 hR hb hh => ?_)
              clear hh
              have e0 := hR.old 0 rfl
              simp only [Array.getD_eq_getD_getElem?, List.getElem?_toArray, List.getElem?_cons_zero, Option.getD_some] at e0
              refine Each.Goes.same ?_
              go_simp
              try with_reducible rfl
            · refine Each.fine rfl (fun ev w1 hR hb hh => ?_)
              have e26 : (ev (.tmp 26) = .pointer (some ⟨g, 0, none⟩)) := hh.at 0
              clear hh
              refine Each.Goes.same ?_
              go_simp
              try with_reducible rfl
            · refine Each.fine rfl (fun ev w1 hR hb hh => ?_)
              have e27 : (ev (.tmp 27) = .pointer (some ⟨g, 0, none⟩)) := hh.at 0
              clear hh
              refine Each.Goes.same ?_
              go_simp
              try with_reducible rfl
            · refine Each.fine rfl (fun ev w1 hR hb hh => ?_)
              have e28 : (ev (.tmp 28) = .pointer (some ⟨g, 14, none⟩)) := hh.at 0
              clear hh
              refine Each.Goes.same ?_
              go_simp
              try with_reducible rfl
            · refine Each.fine rfl (fun ev w1 hR hb hh => ?_)
              have e29 : (ev (.tmp 29) = .pointer (some ⟨g, 16, none⟩)) := hh.at 0
              clear hh
              have q16 := (HQ.out.below hb).c 16 _ rfl
              refine Each.Goes.same ?_
              go_simp
              try with_reducible rfl
          intro g1 w2 hb hf
          have z25 : (g1 25 = .pointer (some ⟨g, 1, none⟩)) := hf.at 2
          have z30 : (g1 30 = .int .i64 b.x2) := hf.at 7
          clear hf
          simp only [Each.putg, Act.put, List.setIfInBounds_toArray, List.set_cons_zero, List.set_cons_succ]
          rw [z25, z30]
          simp only [Tree.grow, Tree.put1, List.getElem?_cons_zero, List.getElem?_cons_succ]
          have HS1 := Lib.hid (Step.of_below hb (L := blks g q v f bd t o))
          have HFI := Lib.hid (count_any b.x2 (H.out.below hb) hsz)
          clear hb HQ
          rw [HTR.out] at HFI
          refine Tree.change (by rfl) (fun K hK => ?_)
          refine Each.oper_enter (g := 114) (args := #[.pointer (some ⟨g, 1, none⟩), .int .i64 b.x2]) (by go_simp) (HFI.out.mono ?_)
          rintro r w3 ⟨rfl, hP, hS⟩
          refine ⟨_, rfl, ?_⟩
          refine hK _ _ trivial ?_
          clear hK K
          simp only [Act.put, List.setIfInBounds_toArray, List.set_cons_zero, List.set_cons_succ]
          refine Tree.quiet (by rfl) (.bool true) (fun _ _ => by go_simp) ?_
          simp only [Act.put, List.setIfInBounds_toArray, List.set_cons_zero, List.set_cons_succ]
          refine Tree.done ?_
          have HP2 := Lib.hid hP; have HS2 := Lib.hid (HS1.out.trans hS)
          clear HFI HS1 hS
          have HF := Lib.hid (fail_any hP 431 (by decide) 431 rfl)
          clear hP
          go_wp2_with (go_at_call 115; with_reducible refine HF.out.mono ?_; rintro r w4 ⟨rfl, hD, hS4⟩)
          go_ret
          exact ⟨rfl, _, ⟨_, rfl, by rw [counted_out] at hD; exact hD⟩, HS2.out.trans hS4⟩
      · rw [if_neg hov]
        have HTR := Lib.hid (show (!decide (b.x2 < (s.counted.size : Int))) = true by rw [decide_eq_false hov]; rfl)
        clear h hbd
        rcases hst with hst | hst | hst
        · rw [hst] at c24
          go_enter Tryz.func92, Tryz.ntmps92
          go_upto_region 10 with fail
          refine Each.region 8 [23, 24, 25, 26, 27, 28, 29, 30]
              [fun v _ => v = .pointer (some ⟨g, 0, none⟩),
                fun v _ => v = .pointer (some ⟨g, 0, none⟩),
                fun v _ => v = .pointer (some ⟨g, 1, none⟩),
                fun v _ => v = .pointer (some ⟨g, 0, none⟩),
                fun v _ => v = .pointer (some ⟨g, 0, none⟩),
                fun v _ => v = .pointer (some ⟨g, 14, none⟩),
                fun v _ => v = .pointer (some ⟨g, 16, none⟩),
                fun v _ => v = .int .i64 b.x2]
              (.act 8 (.quiet 9 .done)) (by kernel_rfl) (by kernel_rfl) (by kernel_rfl) (by kernel_rfl) (fun _ _ d _ _ h => by cases d <;> exact h) (by rfl) (by rfl)
              ⟨Each.Lasts.eq _, Each.Lasts.eq _, Each.Lasts.eq _, Each.Lasts.eq _, Each.Lasts.eq _, Each.Lasts.eq _, Each.Lasts.eq _, Each.Lasts.eq _, trivial⟩ ?_ ?_
          · refine ⟨?_, ?_, ?_, ?_, ?_, ?_, ?_, ?_, trivial⟩
            · refine Each.fine rfl (fun ev w1 hR hb hh => ?_)
              clear hh
              have e0 := hR.old 0 rfl
              simp only [Array.getD_eq_getD_getElem?, List.getElem?_toArray, List.getElem?_cons_zero, Option.getD_some] at e0
              refine Each.Goes.same ?_
              go_simp
              try with_reducible rfl
            · refine Each.fine rfl (fun ev w1 hR hb hh => ?_)
              have e23 : (ev (.tmp 23) = .pointer (some ⟨g, 0, none⟩)) := hh.at 0
              clear hh
              refine Each.Goes.same ?_
              go_simp
              try with_reducible rfl
            · refine Each.fine rfl (fun ev w1 hR hb hh => ?_)
              have e24 : (ev (.tmp 24) = .pointer (some ⟨g, 0, none⟩)) := hh.at 0
              clear hh
              refine Each.Goes.same ?_
              go_simp
              try with_reducible rfl
            · refine Each.fine rfl (fun ev w1 hR hb hh => ?_)
              clear hh
              have e0 := hR.old 0 rfl
              simp only [Array.getD_eq_getD_getElem?, List.getElem?_toArray, List.getElem?_cons_zero, Option.getD_some] at e0
              refine Each.Goes.same ?_
              go_simp
              try with_reducible rfl
            · refine Each.fine rfl (fun ev w1 hR hb hh => ?_)
              have e26 : (ev (.tmp 26) = .pointer (some ⟨g, 0, none⟩)) := hh.at 0
              clear hh
              refine Each.Goes.same ?_
              go_simp
              try with_reducible rfl
            · refine Each.fine rfl (fun ev w1 hR hb hh => ?_)
              have e27 : (ev (.tmp 27) = .pointer (some ⟨g, 0, none⟩)) := hh.at 0
              clear hh
              refine Each.Goes.same ?_
              go_simp
              try with_reducible rfl
            · refine Each.fine rfl (fun ev w1 hR hb hh => ?_)
              have e28 : (ev (.tmp 28) = .pointer (some ⟨g, 14, none⟩)) := hh.at 0
              clear hh
              refine Each.Goes.same ?_
              go_simp
              try with_reducible rfl
            · refine Each.fine rfl (fun ev w1 hR hb hh => ?_)
              have e29 : (ev (.tmp 29) = .pointer (some ⟨g, 16, none⟩)) := hh.at 0
              clear hh
              have q16 := (HQ.out.below hb).c 16 _ rfl
              refine Each.Goes.same ?_
              go_simp
              try with_reducible rfl
          intro g1 w2 hb hf
          have z25 : (g1 25 = .pointer (some ⟨g, 1, none⟩)) := hf.at 2
          have z30 : (g1 30 = .int .i64 b.x2) := hf.at 7
          clear hf
          simp only [Each.putg, Act.put, List.setIfInBounds_toArray, List.set_cons_zero, List.set_cons_succ]
          rw [z25, z30]
          simp only [Tree.grow, Tree.put1, List.getElem?_cons_zero, List.getElem?_cons_succ]
          have HS1 := Lib.hid (Step.of_below hb (L := blks g q v f bd t o))
          have HFI := Lib.hid (count_any b.x2 (H.out.below hb) hsz)
          clear hb HQ
          rw [HTR.out] at HFI
          refine Tree.change (by rfl) (fun K hK => ?_)
          refine Each.oper_enter (g := 114) (args := #[.pointer (some ⟨g, 1, none⟩), .int .i64 b.x2]) (by go_simp) (HFI.out.mono ?_)
          rintro r w3 ⟨rfl, hP, hS⟩
          refine ⟨_, rfl, ?_⟩
          refine hK _ _ trivial ?_
          clear hK K
          simp only [Act.put, List.setIfInBounds_toArray, List.set_cons_zero, List.set_cons_succ]
          refine Tree.quiet (by rfl) (.bool false) (fun _ _ => by go_simp) ?_
          simp only [Act.put, List.setIfInBounds_toArray, List.set_cons_zero, List.set_cons_succ]
          refine Tree.done ?_
          have HP2 := Lib.hid hP; have HS2 := Lib.hid (HS1.out.trans hS)
          clear HFI HS1 hS
          have HI := Lib.hid (inLine_any hp hb0 c hP (ok.counted hb0 hov) (by rw [counted_out]; exact hout))
          clear hP
          go_wp2_with (go_at_call 116; with_reducible refine HI.out.mono ?_; rintro r w4 ⟨rfl, L4, hA, hS4⟩)
          go_ret
          exact ⟨rfl, L4, hA, HS2.out.trans hS4⟩
        · rw [hst] at c24
          go_enter Tryz.func92, Tryz.ntmps92
          go_upto_region 10 with fail
          refine Each.region 8 [23, 24, 25, 26, 27, 28, 29, 30]
              [fun v _ => v = .pointer (some ⟨g, 0, none⟩),
                fun v _ => v = .pointer (some ⟨g, 0, none⟩),
                fun v _ => v = .pointer (some ⟨g, 1, none⟩),
                fun v _ => v = .pointer (some ⟨g, 0, none⟩),
                fun v _ => v = .pointer (some ⟨g, 0, none⟩),
                fun v _ => v = .pointer (some ⟨g, 14, none⟩),
                fun v _ => v = .pointer (some ⟨g, 16, none⟩),
                fun v _ => v = .int .i64 b.x2]
              (.act 8 (.quiet 9 .done)) (by kernel_rfl) (by kernel_rfl) (by kernel_rfl) (by kernel_rfl) (fun _ _ d _ _ h => by cases d <;> exact h) (by rfl) (by rfl)
              ⟨Each.Lasts.eq _, Each.Lasts.eq _, Each.Lasts.eq _, Each.Lasts.eq _, Each.Lasts.eq _, Each.Lasts.eq _, Each.Lasts.eq _, Each.Lasts.eq _, trivial⟩ ?_ ?_
          · refine ⟨?_, ?_, ?_, ?_, ?_, ?_, ?_, ?_, trivial⟩
            · refine Each.fine rfl (fun ev w1 hR hb hh => ?_)
              clear hh
              have e0 := hR.old 0 rfl
              simp only [Array.getD_eq_getD_getElem?, List.getElem?_toArray, List.getElem?_cons_zero, Option.getD_some] at e0
              refine Each.Goes.same ?_
              go_simp
              try with_reducible rfl
            · refine Each.fine rfl (fun ev w1 hR hb hh => ?_)
              have e23 : (ev (.tmp 23) = .pointer (some ⟨g, 0, none⟩)) := hh.at 0
              clear hh
              refine Each.Goes.same ?_
              go_simp
              try with_reducible rfl
            · refine Each.fine rfl (fun ev w1 hR hb hh => ?_)
              have e24 : (ev (.tmp 24) = .pointer (some ⟨g, 0, none⟩)) := hh.at 0
              clear hh
              refine Each.Goes.same ?_
              go_simp
              try with_reducible rfl
            · refine Each.fine rfl (fun ev w1 hR hb hh => ?_)
              clear hh
              have e0 := hR.old 0 rfl
              simp only [Array.getD_eq_getD_getElem?, List.getElem?_toArray, List.getElem?_cons_zero, Option.getD_some] at e0
              refine Each.Goes.same ?_
              go_simp
              try with_reducible rfl
            · refine Each.fine rfl (fun ev w1 hR hb hh => ?_)
              have e26 : (ev (.tmp 26) = .pointer (some ⟨g, 0, none⟩)) := hh.at 0
              clear hh
              refine Each.Goes.same ?_
              go_simp
              try with_reducible rfl
            · refine Each.fine rfl (fun ev w1 hR hb hh => ?_)
              have e27 : (ev (.tmp 27) = .pointer (some ⟨g, 0, none⟩)) := hh.at 0
              clear hh
              refine Each.Goes.same ?_
              go_simp
              try with_reducible rfl
            · refine Each.fine rfl (fun ev w1 hR hb hh => ?_)
              have e28 : (ev (.tmp 28) = .pointer (some ⟨g, 14, none⟩)) := hh.at 0
              clear hh
              refine Each.Goes.same ?_
              go_simp
              try with_reducible rfl
            · refine Each.fine rfl (fun ev w1 hR hb hh => ?_)
              have e29 : (ev (.tmp 29) = .pointer (some ⟨g, 16, none⟩)) := hh.at 0
              clear hh
              have q16 := (HQ.out.below hb).c 16 _ rfl
              refine Each.Goes.same ?_
              go_simp
              try with_reducible rfl
          intro g1 w2 hb hf
          have z25 : (g1 25 = .pointer (some ⟨g, 1, none⟩)) := hf.at 2
          have z30 : (g1 30 = .int .i64 b.x2) := hf.at 7
          clear hf
          simp only [Each.putg, Act.put, List.setIfInBounds_toArray, List.set_cons_zero, List.set_cons_succ]
          rw [z25, z30]
          simp only [Tree.grow, Tree.put1, List.getElem?_cons_zero, List.getElem?_cons_succ]
          have HS1 := Lib.hid (Step.of_below hb (L := blks g q v f bd t o))
          have HFI := Lib.hid (count_any b.x2 (H.out.below hb) hsz)
          clear hb HQ
          rw [HTR.out] at HFI
          refine Tree.change (by rfl) (fun K hK => ?_)
          refine Each.oper_enter (g := 114) (args := #[.pointer (some ⟨g, 1, none⟩), .int .i64 b.x2]) (by go_simp) (HFI.out.mono ?_)
          rintro r w3 ⟨rfl, hP, hS⟩
          refine ⟨_, rfl, ?_⟩
          refine hK _ _ trivial ?_
          clear hK K
          simp only [Act.put, List.setIfInBounds_toArray, List.set_cons_zero, List.set_cons_succ]
          refine Tree.quiet (by rfl) (.bool false) (fun _ _ => by go_simp) ?_
          simp only [Act.put, List.setIfInBounds_toArray, List.set_cons_zero, List.set_cons_succ]
          refine Tree.done ?_
          have HP2 := Lib.hid hP; have HS2 := Lib.hid (HS1.out.trans hS)
          clear HFI HS1 hS
          have HI := Lib.hid (inLine_any hp hb0 c hP (ok.counted hb0 hov) (by rw [counted_out]; exact hout))
          clear hP
          go_wp2_with (go_at_call 116; with_reducible refine HI.out.mono ?_; rintro r w4 ⟨rfl, L4, hA, hS4⟩)
          go_ret
          exact ⟨rfl, L4, hA, HS2.out.trans hS4⟩
        · rw [hst] at c24
          go_enter Tryz.func92, Tryz.ntmps92
          go_upto_region 10 with fail
          refine Each.region 8 [23, 24, 25, 26, 27, 28, 29, 30]
              [fun v _ => v = .pointer (some ⟨g, 0, none⟩),
                fun v _ => v = .pointer (some ⟨g, 0, none⟩),
                fun v _ => v = .pointer (some ⟨g, 1, none⟩),
                fun v _ => v = .pointer (some ⟨g, 0, none⟩),
                fun v _ => v = .pointer (some ⟨g, 0, none⟩),
                fun v _ => v = .pointer (some ⟨g, 14, none⟩),
                fun v _ => v = .pointer (some ⟨g, 16, none⟩),
                fun v _ => v = .int .i64 b.x2]
              (.act 8 (.quiet 9 .done)) (by kernel_rfl) (by kernel_rfl) (by kernel_rfl) (by kernel_rfl) (fun _ _ d _ _ h => by cases d <;> exact h) (by rfl) (by rfl)
              ⟨Each.Lasts.eq _, Each.Lasts.eq _, Each.Lasts.eq _, Each.Lasts.eq _, Each.Lasts.eq _, Each.Lasts.eq _, Each.Lasts.eq _, Each.Lasts.eq _, trivial⟩ ?_ ?_
          · refine ⟨?_, ?_, ?_, ?_, ?_, ?_, ?_, ?_, trivial⟩
            · refine Each.fine rfl (fun ev w1 hR hb hh => ?_)
              clear hh
              have e0 := hR.old 0 rfl
              simp only [Array.getD_eq_getD_getElem?, List.getElem?_toArray, List.getElem?_cons_zero, Option.getD_some] at e0
              refine Each.Goes.same ?_
              go_simp
              try with_reducible rfl
            · refine Each.fine rfl (fun ev w1 hR hb hh => ?_)
              have e23 : (ev (.tmp 23) = .pointer (some ⟨g, 0, none⟩)) := hh.at 0
              clear hh
              refine Each.Goes.same ?_
              go_simp
              try with_reducible rfl
            · refine Each.fine rfl (fun ev w1 hR hb hh => ?_)
              have e24 : (ev (.tmp 24) = .pointer (some ⟨g, 0, none⟩)) := hh.at 0
              clear hh
              refine Each.Goes.same ?_
              go_simp
              try with_reducible rfl
            · refine Each.fine rfl (fun ev w1 hR hb hh => ?_)
              clear hh
              have e0 := hR.old 0 rfl
              simp only [Array.getD_eq_getD_getElem?, List.getElem?_toArray, List.getElem?_cons_zero, Option.getD_some] at e0
              refine Each.Goes.same ?_
              go_simp
              try with_reducible rfl
            · refine Each.fine rfl (fun ev w1 hR hb hh => ?_)
              have e26 : (ev (.tmp 26) = .pointer (some ⟨g, 0, none⟩)) := hh.at 0
              clear hh
              refine Each.Goes.same ?_
              go_simp
              try with_reducible rfl
            · refine Each.fine rfl (fun ev w1 hR hb hh => ?_)
              have e27 : (ev (.tmp 27) = .pointer (some ⟨g, 0, none⟩)) := hh.at 0
              clear hh
              refine Each.Goes.same ?_
              go_simp
              try with_reducible rfl
            · refine Each.fine rfl (fun ev w1 hR hb hh => ?_)
              have e28 : (ev (.tmp 28) = .pointer (some ⟨g, 14, none⟩)) := hh.at 0
              clear hh
              refine Each.Goes.same ?_
              go_simp
              try with_reducible rfl
            · refine Each.fine rfl (fun ev w1 hR hb hh => ?_)
              have e29 : (ev (.tmp 29) = .pointer (some ⟨g, 16, none⟩)) := hh.at 0
              clear hh
              have q16 := (HQ.out.below hb).c 16 _ rfl
              refine Each.Goes.same ?_
              go_simp
              try with_reducible rfl
          intro g1 w2 hb hf
          have z25 : (g1 25 = .pointer (some ⟨g, 1, none⟩)) := hf.at 2
          have z30 : (g1 30 = .int .i64 b.x2) := hf.at 7
          clear hf
          simp only [Each.putg, Act.put, List.setIfInBounds_toArray, List.set_cons_zero, List.set_cons_succ]
          rw [z25, z30]
          simp only [Tree.grow, Tree.put1, List.getElem?_cons_zero, List.getElem?_cons_succ]
          have HS1 := Lib.hid (Step.of_below hb (L := blks g q v f bd t o))
          have HFI := Lib.hid (count_any b.x2 (H.out.below hb) hsz)
          clear hb HQ
          rw [HTR.out] at HFI
          refine Tree.change (by rfl) (fun K hK => ?_)
          refine Each.oper_enter (g := 114) (args := #[.pointer (some ⟨g, 1, none⟩), .int .i64 b.x2]) (by go_simp) (HFI.out.mono ?_)
          rintro r w3 ⟨rfl, hP, hS⟩
          refine ⟨_, rfl, ?_⟩
          refine hK _ _ trivial ?_
          clear hK K
          simp only [Act.put, List.setIfInBounds_toArray, List.set_cons_zero, List.set_cons_succ]
          refine Tree.quiet (by rfl) (.bool false) (fun _ _ => by go_simp) ?_
          simp only [Act.put, List.setIfInBounds_toArray, List.set_cons_zero, List.set_cons_succ]
          refine Tree.done ?_
          have HP2 := Lib.hid hP; have HS2 := Lib.hid (HS1.out.trans hS)
          clear HFI HS1 hS
          have HI := Lib.hid (inLine_any hp hb0 c hP (ok.counted hb0 hov) (by rw [counted_out]; exact hout))
          clear hP
          go_wp2_with (go_at_call 116; with_reducible refine HI.out.mono ?_; rintro r w4 ⟨rfl, L4, hA, hS4⟩)
          go_ret
          exact ⟨rfl, L4, hA, HS2.out.trans hS4⟩
    · rw [if_neg hhd]
      have hn2 : ¬ s.st = 1 ∧ ¬ s.st = 2 ∧ ¬ s.st = 7 := by
        unfold headed at hhd
        simp only [Bool.or_eq_true, beq_iff_eq] at hhd
        omega
      have t1 : ((s.st : Int) == 1) = false := beq_eq_false_iff_ne.2 (by omega); have m1 : ¬ (s.st : Int) = 1 := by omega
      have t2 : ((s.st : Int) == 2) = false := beq_eq_false_iff_ne.2 (by omega); have m2 : ¬ (s.st : Int) = 2 := by omega
      have t3 : ((s.st : Int) == 3) = false := beq_eq_false_iff_ne.2 (by omega); have m3 : ¬ (s.st : Int) = 3 := by omega
      have t5 : ((s.st : Int) == 5) = false := beq_eq_false_iff_ne.2 (by omega); have m5 : ¬ (s.st : Int) = 5 := by omega
      have t7 : ((s.st : Int) == 7) = false := beq_eq_false_iff_ne.2 (by omega); have m7 : ¬ (s.st : Int) = 7 := by omega
      have HI := Lib.hid (inLine_any hp hb0 c h ok hout)
      clear h hbd ok hout hb0 hhd hn hn2
      go_enter Tryz.func92, Tryz.ntmps92
      go_wp2_with (go_at_call 116; with_reducible refine HI.out.mono ?_; rintro r w4 ⟨rfl, L4, hA, hS4⟩)
      go_ret
      exact ⟨rfl, L4, hA, hS4⟩
end code
end Go.Proofs.YtbineebnhjifiaaGreatDoor.Pg
/- PgFeed -/
namespace Go.Proofs.YtbineebnhjifiaaGreatDoor.Pg
open Go.RowKit Base Txt Par

section
variable {p : Nat} {b : Bd} {t t' : T}
theorem feed_cons (x : Q) (c : UInt8) (l : List UInt8) : x.feed p b (c :: l) = (x.byte p b c).feed p b l := rfl
theorem feed_app (x : Q) (l l' : List UInt8) : x.feed p b (l ++ l') = (x.feed p b l).feed p b l' := List.foldl_append
/-- There is room in a head for so many bytes more. -/
def T.room (b : Bd) (t : T) (n : Nat) : Prop := headed t.st = true → ((t.size + n : Nat) : Int) ≤ b.x2
/-- A line may go on: no CR is pending. -/
structure T.Open (t : T) : Prop where
  st : bodied t.st = false
  pend : t.rd.pend = false
  nf : Ln.failed t.rd.last = false
/-- Behind a byte of a line. -/
def T.went (t : T) (rd : Ln.M) (n : Nat) : T := { t with rd := rd, size := if headed t.st = true then t.size + n else t.size, cnt := headed t.st }
end
end Go.Proofs.YtbineebnhjifiaaGreatDoor.Pg
/- PgTake -/
namespace Go.Proofs.YtbineebnhjifiaaGreatDoor.Pg
open Go.RowKit Base Txt Mem Par

def Q.Ok (b : Bd) : Q → Prop
  | .live t => t.Ok ∧ b.right = true
  | .dead _ _ => True
section
variable {p : Nat} {b : Bd} {t t' : T} {s : List UInt8}
theorem line_out (t : T) (s : List UInt8) : (t.line p b s).2.out.length ≤ t.out.length + 1 := by
  have hf : t.fin.out.length ≤ t.out.length + 1 := by show (t.out ++ [t.r]).length ≤ _; simp
  unfold T.line T.first T.fields T.endHead T.chunk T.trail
  split
  · split
    · exact Nat.le_succ _
    · dsimp only
      split <;> exact Nat.le_succ _
  · split
    · split
      · dsimp only
        split
        · exact Nat.le_succ _
        · split
          · exact Nat.le_succ _
          · split
            · exact hf
            · exact Nat.le_succ _
      · exact Nat.le_succ _
    · split
      · dsimp only
        split
        · exact Nat.le_succ _
        · split
          · exact Nat.le_succ _
          · split <;> exact Nat.le_succ _
      · split
        · split
          · exact hf
          · exact Nat.le_succ _
        · exact Nat.le_succ _
theorem inLine_out (t : T) (c : UInt8) : (t.inLine p b c).1.out.length ≤ t.out.length + 1 := by
  unfold T.inLine
  dsimp only
  split
  · exact Nat.le_succ _
  · split
    · exact Nat.le_succ _
    · split
      · split <;> exact Nat.le_succ _
      · have h := line_out (p := p) (b := b) { t with rd := t.rd.byte c } (t.rd.byte c).line
        unfold ends
        split <;> exact h
theorem look_out (t : T) (c : UInt8) : (t.look p b c).1.out.length ≤ t.out.length + 1 := by
  unfold T.look
  split
  · split
    · show (T.endData p (t.keep c)).out.length ≤ _
      unfold T.endData
      split
      · exact Nat.le_succ _
      · show (t.out ++ [_]).length ≤ _
        simp
    · exact Nat.le_succ _
  · split
    · split
      · exact Nat.le_succ _
      · have h := inLine_out (p := p) (b := b) t.counted c
        rw [counted_out] at h
        exact h
    · exact inLine_out t c
theorem take_out (t : T) (c : UInt8) : (t.take p b c).out.length ≤ t.out.length + 2 := by
  have h := look_out (p := p) (b := b) { t with cnt := false } c
  have e : ({ t with cnt := false } : T).out = t.out := rfl
  rw [e] at h
  unfold T.take
  rcases hx : ({ t with cnt := false } : T).look p b c with ⟨t1 | ⟨e, o⟩, u⟩
  · rw [hx] at h
    have h : t1.out.length ≤ t.out.length + 1 := h
    cases u with
    | true => show t1.out.length ≤ _; omega
    | false =>
      have h2 := look_out (p := p) (b := b) t1 c
      show (t1.look p b c).1.out.length ≤ _
      omega
  · rw [hx] at h
    have h : o.length ≤ t.out.length + 1 := h
    cases u <;> (show o.length ≤ _; omega)
theorem Q.byte_out (x : Q) (c : UInt8) : (x.byte p b c).out.length ≤ x.out.length + 2 := by
  cases x with
  | live t => exact take_out t c
  | dead e o => show o.length ≤ o.length + 2; omega
theorem Q.feed_out : ∀ (l : List UInt8) (x : Q), (x.feed p b l).out.length ≤ x.out.length + 2 * l.length
  | [], _ => Nat.le_refl _
  | c :: l, x => by
    have h1 := Q.byte_out (p := p) (b := b) x c
    have h2 := Q.feed_out l (x.byte p b c)
    rw [feed_cons, List.length_cons]
    omega
theorem Q.Ok.byte {x : Q} (h : x.Ok b) (c : UInt8) : (x.byte p b c).Ok b := by
  cases x with
  | live t =>
    show (t.take p b c).Ok b
    rcases hx : t.take p b c with t1 | ⟨e, o⟩
    · exact ⟨T.Ok.take h.1 h.2 c hx, h.2⟩
    · trivial
  | dead e o => trivial
theorem Q.Ok.feed : ∀ (l : List UInt8) {x : Q}, x.Ok b → (x.feed p b l).Ok b
  | [], _, h => h
  | c :: l, _, h => Q.Ok.feed l (h.byte c)
end
/-- A slice of bytes, in a block that is not of L. -/
structure Bts (L : List (Option Nat)) (w : World) (a : Option Addr) (l : List UInt8) : Prop where
  nums : Nums .u8 w a l.length (l.map fun c => (c.toNat : Int))
  far : ∀ ad, a = some ad → some ad.block ∉ L ∧ ad.block < w.heap.size
/-- A slice of such slices. -/
structure Parts (L : List (Option Nat)) (w : World) (a : Option Addr) (ls : List (List UInt8)) : Prop where
  cells : 0 < ls.length → ∃ bk off, a = some ⟨bk, off, none⟩ ∧ bk < w.heap.size ∧ some bk ∉ L ∧ ∀ k (hk : k < ls.length), ∃ ak ck, w.cell? ⟨bk, off + k, none⟩ = some (.slice ak ls[k].length ck) ∧ Bts L w ak ls[k]
theorem Bts.step {L L' : List (Option Nat)} {w w' : World} {a : Option Addr} {l : List UInt8} (h : Bts L w a l) (hs : Step L L' w w') : Bts L' w' a l := by
  refine ⟨nums_keeps h.nums hs.keeps (fun c => ?_), fun ad e => ⟨fun hm => ?_, Nat.lt_of_lt_of_le (h.far ad e).2 hs.keeps.size⟩⟩
  · cases ha : a with
    | none => exact .inl rfl
    | some ad => exact .inr ⟨ad.block, rfl, (h.far ad ha).1⟩
  · rcases hs.of _ hm with h1 | h1
    · exact (h.far ad e).1 h1
    · have := (h.far ad e).2; omega
theorem Parts.step {L L' : List (Option Nat)} {w w' : World} {a : Option Addr} {ls : List (List UInt8)} (h : Parts L w a ls) (hs : Step L L' w w') : Parts L' w' a ls := by
  refine ⟨fun h0 => ?_⟩
  obtain ⟨bk, off, e, hlt, hn, hc⟩ := h.cells h0
  refine ⟨bk, off, e, Nat.lt_of_lt_of_le hlt hs.keeps.size, fun hm => ?_, fun k hk => ?_⟩
  · rcases hs.of _ hm with h1 | h1
    · exact hn h1
    · omega
  · obtain ⟨ak, ck, h1, h2⟩ := hc k hk
    exact ⟨ak, ck, (hs.keeps.cell (p := ⟨bk, off + k, none⟩) hlt hn).trans h1, h2.step hs⟩
section code
set_option maxHeartbeats 4000000
set_option maxRecDepth 20000
attribute [local go_sem] Base.some_undef
variable {w : World} {B : Zone} {g q : Nat} {v f bd t o : Value} {p : Nat} {b : Bd} {s : T}
theorem Dead.cell0 {e : Nat} {out : List Rec.R} (h : Dead w B g e o out) : w.cell? ⟨g, 0, none⟩ = some (.int .i64 (e : Int)) := row_cellL h.row rfl
theorem Dead.put {e : Nat} {out : List Rec.R} (h : Dead w B g e o out) (k : Nat) (u : Value) (o' : Value) (out' : List Rec.R) (hc : (deadcells e o).set k u = deadcells e o') (hO : Outs [some g, o'.ownBlock] B (w.setCell ⟨g, k, none⟩ u) o' out') (hn : o'.ownBlock ≠ some g) (hz : o'.ownBlock = none ∨ o'.ownBlock = o.ownBlock) : Dead (w.setCell ⟨g, k, none⟩ u) B g e o' out' :=
  ⟨by rw [← hc]; exact row_setL h.row k u, hO, hn, h.ge, by simpa using h.lt, h.bad, h.zone.of (by simp) fun k hk => .inl (by
    rcases (by simpa using hk : k = g ∨ some k = o'.ownBlock) with e | e
    · simp [e]
    · rcases hz with z | z
      · rw [z] at e; cases e
      · rw [← z, ← e]; simp)⟩
theorem Dead.same {e : Nat} {out : List Rec.R} (h : Dead w B g e o out) (k : Nat) (u : Value) (hc : (deadcells e o).set k u = deadcells e o) : Dead (w.setCell ⟨g, k, none⟩ u) B g e o out :=
  h.put k u o out hc (h.O.keeps (Keeps.set g k u (List.mem_singleton.2 rfl)) (fun k hk => by simp only [List.mem_singleton] at hk; simp [hk]) (fun k e hm => h.ne (by rw [e, List.mem_singleton.1 hm]))) h.ne (.inr rfl)
theorem take_any (hp : p < 4294967296) (c : UInt8) (x : Q) {L : List (Option Nat)} (h : At w B g p b L x) (ok : x.Ok b) (hout : x.out.length ≤ 999999998) : Calls Tryz.prog 62 #[ptr g, .int .u8 (c.toNat : Int)] w fun r w' =>
    r = .returned (.tuple #[]) ∧ ∃ L', At w' B g p b L' (x.byte p b c) ∧ Step L L' w w' := by
  cases x with
  | dead e out =>
    obtain ⟨o, rfl, hd⟩ := h
    have H1 := Lib.hid (hd.same 7 (.bool false) rfl)
    have HS1 := Lib.hid (Step.set (w := w) (L := [some g, o.ownBlock]) g 7 (.bool false) (by simp))
    have HB := Lib.hid hd.bad
    have c7 := row_cellL hd.row (k := 7) rfl; have z7 := Ln.row_frozen hd.row 7
    clear hd ok hout
    go_enter Tryz.func62, Tryz.ntmps62
    go_upto_region 1 with fail
    generalize w.setCell ⟨g, 7, none⟩ (.bool false) = W1 at *
    clear c7 z7
    have HF := Lib.hid (failed_dead H1.out.cell0 HB.out)
    refine wp_loop_rounds 1 ?_
    rw [rounds_succ]
    go_wp2_with (go_at_call 68; with_reducible refine HF.out.mono ?_; rintro r w2 ⟨rfl, hw⟩; rw [hw]; clear hw)
    first | go_end0 | refine bodyPost_ret (results_none rfl _ _ _) rfl ?_
    exact ⟨rfl, _, ⟨_, rfl, H1.out⟩, HS1.out⟩
  | live s =>
    obtain ⟨q, v, f, bd, t, o, rfl, h⟩ := h
    have H1 := Lib.hid (h.put 7 (.bool false) { s with cnt := false } rfl rfl rfl rfl rfl rfl)
    have HS1 := Lib.hid (Step.set (w := w) (L := blks g q v f bd t o) g 7 (.bool false) (by simp))
    have c7 := h.cs.c7; have z7 := h.marks 7
    obtain ⟨ok, hb0⟩ : s.Ok ∧ b.right = true := ok
    have hout : s.out.length ≤ 999999998 := hout
    have ok1 := ok.cleared
    obtain ⟨S1, hS1⟩ : ∃ S1 : T, { s with cnt := false } = S1 := ⟨_, rfl⟩
    have ho1 : S1.out.length ≤ 999999998 := by rw [← hS1]; exact hout
    rw [hS1] at ok1 H1
    have e : Q.byte p b (.live s) c = (match S1.look p b c with
        | (.live t1, false) => (t1.look p b c).1
        | (x, _) => x) := by rw [← hS1]; rfl
    have HL := Lib.hid (fun (w2 : World) (h2 : PR w2 B g q v f bd t o p b S1) => look_any hp hb0 c h2 ok1 (by omega))
    have htw := fun t' => look_twice (p := p) (t' := t') ok1 hb0 c
    have hoo := look_out (p := p) (b := b) S1 c
    have hok2 := fun t' (h : (S1.look p b c).1 = .live t') => ok1.look hb0 c h
    rw [e]
    clear h ok hout e hS1
    rcases hx : S1.look p b c with ⟨t1 | ⟨e, out⟩, u⟩
    · rw [hx] at HL hoo
      cases u with
      | true =>
        show Calls _ _ _ _ fun r w' => r = .returned (.tuple #[]) ∧ ∃ L', At w' B g p b L' (.live t1) ∧ Step _ L' w w'
        clear htw hx hok2 hoo
        go_enter Tryz.func62, Tryz.ntmps62
        go_upto_region 1 with fail
        generalize w.setCell ⟨g, 7, none⟩ (.bool false) = W1 at *
        clear c7 z7
        have HF := Lib.hid (failed_live H1.out.cs.c0)
        have HL1 := Lib.hid (HL.out _ H1.out)
        refine wp_loop_rounds 1 ?_
        rw [rounds_succ]
        go_wp2_with (first
          | (go_at_call 92; with_reducible refine HL1.out.mono ?_; rintro r w2 ⟨rfl, L2, hA, hS2⟩)
          | (go_at_call 68; with_reducible refine HF.out.mono ?_; rintro r w3 ⟨rfl, hw⟩; rw [hw]; clear hw))
        first | go_end0 | refine bodyPost_ret (results_none rfl _ _ _) rfl ?_
        exact ⟨rfl, _, hA, HS1.out.trans hS2⟩
      | false =>
        have hu := htw t1 hx
        show Calls _ _ _ _ fun r w' => r = .returned (.tuple #[]) ∧ ∃ L', At w' B g p b L' (t1.look p b c).1 ∧ Step _ L' w w'
        have ok2 := hok2 t1 (by rw [hx])
        have hoo : t1.out.length ≤ S1.out.length + 1 := hoo
        have HL9 := fun (w2 : World) (q v f bd t o) (h2 : PR w2 B g q v f bd t o p b t1) => look_any hp hb0 c h2 ok2 (by omega)
        rw [hu] at HL9
        have HL2 := Lib.hid HL9
        clear htw hx hok2 hoo hu ok2 HL9
        go_enter Tryz.func62, Tryz.ntmps62
        go_upto_region 1 with fail
        generalize w.setCell ⟨g, 7, none⟩ (.bool false) = W1 at *
        clear c7 z7
        have HF := Lib.hid (failed_live H1.out.cs.c0)
        have HL1 := Lib.hid (HL.out _ H1.out)
        refine wp_loop_rounds 2 ?_
        rw [rounds_succ]
        go_wp2_with (first
          | (go_at_call 92; with_reducible refine HL1.out.mono ?_; rintro r w2 ⟨rfl, L2, hA, hS2⟩)
          | (go_at_call 68; with_reducible refine HF.out.mono ?_; rintro r w3 ⟨rfl, hw⟩; rw [hw]; clear hw))
        obtain ⟨q2, v2, f2, bd2, t2, o2, rfl, h2⟩ := hA
        have HF2 := Lib.hid (failed_live h2.cs.c0)
        have HL3 := Lib.hid (HL2.out _ _ _ _ _ _ _ h2)
        have HS2 := Lib.hid (HS1.out.trans hS2)
        clear h2 hS2 HF HL1 HL2 H1 HS1
        rw [rounds_succ]
        go_wp2_with (first
          | (go_at_call 92; with_reducible refine HL3.out.mono ?_; rintro r w4 ⟨rfl, L4, hA4, hS4⟩)
          | (go_at_call 68; with_reducible refine HF2.out.mono ?_; rintro r w3 ⟨rfl, hw⟩; rw [hw]; clear hw))
        first | go_end0 | refine bodyPost_ret (results_none rfl _ _ _) rfl ?_
        exact ⟨rfl, _, hA4, HS2.out.trans hS4⟩
    · rw [hx] at HL hoo
      cases u with
      | true =>
        show Calls _ _ _ _ fun r w' => r = .returned (.tuple #[]) ∧ ∃ L', At w' B g p b L' (.dead e out) ∧ Step _ L' w w'
        clear htw hx hok2 hoo
        go_enter Tryz.func62, Tryz.ntmps62
        go_upto_region 1 with fail
        generalize w.setCell ⟨g, 7, none⟩ (.bool false) = W1 at *
        clear c7 z7
        have HF := Lib.hid (failed_live H1.out.cs.c0)
        have HL1 := Lib.hid (HL.out _ H1.out)
        refine wp_loop_rounds 1 ?_
        rw [rounds_succ]
        go_wp2_with (first
          | (go_at_call 92; with_reducible refine HL1.out.mono ?_; rintro r w2 ⟨rfl, L2, hA, hS2⟩)
          | (go_at_call 68; with_reducible refine HF.out.mono ?_; rintro r w3 ⟨rfl, hw⟩; rw [hw]; clear hw))
        first | go_end0 | refine bodyPost_ret (results_none rfl _ _ _) rfl ?_
        exact ⟨rfl, _, hA, HS1.out.trans hS2⟩
      | false =>
        show Calls _ _ _ _ fun r w' => r = .returned (.tuple #[]) ∧ ∃ L', At w' B g p b L' (.dead e out) ∧ Step _ L' w w'
        clear htw hx hok2 hoo
        go_enter Tryz.func62, Tryz.ntmps62
        go_upto_region 1 with fail
        generalize w.setCell ⟨g, 7, none⟩ (.bool false) = W1 at *
        clear c7 z7
        have HF := Lib.hid (failed_live H1.out.cs.c0)
        have HL1 := Lib.hid (HL.out _ H1.out)
        refine wp_loop_rounds 2 ?_
        rw [rounds_succ]
        go_wp2_with (first
          | (go_at_call 92; with_reducible refine HL1.out.mono ?_; rintro r w2 ⟨rfl, L2, hA, hS2⟩)
          | (go_at_call 68; with_reducible refine HF.out.mono ?_; rintro r w3 ⟨rfl, hw⟩; rw [hw]; clear hw))
        obtain ⟨o2, rfl, h2⟩ := hA
        have HF2 := Lib.hid (failed_dead h2.cell0 h2.bad)
        have HD2 := Lib.hid h2
        have HS2 := Lib.hid (HS1.out.trans hS2)
        clear h2 hS2 HF HL1 H1 HS1
        rw [rounds_succ]
        go_wp2_with (go_at_call 68; with_reducible refine HF2.out.mono ?_; rintro r w3 ⟨rfl, hw⟩; rw [hw]; clear hw)
        first | go_end0 | refine bodyPost_ret (results_none rfl _ _ _) rfl ?_
        exact ⟨rfl, _, ⟨_, rfl, HD2.out⟩, HS2.out⟩
end code
end Go.Proofs.YtbineebnhjifiaaGreatDoor.Pg
/- PgApi -/
namespace Go.Proofs.YtbineebnhjifiaaGreatDoor.Pg
open Go.RowKit Base Txt Mem Par

/-- Records that were told: in a row of the caller's, apart from what the parser owns. -/
structure Told (L : List (Option Nat)) (B : Zone) (w : World) (o : Value) (out : List Rec.R) : Prop where
  outs : Outs L B w o out
  far : ∀ k, o.ownBlock = some k → some k ∉ L ∧ k < w.heap.size
  off : ∀ k, o.ownBlock = some k → some k ∉ B.z
section code
set_option maxHeartbeats 4000000
set_option maxRecDepth 20000
attribute [local go_sem] Base.some_undef
variable {w : World} {B : Zone} {g q : Nat} {v f bd t o : Value} {p : Nat} {b : Bd} {s : T}
theorem Own.less {rd : Ln.M} {fs ts : List Fld} {body : List UInt8} {out : List Rec.R} (h : Own w B g q v f bd t o rd fs body ts out) : Own w B g q v f bd t nil rd fs body ts [] := by
  have e : blks g q v f bd t nil = (blks g q v f bd t o).set 6 none := rfl
  refine ⟨h.R, h.F, h.D, h.TR, ⟨[], rfl, (by intro x hx; cases hx), World.ownsRow_nil _ _ _ _⟩, ?_, h.ge, h.lt, h.zone.of (Nat.le_refl _) (by rw [e]; exact Of.set 6 none (.inl rfl))⟩
  rw [e]
  exact h.lone.set h.in 6 none (.inl rfl)
theorem At.below {L : List (Option Nat)} {w' : World} {x : Q} (h : At w B g p b L x) (hb : Below w.heap.size w w') : At w' B g p b L x := by
  cases x with
  | live s =>
    obtain ⟨q, v, f, bd, t, o, rfl, h⟩ := h
    exact ⟨q, v, f, bd, t, o, rfl, h.below hb⟩
  | dead e out =>
    obtain ⟨o, rfl, h⟩ := h
    refine ⟨o, rfl, (hb.block g h.lt).trans h.row, h.O.keeps (Keeps.of_below hb : Keeps [] w w') (by simp) (by simp), h.ne, h.ge, Nat.lt_of_lt_of_le h.lt hb.size, h.bad, h.zone.of hb.size Of.refl⟩
theorem At.low {L : List (Option Nat)} {x : Q} (h : At w B g p b L x) : ∀ k, some k ∈ L → B ≤ k := by
  cases x with
  | live s =>
    obtain ⟨q, v, f, bd, t, o, rfl, h⟩ := h
    exact h.own.low
  | dead e out =>
    obtain ⟨o, rfl, h⟩ := h
    intro k hk
    obtain ⟨ps, -, -, h3⟩ := h.O
    rcases (by simpa using hk : k = g ∨ some k = o.ownBlock) with e | e
    · rw [e]; exact h.ge
    · exact (World.ownsRow.lt h3 k e.symm).1
theorem At.in {L : List (Option Nat)} {x : Q} (h : At w B g p b L x) : In w L := by
  cases x with
  | live s =>
    obtain ⟨q, v, f, bd, t, o, rfl, h⟩ := h
    exact h.own.in
  | dead e out =>
    obtain ⟨o, rfl, h⟩ := h
    intro k hk
    obtain ⟨ps, -, -, h3⟩ := h.O
    rcases (by simpa using hk : k = g ∨ some k = o.ownBlock) with e | e
    · rw [e]; exact h.lt
    · exact (World.ownsRow.lt h3 k e.symm).2
/-- What it has told is the caller's. -/
theorem At.tell {L : List (Option Nat)} {x : Q} (h : At w B g p b L x) : ∃ o L', w.cell? ⟨g, 26, none⟩ = some o ∧ w.frozen? ⟨g, 26, none⟩ = false ∧ At (w.setCell ⟨g, 26, none⟩ nil) B g p b L' x.told ∧ Told L' B (w.setCell ⟨g, 26, none⟩ nil) o x.out ∧ Step L L' w (w.setCell ⟨g, 26, none⟩ nil) := by
  cases x with
  | live s =>
    obtain ⟨q, v, f, bd, t, o, rfl, h⟩ := h
    have hg : (blks g q v f bd t o)[0]? = some (some g) := rfl
    have hne : o.ownBlock ≠ some g := fun e => h.own.lone.ne (i := 0) (j := 6) rfl (by decide) (by rw [← e]; rfl)
    have hsub : ∀ k, some k ∈ blks g q v f bd t nil → some k ∈ blks g q v f bd t o := fun k hk => by
      simp only [List.mem_cons, List.not_mem_nil, or_false, Value.ownBlock, reduceCtorEq] at hk ⊢
      rcases hk with e | e | e | e | e | e <;> simp [e]
    refine ⟨o, blks g q v f bd t nil, h.cs.c26, h.marks 26, ⟨q, v, f, bd, t, nil, rfl, ⟨row_setL h.row 26 nil, (h.own.less).set 26 nil⟩⟩, ⟨Outs.less (h.own.O.keeps (Keeps.set g 26 nil (List.mem_singleton.2 rfl)) (fun k hk => by simp only [List.mem_singleton] at hk; simp [hk]) (fun k e hm => hne (by rw [e, List.mem_singleton.1 hm]))) (fun k hk => .inl (hsub k hk)), fun k e => ⟨fun hm => ?_, ?_⟩, fun k e => h.own.zone.off k (List.mem_of_getElem? (i := 6) (by rw [← e]; rfl))⟩, ⟨Keeps.set g 26 nil (List.mem_of_getElem? hg), fun k hk => .inl (hsub k hk)⟩⟩
    · obtain ⟨i, hi⟩ := List.getElem?_of_mem hm
      have h6 : (blks g q v f bd t o)[6]? = some (some k) := by rw [← e]; rfl
      rcases i with _ | _ | _ | _ | _ | _ | _ | i
      · exact h.own.lone.ne (i := 0) (j := 6) (k := k) hi (by decide) h6
      · exact h.own.lone.ne (i := 1) (j := 6) (k := k) hi (by decide) h6
      · exact h.own.lone.ne (i := 2) (j := 6) (k := k) hi (by decide) h6
      · exact h.own.lone.ne (i := 3) (j := 6) (k := k) hi (by decide) h6
      · exact h.own.lone.ne (i := 4) (j := 6) (k := k) hi (by decide) h6
      · exact h.own.lone.ne (i := 5) (j := 6) (k := k) hi (by decide) h6
      · cases hi
      · cases hi
    · have := h.own.in k (List.mem_of_getElem? (i := 6) (by rw [← e]; rfl))
      simpa using this
  | dead e out =>
    obtain ⟨o, rfl, h⟩ := h
    obtain ⟨ps, -, -, h3⟩ := h.O
    refine ⟨o, [some g, none], row_cellL h.row rfl, Ln.row_frozen h.row 26, ⟨nil, rfl, h.put 26 nil nil [] rfl ⟨[], rfl, (by intro x hx; cases hx), World.ownsRow_nil _ _ _ _⟩ (by simp [Value.ownBlock]) (.inl rfl)⟩, ⟨Outs.less (h.O.keeps (Keeps.set g 26 nil (List.mem_singleton.2 rfl)) (fun k hk => by simp only [List.mem_singleton] at hk; simp [hk]) (fun k e hm => h.ne (by rw [e, List.mem_singleton.1 hm]))) (fun k hk => .inl (by simpa using Or.inl (by simpa using hk))), fun k e => ⟨fun hm => ?_, ?_⟩, fun k e => h.zone.off k (by rw [← e]; simp)⟩, ⟨Keeps.set g 26 nil (by simp), fun k hk => .inl (by simpa using Or.inl (by simpa using hk))⟩⟩
    · rcases (by simpa using hm : k = g) with rfl
      exact h.ne e
    · have := (World.ownsRow.lt h3 k e).2
      simpa using this
theorem feed_any (hp : p < 4294967296) (x : Q) {L : List (Option Nat)} (h : At w B g p b L x) (ok : x.Ok b) (a : Option Addr) (ca : Nat) (ls : List (List UInt8)) (hl : Parts L w a ls) (hn : ls.length ≤ 1000000) (hout : x.out.length + 2 * ls.flatten.length ≤ 999999998) :
    Calls Tryz.prog 22 #[ptr g, .slice a ls.length ca] w fun r w' => ∃ o L', r = .returned o ∧ At w' B g p b L' (x.feed p b ls.flatten).told ∧ Told L' B w' o (x.feed p b ls.flatten).out ∧ Step L L' w w' := by
  have H := Lib.hid h; have HL := Lib.hid hl; have HOK := Lib.hid ok; have HOU := Lib.hid hout
  obtain ⟨n, hnn⟩ : ∃ n, ls.length = n := ⟨_, rfl⟩
  have HN := Lib.hid hnn
  have hn1 : n ≤ 1000000 := by omega
  rw [hnn]
  clear h hl ok hout hn hnn
  go_enter Tryz.func22, Tryz.ntmps22
  go_upto_region 2 with fail
  go_loopw [12] (fun i wr => ∃ k : Nat, k ≤ n ∧ i = .int .i64 k ∧ Hid (∃ Lr, At wr B g p b Lr (x.feed p b (ls.take k).flatten) ∧ Step L Lr w wr)) (fun i _ => n - (intOf i).toNat)
  case atStart => exact ⟨0, Nat.zero_le _, rfl, Lib.hid ⟨L, H.out, Step.refl⟩⟩
  case round =>
    obtain ⟨k, hk, rfl, hR⟩ := hrel
    rcases Nat.lt_or_ge k n with hlt | hge
    · obtain ⟨Lr, hA, hS⟩ := hR.out
      have hkl : k < ls.length := by rw [HN.out]; exact hlt
      obtain ⟨bk, off, rfl, hbk, hnb, hc⟩ := (HL.out.step hS).cells (by omega)
      obtain ⟨ak, ck, hcell, hB⟩ := hc k hkl
      have htk : (ls.take (k + 1)).flatten = (ls.take k).flatten ++ ls[k] := by rw [List.take_succ_eq_append_getElem hkl, List.flatten_append]; simp
      have hsum : (ls.take (k + 1)).flatten.length ≤ ls.flatten.length := by
        have := congrArg List.length (congrArg List.flatten (List.take_append_drop (k + 1) ls))
        rw [List.flatten_append, List.length_append] at this
        omega
      rw [htk, List.length_append] at hsum
      have t1 : (k : Int) < (n : Int) := by omega
      have HTK := Lib.hid htk
      obtain ⟨pl, hpl⟩ : ∃ pl, ls[k] = pl := ⟨_, rfl⟩
      rw [hpl] at hcell hB hsum HTK
      have hpb : pl.length ≤ 1000000000 := by have := HOU.out; omega
      obtain ⟨m, hm⟩ : ∃ m, pl.length = m := ⟨_, rfl⟩
      rw [hm] at hcell hpb hsum
      have HM := Lib.hid hm
      obtain ⟨X, hX⟩ : ∃ X, x.feed p b (ls.take k).flatten = X := ⟨_, rfl⟩
      have hXok : X.Ok b := by rw [← hX]; exact Q.Ok.feed _ HOK.out
      have hXo : X.out.length + 2 * m ≤ 999999998 := by
        have := Q.feed_out (p := p) (b := b) (ls.take k).flatten x
        rw [hX] at this
        have := HOU.out
        omega
      rw [hX] at hA
      have HX := Lib.hid hX; have HXO := Lib.hid hXok; have HXL := Lib.hid hXo
      have HA := Lib.hid hA; have HS := Lib.hid hS; have HB := Lib.hid hB
      clear hA hS hB hX hXok hXo hsum htk hpl hm hc hR hnb hbk
      go_upto_region 5 with fail
      clear hcell
      go_loopw [18] (fun j wq => ∃ i : Nat, i ≤ m ∧ j = .int .i64 i ∧ Hid (∃ Lq, At wq B g p b Lq (X.feed p b (pl.take i)) ∧ Step Lr Lq wr wq)) (fun j _ => m - (intOf j).toNat)
      case atStart => exact ⟨0, Nat.zero_le _, rfl, Lib.hid ⟨Lr, HA.out, Step.refl⟩⟩
      case round =>
        obtain ⟨wC, hwC⟩ : ∃ x, x = wr := ⟨_, rfl⟩
        obtain ⟨i, hi, rfl, hR2⟩ := hrel
        rcases Nat.lt_or_ge i m with hilt | hige
        · obtain ⟨Lq, hA2, hS2⟩ := hR2.out
          have hil : i < pl.length := by rw [HM.out]; exact hilt
          obtain ⟨zb, zo, rfl, hzb, hz⟩ := (HB.out.step hS2).nums.2 (by omega)
          have hcell := hz i hil
          have hti : pl.take (i + 1) = pl.take i ++ [pl[i]] := List.take_succ_eq_append_getElem hil
          have hgi : (pl.map fun c => (c.toNat : Int))[i]?.getD 0 = (pl[i].toNat : Int) := by simp [hil]
          rw [hgi] at hcell
          have HTI := Lib.hid hti
          obtain ⟨c, hc⟩ : ∃ c, pl[i] = c := ⟨_, rfl⟩
          rw [hc] at hcell HTI
          have t2 : (i : Int) < (m : Int) := by omega
          have hok3 : (X.feed p b (pl.take i)).Ok b := Q.Ok.feed _ HXO.out
          have hou3 : (X.feed p b (pl.take i)).out.length ≤ 999999998 := by
            have h1 := Q.feed_out (p := p) (b := b) (pl.take i) X
            have h2 := HXL.out
            rw [List.length_take] at h1
            omega
          have HTA := Lib.hid (take_any hp c _ hA2 hok3 hou3)
          have HS2 := Lib.hid hS2
          clear hA2 hS2 hz hzb hti hgi hc hok3 hou3 hR2
          go_wp2_with (go_at_call 62; with_reducible refine HTA.out.mono ?_; rintro r w5 ⟨rfl, L5, hA5, hS5⟩)
          go_roundw
          case rel => exact ⟨i + 1, by omega, by go_num, Lib.hid ⟨L5, by rw [HTI.out, feed_app]; exact hA5, HS2.out.trans hS5⟩⟩
          case measure => simp [intOf]; omega
        · obtain rfl : i = m := by omega
          have t2 : ¬ (i : Int) < (i : Int) := by omega
          obtain ⟨Lq, hA2, hS2⟩ := hR2.out
          have e : pl.take i = pl := List.take_of_length_le (by rw [HM.out]; exact Nat.le_refl _)
          rw [e, ← HX.out, ← feed_app, ← HTK.out] at hA2
          have HA2 := Lib.hid hA2; have HS2 := Lib.hid (HS.out.trans hS2)
          clear hA2 hS2 e hR2
          go_wp2_with fail
          go_roundw
          case rel => exact ⟨k + 1, by omega, by go_num, Lib.hid ⟨Lq, HA2.out, HS2.out⟩⟩
          case measure => simp [intOf]; omega
    · obtain rfl : k = n := by omega
      have t1 : ¬ (k : Int) < (k : Int) := by omega
      obtain ⟨Lr, hA, hS⟩ := hR.out
      have e : ls.take k = ls := List.take_of_length_le (by rw [HN.out]; exact Nat.le_refl _)
      rw [e] at hA
      obtain ⟨o, L2, c26, z26, hA2, hT2, hS2⟩ := hA.tell
      have HA2 := Lib.hid hA2; have HT2 := Lib.hid hT2; have HS2 := Lib.hid (hS.trans hS2)
      clear hA hS hR e hA2 hT2 hS2
      go_wp2_with fail
      go_ret
      exact ⟨o, rfl, L2, HA2.out, HT2.out, HS2.out⟩
theorem errq_any {L : List (Option Nat)} {x : Q} (h : At w B g p b L x) : Calls Tryz.prog 25 #[ptr g] w fun r w' => r = .returned (.int .i64 (x.err : Int)) ∧ w' = w := by
  cases x with
  | live s =>
    obtain ⟨q, v, f, bd, t, o, rfl, h⟩ := h
    exact err_any h.cs.c0
  | dead e out =>
    obtain ⟨o, rfl, h⟩ := h
    exact err_any h.cell0
theorem cleanq_any {L : List (Option Nat)} {x : Q} (h : At w B g p b L x) : Calls Tryz.prog 30 #[ptr g] w fun r w' => r = .returned (.bool x.clean) ∧ w' = w := by
  cases x with
  | live s =>
    obtain ⟨q, v, f, bd, t, o, rfl, h⟩ := h
    exact clean_live h
  | dead e out =>
    obtain ⟨o, rfl, h⟩ := h
    exact clean_dead (row_cellL h.row rfl)
/-- The record so far, as a value. -/
theorem PR.draft (h : PR w B g q v f bd t o p b s) (ok : s.Ok) : Rec.Reads w (.agg #[.string s.r.m, .string s.r.x, .int .i64 s.r.k, f, .bool s.r.ch, bd, t]) s.r ∧ Rec.Fit s.r := by
  obtain ⟨A1, c1, e1, h1⟩ := Flds.of_own h.own.F
  obtain ⟨A2, c2, e2, h2⟩ := Rec.nums_of_own h.own.D
  obtain ⟨A3, c3, e3, h3⟩ := Flds.of_own h.own.TR
  subst e1 e2 e3
  have k1 := ok.fsl; have k2 := ok.tsl; have k3 := ok.hl; have k4 := ok.bl; have k5 := ok.body; have k6 := ok.m; have k7 := ok.x
  exact ⟨⟨_, _, _, _, _, _, rfl, h1, h2, h3⟩, ⟨by omega, by omega, by omega, fun y hy => by have := ok.fss y hy; omega, by omega, by omega, fun y hy => by have := ok.tss y hy; omega⟩⟩
theorem waits_any {L : List (Option Nat)} {x : Q} (h : At w B g p b L x) (ok : x.Ok b) : Calls Tryz.prog 26 #[ptr g] w fun r w' => r = .returned (.bool x.waits) ∧ Below w.heap.size w w' := by
  cases x with
  | live s =>
    obtain ⟨q, v, f, bd, t, o, rfl, h⟩ := h
    obtain ⟨ok, -⟩ : s.Ok ∧ b.right = true := ok
    have hbl := ok.body
    have HN0 := bodyIsNext_live h (by omega)
    have HD := Lib.hid (draft_any h)
    have HE := Lib.hid (fun (w2 : World) (hb : Below w.heap.size w w2) => Rec.expects_any _ s.r w2 (PR.draft (h.below hb) ok).1 (PR.draft (h.below hb) ok).2)
    show Calls _ _ _ _ fun r w' => r = .returned (.bool (s.next && Rec.expects s.r)) ∧ Below w.heap.size w w'
    clear h ok hbl
    cases hx : s.next with
    | true =>
      rw [hx] at HN0
      have HN := Lib.hid HN0
      clear HN0 hx
      generalize Rec.expects s.r = ex at *
      go_enter Tryz.func26, Tryz.ntmps26
      go_wp2_with (first
        | (go_at_call 65; with_reducible refine (HE.out _ HB2.out).mono ?_; rintro r w4 ⟨rfl, hb4⟩)
        | (go_at_call 66; with_reducible refine HD.out.mono ?_; rintro r w3 ⟨rfl, hb3⟩
           have HB2 := Lib.hid hb3
           clear hb3)
        | (go_at_call 64; with_reducible refine HN.out.mono ?_; rintro r w2 ⟨rfl, hw⟩; rw [hw]; clear hw))
      go_ret
      exact ⟨by cases ex <;> rfl, Base.below_step HB2.out hb4⟩
    | false =>
      rw [hx] at HN0
      have HN := Lib.hid HN0
      clear HN0 hx HD HE
      go_enter Tryz.func26, Tryz.ntmps26
      go_wp2_with (go_at_call 64; with_reducible refine HN.out.mono ?_; rintro r w2 ⟨rfl, hw⟩; rw [hw]; clear hw)
      go_ret
      exact ⟨rfl, Below.refl _ _⟩
  | dead e out =>
    obtain ⟨o, rfl, h⟩ := h
    have HN := Lib.hid (bodyIsNext_dead (w := w) (g := g) (row_cellL h.row rfl))
    clear h ok
    go_enter Tryz.func26, Tryz.ntmps26
    go_wp2_with (go_at_call 64; with_reducible refine HN.out.mono ?_; rintro r w2 ⟨rfl, hw⟩; rw [hw]; clear hw)
    go_ret
    exact ⟨rfl, Below.refl _ _⟩
theorem size_small {r : Rec.R} (h : Rec.Fit r) : Rec.size r ≤ 5000000000000 := by
  have h1 := h.m; have h2 := h.x; have h3 := h.body; have h4 := h.fs; have h5 := h.ts
  have h6 := Rec.weigh_le r.fs 1000000 h.f
  have h7 := Rec.weigh_le r.ts 1000000 h.t
  have h8 : r.fs.length * (1000000 + 1000000) ≤ 1000000000 := Nat.le_trans (Nat.mul_le_mul_right _ h4) (by decide)
  have h9 : r.ts.length * (1000000 + 1000000) ≤ 1000000000 := Nat.le_trans (Nat.mul_le_mul_right _ h5) (by decide)
  unfold Rec.size
  omega
theorem held_any {L : List (Option Nat)} {x : Q} (h : At w B g p b L x) (ok : x.Ok b) : Calls Tryz.prog 28 #[ptr g] w fun r w' => r = .returned (.int .i64 (x.held : Int)) ∧ Below w.heap.size w w' := by
  cases x with
  | live s =>
    obtain ⟨q, v, f, bd, t, o, rfl, h⟩ := h
    obtain ⟨ok, -⟩ : s.Ok ∧ b.right = true := ok
    have HF := Lib.hid (failed_live h.cs.c0)
    have c25 := h.cs.c25
    have hll : s.rd.len ≤ 4096 := by
      have h1 := ok.rd.len; have h2 := ok.rd.most
      unfold Ln.M.len
      split <;> omega
    have hsz := size_small (PR.draft h ok).2
    have HL := Lib.hid (Ln.len_any h.own.R.row h.own.R.own)
    have HD := Lib.hid (draft_any h)
    have HE := Lib.hid (fun (w2 : World) (hb : Below w.heap.size w w2) => Rec.size_any _ s.r w2 (PR.draft (h.below hb) ok).1 (PR.draft (h.below hb) ok).2)
    obtain ⟨a1, a2⟩ := Rec.wraps ((s.rd.len : Int) + (Rec.size s.r : Int)) ⟨by omega, by omega⟩
    show Calls _ _ _ _ fun r w' => r = .returned (.int .i64 ((s.rd.len + Rec.size s.r : Nat) : Int)) ∧ Below w.heap.size w w'
    clear h ok hll hsz
    generalize s.rd.len = n1 at *
    generalize Rec.size s.r = n2 at *
    go_enter Tryz.func28, Tryz.ntmps28
    go_wp2_with (first
      | (go_at_call 70; with_reducible refine (HE.out _ HB2.out).mono ?_; rintro r w4 ⟨rfl, hb4⟩)
      | (go_at_call 66; with_reducible refine HD.out.mono ?_; rintro r w3 ⟨rfl, hb3⟩
         have HB2 := Lib.hid hb3
         clear hb3)
      | (go_at_call 69; with_reducible refine HL.out.mono ?_; rintro r w2 ⟨rfl, hw⟩; rw [hw]; clear hw)
      | (go_at_call 68; with_reducible refine HF.out.mono ?_; rintro r w2 ⟨rfl, hw⟩; rw [hw]; clear hw))
    go_ret
    exact ⟨rfl, Base.below_step HB2.out hb4⟩
  | dead e out =>
    obtain ⟨o, rfl, h⟩ := h
    have HF := Lib.hid (failed_dead h.cell0 h.bad)
    clear h ok
    go_enter Tryz.func28, Tryz.ntmps28
    go_wp2_with (go_at_call 68; with_reducible refine HF.out.mono ?_; rintro r w2 ⟨rfl, hw⟩; rw [hw]; clear hw)
    go_ret
    exact ⟨rfl, Below.refl _ _⟩
end code
end Go.Proofs.YtbineebnhjifiaaGreatDoor.Pg
/- PgNew -/
namespace Go.Proofs.YtbineebnhjifiaaGreatDoor.Pg
open Go.RowKit Base Txt Mem Par

section code
set_option maxHeartbeats 4000000
set_option maxRecDepth 20000
attribute [local go_sem] Base.some_undef
variable {w : World} {B : Zone} {g q : Nat} {v f bd t o : Value} {p : Nat} {b : Bd} {s : T}
theorem enter_new (hp : p < 4294967296) (hz : B.z = []) (hrow : w.heap[g]? = some (.cells ([.int .i64 0, .int .i64 0, nil, .string E0, .string E0, .int .i64 0, .int .i64 0, .bool false, .int .i64 0, nil, .bool false, nil, .int .i64 0, .int .u32 (p : Int), .int .i64 b.x0, .int .i64 b.x1, .int .i64 b.x2, .int .i64 b.x3, .int .i64 b.x4, .int .i64 b.x5, .int .i64 b.x6, .int .i64 b.x7, .bool b.ch, .bool b.od, .int .i64 0, .pointer none, nil] : List Value).toArray 55 (0, 0))) (hB : B ≤ g) : Calls Tryz.prog 59 #[ptr g, .int .i64 1, .int .i64 b.x0] w fun r w' =>
    r = .returned (.tuple #[]) ∧ ∃ q1, PR w' B g q1 nil nil nil nil nil p b (T.new p b) ∧ Keeps [some g] w w' := by
  have hlt := Ln.row_lt hrow
  have HR1 := Lib.hid (row_setL hrow 24 (.int .i64 1))
  have HK1 := Lib.hid (Keeps.set (w := w) (L := [some g]) g 24 (.int .i64 1) (by simp))
  have HLT := Lib.hid (show g < (w.setCell ⟨g, 24, none⟩ (.int .i64 1)).heap.size by simpa using hlt)
  have HB := Lib.hid hB
  have c24 := row_cellL hrow (k := 24) rfl; have z24 := Ln.row_frozen hrow 24
  clear hrow hB hlt
  go_enter Tryz.func59, Tryz.ntmps59
  go_upto_region 1 with fail
  generalize w.setCell ⟨g, 24, none⟩ (.int .i64 1) = W1 at *
  clear c24 z24
  have c13 : W1.cell? ⟨g, 13, none⟩ = some (.int .u32 (p : Int)) := row_cellL HR1.out (k := 13) rfl
  have HNL := Lib.hid (line_new hp B b.x0 W1 (Nat.le_trans HB.out (Nat.le_of_lt HLT.out)))
  go_wp2_with
    (go_at_call 90; with_reducible refine HNL.out.mono ?_; rintro r w8 ⟨q1, rfl, hq1, hr1, hb8⟩
     have hrow8 := (hb8.block g HLT.out).trans HR1.out
     have d25 := row_cellL hrow8 (k := 25) rfl; have y25 := Ln.row_frozen hrow8 25
     have HR8 := Lib.hid hrow8; have HD8 := Lib.hid hr1; have HQ8 := Lib.hid hq1; have HB8 := Lib.hid hb8
     clear hb8 hr1 hq1 hrow8)
  go_end0
  have hgq : g ≠ q1 := by have := HLT.out; have := HQ8.out; omega
  have hk : Keeps [some g] w8 (w8.setCell ⟨g, 25, none⟩ (ptr q1)) := Keeps.set g 25 _ (by simp)
  refine ⟨rfl, q1, ⟨row_setL HR8.out 25 (ptr q1), ⟨⟨hk.row HD8.out.row (by simpa using fun e => hgq e.symm), hk.own HD8.out.own (by simp [Value.ownBlock]), HD8.out.ge, HD8.out.ne⟩, World.ownsRow_nil _ _ _ _, World.ownsRow_nil _ _ _ _, World.ownsRow_nil _ _ _ _, ⟨[], rfl, (by intro x hx; cases hx), World.ownsRow_nil _ _ _ _⟩, ?_, HB.out, by have := HLT.out; have := HB8.out.size; simp; omega, by rw [hz]; exact Clear.nil⟩⟩, (HK1.out.trans (Keeps.of_below HB8.out) Of.refl).trans hk Of.refl⟩
  intro i j k hi hj
  rcases i with _ | _ | _ | _ | _ | _ | _ | i <;> rcases j with _ | _ | _ | _ | _ | _ | _ | j <;> simp [Value.ownBlock] at hi hj ⊢ <;> omega
theorem T.new_ok (p : Nat) (b : Bd) : (T.new p b).Ok :=
  ⟨Ln.M.new_ok _ _ _ (Ln.mid_le _), rfl, ⟨Nat.le_refl _, by show 1 ≤ 7; omega⟩, Nat.zero_le _, Nat.zero_le _, Nat.le_refl _, Nat.le_refl _, (by intro y hy; cases hy), (by intro y hy; cases hy), Nat.zero_le _, Nat.zero_le _, Nat.zero_le _, fun h => (by cases h), fun _ => rfl, Nat.zero_le _⟩
theorem Q.new_ok (p : Nat) (b : Bd) : (Q.new p b).Ok b := by
  unfold Q.new
  split
  · rename_i h
    simp only [Bool.and_eq_true] at h
    exact ⟨T.new_ok p b, h.1⟩
  · trivial
theorem dead_new {W : World} (hz : B.z = []) (hrow : W.heap[g]? = some (.cells ([.int .i64 20, .int .i64 0, nil, .string E0, .string E0, .int .i64 0, .int .i64 0, .bool false, .int .i64 0, nil, .bool false, nil, .int .i64 0, .int .u32 0, .int .i64 0, .int .i64 0, .int .i64 0, .int .i64 0, .int .i64 0, .int .i64 0, .int .i64 0, .int .i64 0, .bool false, .bool false, .int .i64 0, .pointer none, nil] : List Value).toArray 55 (0, 0))) (hB : B ≤ g) : At W B g p b [some g, none] (.dead 20 []) :=
  ⟨nil, rfl, ⟨hrow, ⟨[], rfl, (by intro x hx; cases hx), World.ownsRow_nil _ _ _ _⟩, by simp [Value.ownBlock], hB, Ln.row_lt hrow, by decide, by rw [hz]; exact Clear.nil⟩⟩
theorem new_any (hp : p < 4294967296) (w : World) : Calls Tryz.prog 20 #[.int .u32 (p : Int), .agg #[.int .i64 b.x0, .int .i64 b.x1, .int .i64 b.x2, .int .i64 b.x3, .int .i64 b.x4, .int .i64 b.x5, .int .i64 b.x6, .int .i64 b.x7, .bool b.ch, .bool b.od]] w fun r w' =>
    ∃ g L', r = .returned (ptr g) ∧ w.heap.size ≤ g ∧ At w' ⟨w.heap.size, []⟩ g p b L' (Q.new p b) ∧ Below w.heap.size w w' := by
  have hqr := fun w => Qk.right_any p hp w
  have hbr := fun w => Bnd.right_any b.x0 b.x1 b.x2 b.x3 b.x4 b.x5 b.x6 b.x7 b.ch b.od w
  have HB0 := Lib.hid (((Below.refl _ _).alloc (Nat.le_refl _) (.cells #[.int .i64 b.x0, .int .i64 b.x1, .int .i64 b.x2, .int .i64 b.x3, .int .i64 b.x4, .int .i64 b.x5, .int .i64 b.x6, .int .i64 b.x7, .bool b.ch, .bool b.od] 29)) : Below w.heap.size w _)
  have HZ0 := Lib.hid (Rec.Bk.new w w.heap.size rfl 29 [.int .i64 b.x0, .int .i64 b.x1, .int .i64 b.x2, .int .i64 b.x3, .int .i64 b.x4, .int .i64 b.x5, .int .i64 b.x6, .int .i64 b.x7, .bool b.ch, .bool b.od])
  have HSZ := Lib.hid (show w.heap.size < (w.alloc (.cells #[.int .i64 b.x0, .int .i64 b.x1, .int .i64 b.x2, .int .i64 b.x3, .int .i64 b.x4, .int .i64 b.x5, .int .i64 b.x6, .int .i64 b.x7, .bool b.ch, .bool b.od] 29)).heap.size by simp)
  unfold Q.new
  by_cases hP : p < 1073741824
  · rw [decide_eq_true hP] at hqr ⊢
    rw [Bool.and_true]
    have HQR := Lib.hid hqr
    unfold Bd.right
    cases hb : Bnd.right b.x0 b.x1 b.x2 b.x3 b.x4 b.x5 b.x6 b.x7 with
    | true =>
      rw [hb] at hbr
      have HBR := Lib.hid hbr
      rw [if_pos rfl]
      clear hqr hbr hb hP
      go_enter Tryz.func20, Tryz.ntmps20
      go_upto_region 1 with fail
      generalize w.alloc (.cells #[.int .i64 b.x0, .int .i64 b.x1, .int .i64 b.x2, .int .i64 b.x3, .int .i64 b.x4, .int .i64 b.x5, .int .i64 b.x6, .int .i64 b.x7, .bool b.ch, .bool b.od] 29) = W0 at *
      have y0 := HZ0.out.c 0 _ rfl; have y1 := HZ0.out.c 1 _ rfl; have y2 := HZ0.out.c 2 _ rfl; have y3 := HZ0.out.c 3 _ rfl; have y4 := HZ0.out.c 4 _ rfl; have y5 := HZ0.out.c 5 _ rfl; have y6 := HZ0.out.c 6 _ rfl; have y7 := HZ0.out.c 7 _ rfl; have y8 := HZ0.out.c 8 _ rfl; have y9 := HZ0.out.c 9 _ rfl
      go_upto_region 4 with (first
        | (go_at_call 58; with_reducible refine (HBR.out _).mono ?_; rintro r w3 ⟨rfl, hb3⟩
           have HB3 := Lib.hid hb3; have HZ3 := Lib.hid (HZ0.out.below hb3)
           have x0 := HZ3.out.c 0 _ rfl; have x1 := HZ3.out.c 1 _ rfl; have x2 := HZ3.out.c 2 _ rfl; have x3 := HZ3.out.c 3 _ rfl; have x4 := HZ3.out.c 4 _ rfl; have x5 := HZ3.out.c 5 _ rfl; have x6 := HZ3.out.c 6 _ rfl; have x7 := HZ3.out.c 7 _ rfl; have x8 := HZ3.out.c 8 _ rfl; have x9 := HZ3.out.c 9 _ rfl
           clear hb3)
        | (go_at_call 57; with_reducible refine (HQR.out _).mono ?_; rintro r w2 ⟨rfl, hw⟩; rw [hw]; clear hw))
      have HB4 := Lib.hid (Base.below_step HB0.out HB3.out)
      have HR4 := Lib.hid (heap_alloc_new w3 (.cells ([.int .i64 0, .int .i64 0, nil, .string E0, .string E0, .int .i64 0, .int .i64 0, .bool false, .int .i64 0, nil, .bool false, nil, .int .i64 0, .int .u32 (p : Int), .int .i64 b.x0, .int .i64 b.x1, .int .i64 b.x2, .int .i64 b.x3, .int .i64 b.x4, .int .i64 b.x5, .int .i64 b.x6, .int .i64 b.x7, .bool b.ch, .bool b.od, .int .i64 0, .pointer none, nil] : List Value).toArray 55))
      have HG := Lib.hid (show w.heap.size ≤ w3.heap.size from Nat.le_trans (Nat.le_of_lt HSZ.out) HB3.out.size)
      have HBW := Lib.hid (HB4.out.alloc HG.out (.cells ([.int .i64 0, .int .i64 0, nil, .string E0, .string E0, .int .i64 0, .int .i64 0, .bool false, .int .i64 0, nil, .bool false, nil, .int .i64 0, .int .u32 (p : Int), .int .i64 b.x0, .int .i64 b.x1, .int .i64 b.x2, .int .i64 b.x3, .int .i64 b.x4, .int .i64 b.x5, .int .i64 b.x6, .int .i64 b.x7, .bool b.ch, .bool b.od, .int .i64 0, .pointer none, nil] : List Value).toArray 55))
      have HX4 := Lib.hid ((HZ3.out.alloc (.cells ([.int .i64 0, .int .i64 0, nil, .string E0, .string E0, .int .i64 0, .int .i64 0, .bool false, .int .i64 0, nil, .bool false, nil, .int .i64 0, .int .u32 (p : Int), .int .i64 b.x0, .int .i64 b.x1, .int .i64 b.x2, .int .i64 b.x3, .int .i64 b.x4, .int .i64 b.x5, .int .i64 b.x6, .int .i64 b.x7, .bool b.ch, .bool b.od, .int .i64 0, .pointer none, nil] : List Value).toArray 55)).c 0 _ rfl)
      have HE := Lib.hid (enter_new (B := ⟨w.heap.size, []⟩) hp rfl HR4.out HG.out)
      clear y0 y1 y2 y3 y4 y5 y6 y7 y8 y9 x0 x1 x2 x3 x4 x5 x6 x7 x8 x9 HR4
      have x0 := HX4.out
      go_wp2_with (go_at_call 59; with_reducible refine HE.out.mono ?_; rintro r w5 ⟨rfl, q1, hP, hK⟩)
      go_ret
      exact ⟨_, _, rfl, HG.out, ⟨_, _, _, _, _, _, rfl, hP⟩, HBW.out.trans (hK.below HBW.out.size (fun k hk => by rw [Option.some.inj (List.mem_singleton.1 hk)]; exact HG.out))⟩
    | false =>
      rw [hb] at hbr
      have HBR := Lib.hid hbr
      rw [if_neg (by decide)]
      clear hqr hbr hb hP
      go_enter Tryz.func20, Tryz.ntmps20
      go_upto_region 1 with fail
      generalize w.alloc (.cells #[.int .i64 b.x0, .int .i64 b.x1, .int .i64 b.x2, .int .i64 b.x3, .int .i64 b.x4, .int .i64 b.x5, .int .i64 b.x6, .int .i64 b.x7, .bool b.ch, .bool b.od] 29) = W0 at *
      have y0 := HZ0.out.c 0 _ rfl; have y1 := HZ0.out.c 1 _ rfl; have y2 := HZ0.out.c 2 _ rfl; have y3 := HZ0.out.c 3 _ rfl; have y4 := HZ0.out.c 4 _ rfl; have y5 := HZ0.out.c 5 _ rfl; have y6 := HZ0.out.c 6 _ rfl; have y7 := HZ0.out.c 7 _ rfl; have y8 := HZ0.out.c 8 _ rfl; have y9 := HZ0.out.c 9 _ rfl
      go_wp2_with (first
        | (go_at_call 58; with_reducible refine (HBR.out _).mono ?_; rintro r w3 ⟨rfl, hb3⟩
           have HB3 := Lib.hid hb3
           clear hb3)
        | (go_at_call 57; with_reducible refine (HQR.out _).mono ?_; rintro r w2 ⟨rfl, hw⟩; rw [hw]; clear hw))
      go_ret
      have hg := Nat.le_trans (Nat.le_of_lt HSZ.out) HB3.out.size
      exact ⟨_, _, rfl, hg, dead_new (B := ⟨w.heap.size, []⟩) rfl (heap_alloc_new w3 (.cells ([.int .i64 20, .int .i64 0, nil, .string E0, .string E0, .int .i64 0, .int .i64 0, .bool false, .int .i64 0, nil, .bool false, nil, .int .i64 0, .int .u32 0, .int .i64 0, .int .i64 0, .int .i64 0, .int .i64 0, .int .i64 0, .int .i64 0, .int .i64 0, .int .i64 0, .bool false, .bool false, .int .i64 0, .pointer none, nil] : List Value).toArray 55)) hg, (Base.below_step HB0.out HB3.out).alloc hg _⟩
  · rw [decide_eq_false hP] at hqr ⊢
    rw [Bool.and_false, if_neg (by decide)]
    have HQR := Lib.hid hqr
    clear hqr hbr hP
    go_enter Tryz.func20, Tryz.ntmps20
    go_upto_region 1 with fail
    generalize w.alloc (.cells #[.int .i64 b.x0, .int .i64 b.x1, .int .i64 b.x2, .int .i64 b.x3, .int .i64 b.x4, .int .i64 b.x5, .int .i64 b.x6, .int .i64 b.x7, .bool b.ch, .bool b.od] 29) = W0 at *
    go_wp2_with (go_at_call 57; with_reducible refine (HQR.out _).mono ?_; rintro r w2 ⟨rfl, hw⟩; rw [hw]; clear hw)
    go_ret
    have hg := Nat.le_of_lt HSZ.out
    exact ⟨_, _, rfl, hg, dead_new (B := ⟨w.heap.size, []⟩) rfl (heap_alloc_new W0 (.cells ([.int .i64 20, .int .i64 0, nil, .string E0, .string E0, .int .i64 0, .int .i64 0, .bool false, .int .i64 0, nil, .bool false, nil, .int .i64 0, .int .u32 0, .int .i64 0, .int .i64 0, .int .i64 0, .int .i64 0, .int .i64 0, .int .i64 0, .int .i64 0, .int .i64 0, .bool false, .bool false, .int .i64 0, .pointer none, nil] : List Value).toArray 55)) hg, HB0.out.alloc hg _⟩
end code
end Go.Proofs.YtbineebnhjifiaaGreatDoor.Pg
/- PgRead -/
namespace Go.Proofs.YtbineebnhjifiaaGreatDoor.Pg
open Go.RowKit Base Txt Mem Par

theorem told_err (x : Q) : x.told.err = x.err := by cases x <;> rfl
theorem told_clean (x : Q) : x.told.clean = x.clean := by cases x <;> rfl
theorem told_waits (x : Q) : x.told.waits = x.waits := by cases x <;> rfl
theorem told_held (x : Q) : x.told.held = x.held := by cases x <;> rfl
theorem told_ok {b : Bd} {x : Q} (h : x.Ok b) : x.told.Ok b := by
  cases x with
  | live t => exact ⟨⟨h.1.rd, h.1.nf, h.1.st, h.1.hl, h.1.bl, h.1.fsl, h.1.tsl, h.1.fss, h.1.tss, h.1.m, h.1.x, h.1.body, h.1.left, h.1.early, h.1.size⟩, h.2⟩
  | dead e o => trivial
theorem told_out (x : Q) : x.told.out = [] := by cases x <;> rfl
/-- One slice of bytes, as a slice of such. -/
theorem Parts.one {L : List (Option Nat)} {w : World} {a : Option Addr} {c : Nat} {l : List UInt8} (h : Bts L w a l) (hin : In w L) (ty : TypeId) : Parts L (w.alloc (.cells #[.slice a l.length c] ty)) (some ⟨w.heap.size, 0, none⟩) [l] := by
  have hb : Below w.heap.size w (w.alloc (.cells #[.slice a l.length c] ty)) := (Below.refl _ _).alloc (Nat.le_refl _) _
  refine ⟨fun _ => ⟨w.heap.size, 0, rfl, by simp, fun hm => by have := hin _ hm; omega, fun k hk => ?_⟩⟩
  have hk : k < 1 := hk
  obtain rfl : k = 0 := by omega
  refine ⟨a, c, ?_, ?_⟩
  · have := cell_of_row (w.alloc (.cells #[.slice a l.length c] ty)) w.heap.size 0 _ ty (0, 0) (heap_alloc_new w _)
    exact this.trans rfl
  · exact h.step (Step.of_below hb)
section code
set_option maxHeartbeats 4000000
set_option maxRecDepth 20000
attribute [local go_sem] Base.some_undef
variable {w : World} {B : Zone} {g q : Nat} {v f bd t o : Value} {p : Nat} {b : Bd} {s : T}
theorem read_any (hp : p < 4294967296) (w : World) (a : Option Addr) (c : Nat) (l : List UInt8) (hl : Bts [] w a l) (hn : l.length ≤ 400000000) : Calls Tryz.prog 32 #[.int .u32 (p : Int), .agg #[.int .i64 b.x0, .int .i64 b.x1, .int .i64 b.x2, .int .i64 b.x3, .int .i64 b.x4, .int .i64 b.x5, .int .i64 b.x6, .int .i64 b.x7, .bool b.ch, .bool b.od], .slice a l.length c] w fun r w' =>
    ∃ o L B0, r = .returned (.tuple #[o, .int .i64 ((Q.read p b l).err : Int), .bool (Q.read p b l).clean]) ∧ Told L B0 w' o (Q.read p b l).out ∧ Below w.heap.size w w' := by
  have HB0 := Lib.hid (((Below.refl _ _).alloc (Nat.le_refl _) (.cells #[.int .i64 b.x0, .int .i64 b.x1, .int .i64 b.x2, .int .i64 b.x3, .int .i64 b.x4, .int .i64 b.x5, .int .i64 b.x6, .int .i64 b.x7, .bool b.ch, .bool b.od] 29)) : Below w.heap.size w _)
  have HZ0 := Lib.hid (Rec.Bk.new w w.heap.size rfl 29 [.int .i64 b.x0, .int .i64 b.x1, .int .i64 b.x2, .int .i64 b.x3, .int .i64 b.x4, .int .i64 b.x5, .int .i64 b.x6, .int .i64 b.x7, .bool b.ch, .bool b.od])
  have HSZ := Lib.hid (show w.heap.size < (w.alloc (.cells #[.int .i64 b.x0, .int .i64 b.x1, .int .i64 b.x2, .int .i64 b.x3, .int .i64 b.x4, .int .i64 b.x5, .int .i64 b.x6, .int .i64 b.x7, .bool b.ch, .bool b.od] 29)).heap.size by simp)
  have HL := Lib.hid hl; have HN := Lib.hid hn
  unfold Q.read
  obtain ⟨X, hX⟩ : ∃ X, Q.feed p b (Q.new p b) l = X := ⟨_, rfl⟩
  rw [hX]
  have HX := Lib.hid hX
  obtain ⟨m, hm⟩ : ∃ m, l.length = m := ⟨_, rfl⟩
  have HM := Lib.hid hm
  rw [hm]
  clear hl hn hm hX
  go_enter Tryz.func32, Tryz.ntmps32
  go_upto_region 1 with fail
  generalize w.alloc (.cells #[.int .i64 b.x0, .int .i64 b.x1, .int .i64 b.x2, .int .i64 b.x3, .int .i64 b.x4, .int .i64 b.x5, .int .i64 b.x6, .int .i64 b.x7, .bool b.ch, .bool b.od] 29) = W0 at *
  have y0 := HZ0.out.c 0 _ rfl; have y1 := HZ0.out.c 1 _ rfl; have y2 := HZ0.out.c 2 _ rfl; have y3 := HZ0.out.c 3 _ rfl; have y4 := HZ0.out.c 4 _ rfl; have y5 := HZ0.out.c 5 _ rfl; have y6 := HZ0.out.c 6 _ rfl; have y7 := HZ0.out.c 7 _ rfl; have y8 := HZ0.out.c 8 _ rfl; have y9 := HZ0.out.c 9 _ rfl
  have HNW := Lib.hid (new_any (b := b) hp W0)
  go_upto_region 2 with
    (go_at_call 20; with_reducible refine HNW.out.mono ?_; rintro r w1 ⟨g, L1, rfl, hg, hA, hb1⟩
     have HG := Lib.hid hg; have HA := Lib.hid hA; have HB1 := Lib.hid hb1
     clear hg hA hb1)
  have hlow := HA.out.low
  have hlA : Bts L1 w1 a l := by
    refine ⟨HL.out.nums.below (Base.below_step HB0.out HB1.out), fun ad e => ?_⟩
    have := (HL.out.far ad e).2
    refine ⟨fun hm => ?_, Nat.lt_of_lt_of_le this (Nat.le_trans (Nat.le_of_lt HSZ.out) HB1.out.size)⟩
    have : W0.heap.size ≤ ad.block := hlow _ hm
    have := HSZ.out
    omega
  have hpa := Parts.one (c := c) hlA HA.out.in 22
  rw [HM.out] at hpa
  have hb2 : Below w1.heap.size w1 (w1.alloc (.cells #[.slice a m c] 22)) := (Below.refl _ _).alloc (Nat.le_refl _) _
  have hfe := feed_any hp _ (HA.out.below hb2) (Q.new_ok p b) (some ⟨w1.heap.size, 0, none⟩) 1 [l] hpa (by simp) (by
    have h1 : (Q.new p b).out.length = 0 := by unfold Q.new; split <;> rfl
    have h2 := HN.out
    rw [h1]
    simp only [List.flatten_cons, List.flatten_nil, List.append_nil]
    omega)
  have efl : [l].flatten = l := by simp
  rw [efl] at hfe
  have HFE := Lib.hid (show Calls Tryz.prog 22 #[ptr g, .slice (some ⟨w1.heap.size, 0, none⟩) 1 1] (w1.alloc (.cells #[.slice a m c] 22)) fun r w' => ∃ o L', r = .returned o ∧ At w' ⟨W0.heap.size, []⟩ g p b L' (Q.feed p b (Q.new p b) l).told ∧ Told L' ⟨W0.heap.size, []⟩ w' o (Q.feed p b (Q.new p b) l).out ∧ Step L1 L' (w1.alloc (.cells #[.slice a m c] 22)) w' from hfe)
  have HLOW := Lib.hid hlow
  have HB2 := Lib.hid (Base.below_step (Base.below_step HB0.out HB1.out) hb2)
  rw [HX.out] at HFE
  clear hlA hpa hb2 hfe efl hlow y0 y1 y2 y3 y4 y5 y6 y7 y8 y9
  go_wp2_with (first
    | (go_at_call 30; with_reducible refine HC.out.mono ?_; rintro r w3 ⟨rfl, hw⟩; rw [hw]; clear hw)
    | (go_at_call 25; with_reducible refine HE.out.mono ?_; rintro r w3 ⟨rfl, hw⟩; rw [hw]; clear hw)
    | (go_at_call 22; with_reducible refine HFE.out.mono ?_; rintro r w3 ⟨o, L', rfl, hA3, hT3, hS3⟩
       have HE := Lib.hid (errq_any hA3); have HC := Lib.hid (cleanq_any hA3)
       rw [told_err] at HE; rw [told_clean] at HC
       have HT3 := Lib.hid hT3; have HS3 := Lib.hid hS3
       clear hA3 hT3 hS3))
  refine bodyPost_ret (v := .tuple #[o, .int .i64 (X.err : Int), .bool X.clean]) (by simp [results, Tryz.results32, go_sem]) rfl ?_
  refine ⟨_, _, _, rfl, HT3.out, HB2.out.trans (HS3.out.keeps.below HB2.out.size (fun k hk => ?_))⟩
  have := HLOW.out k hk
  have := HSZ.out
  omega
end code
theorem flat_at : ∀ (ps : List (Array Value × Rec.R)), (∀ x ∈ ps, x.1.size = 7) → ∀ k (hk : k < ps.length) j, j < 7 → (ps.flatMap (·.1.toList))[k * 7 + j]? = ps[k].1.toList[j]?
  | [], _, k, hk, _, _ => by cases hk
  | x :: ps, h, 0, _, j, hj => by
    have hx : x.1.toList.length = 7 := by simpa using h x (by simp)
    rw [List.flatMap_cons, List.getElem?_append_left (by omega), Nat.zero_mul, Nat.zero_add]
    rfl
  | x :: ps, h, k + 1, hk, j, hj => by
    have hx : x.1.toList.length = 7 := by simpa using h x (by simp)
    rw [List.flatMap_cons, List.getElem?_append_right (by omega), hx, show (k + 1) * 7 + j - 7 = k * 7 + j by omega]
    exact flat_at ps (fun y hy => h y (by simp [hy])) k (by simpa using hk) j hj
/-- Records that were told, one by one. -/
theorem Told.at {L : List (Option Nat)} {B : Zone} {w : World} {o : Value} {out : List Rec.R} (h : Told L B w o out) : ∃ a c, o = .slice a out.length c ∧ (0 < out.length → ∃ bk, a = some ⟨bk, 0, none⟩ ∧ bk < w.heap.size ∧
    ∀ k (hk : k < out.length), ∃ fa fc ba bc ta tc, Flds w fa out[k].fs.length out[k].fs ∧ Nums .u8 w ba out[k].body.length (out[k].body.map fun c => (c.toNat : Int)) ∧ Flds w ta out[k].ts.length out[k].ts ∧
      w.cell? ⟨bk, k * 7, none⟩ = some (.string out[k].m) ∧ w.cell? ⟨bk, k * 7 + 1, none⟩ = some (.string out[k].x) ∧ w.cell? ⟨bk, k * 7 + 2, none⟩ = some (.int .i64 out[k].k) ∧ w.cell? ⟨bk, k * 7 + 3, none⟩ = some (.slice fa out[k].fs.length fc) ∧
      w.cell? ⟨bk, k * 7 + 4, none⟩ = some (.bool out[k].ch) ∧ w.cell? ⟨bk, k * 7 + 5, none⟩ = some (.slice ba out[k].body.length bc) ∧ w.cell? ⟨bk, k * 7 + 6, none⟩ = some (.slice ta out[k].ts.length tc)) := by
  obtain ⟨ps, h1, h2, h3⟩ := h.outs
  obtain ⟨a, c, e, -⟩ := Ln.own_slice h3
  subst e
  refine ⟨a, c, rfl, fun h0 => ?_⟩
  obtain ⟨bk, cf, hform, -, hlt⟩ := h3.form h0
  simp only [Value.slice.injEq, true_and] at hform
  obtain ⟨rfl, rfl⟩ := hform
  refine ⟨bk, rfl, hlt, fun k hk => ?_⟩
  have hkp : k < ps.length := by rw [← h1, List.length_map] at hk; exact hk
  have hr : out[k] = ps[k].2 := by simp [← h1]
  obtain ⟨h7, hF⟩ := h2 ps[k] (List.getElem_mem hkp)
  obtain ⟨fa, fc, ba, bc, ta, tc, hV, f1, f2, f3⟩ := hF.reads
  have hcs : ps[k].1 = #[.string ps[k].2.m, .string ps[k].2.x, .int .i64 ps[k].2.k, .slice fa ps[k].2.fs.length fc, .bool ps[k].2.ch, .slice ba ps[k].2.body.length bc, .slice ta ps[k].2.ts.length tc] := by injection hV
  have key : ∀ j, j < 7 → w.cell? ⟨bk, k * 7 + j, none⟩ = ps[k].1.toList[j]? := by
    intro j hj
    have hc := h3.cellAt (k * 7 + j) (by omega)
    have e : (ps.flatMap (·.1.toList))[k * 7 + j]? = ps[k].1.toList[j]? := flat_at ps (fun x hx => (h2 x hx).1) k hkp j hj
    exact hc.trans e
  rw [hr]
  rw [hcs] at key
  exact ⟨fa, fc, ba, bc, ta, tc, f1, f2, f3, key 0 (by decide), key 1 (by decide), key 2 (by decide), key 3 (by decide), key 4 (by decide), key 5 (by decide), key 6 (by decide)⟩
end Go.Proofs.YtbineebnhjifiaaGreatDoor.Pg
/- Bytes -/
namespace Go.Proofs.YtbineebnhjifiaaGreatDoor.By
open Go.RowKit Base

/-- A block whose first cells are the bytes l, and may be written. -/
def Bytes (w : World) (g : Nat) (l : List UInt8) : Prop := ∀ j (h : j < l.length), w.cell? ⟨g, j, none⟩ = some (.int .u8 (l[j].toNat : Int)) ∧ w.frozen? ⟨g, j, none⟩ = false
theorem Bytes.below {w w' : World} {g : Nat} {l : List UInt8} (h : Bytes w g l) (hg : g < w.heap.size) (hb : Below w.heap.size w w') : Bytes w' g l :=
  fun j hj => ⟨(hb.cell (p := ⟨g, j, none⟩) hg).trans (h j hj).1, (hb.frozen (p := ⟨g, j, none⟩) hg).trans (h j hj).2⟩
theorem conv_bytes (s : ByteArray) (w : World) : ∃ W cap, (convert 9 22 (.string s)).run Tryz.prog w = .ok (.slice (some ⟨w.heap.size, 0, none⟩) s.size cap) W ∧ Bytes W w.heap.size s.data.toList ∧ w.heap.size < W.heap.size ∧ Below w.heap.size w W := by
  have hcv := run_bytes_of_string (P := Tryz.prog) w 9 22 5 s Tryz.underlying9 Tryz.underlying22 Tryz.underlying5
  refine ⟨_, _, hcv, fun j hj => ?_, by simp, (Below.refl _ _).drew.alloc (Nat.le_refl _) _⟩
  have hj' : j < s.data.size := by simpa using hj
  refine ⟨(World.cell?_alloc_mark w.drew _ _ _ j).trans (bytesRow_at s _ j hj'), (World.frozen?_alloc_mark w.drew _ _ _ _ j).trans ?_⟩
  have : ¬ (bytesRow s (grownCap w s.size 0 5)).size ≤ j := by
    unfold bytesRow
    rw [Array.size_append, Array.size_map]; omega
  simp [this]
end Go.Proofs.YtbineebnhjifiaaGreatDoor.By
/- PgSaid -/
namespace Go.Proofs.YtbineebnhjifiaaGreatDoor.Pg
open Go.RowKit Base Txt Mem Par

abbrev usual : Bd := ⟨1024, 32, 8192, 65536, 32, 8, 4, 20, true, true⟩
abbrev bdV (b : Bd) : Value := .agg #[.int .i64 b.x0, .int .i64 b.x1, .int .i64 b.x2, .int .i64 b.x3, .int .i64 b.x4, .int .i64 b.x5, .int .i64 b.x6, .int .i64 b.x7, .bool b.ch, .bool b.od]
/-- A record at a place of a block. -/
def RecAt (w : World) (bk j : Nat) (r : Rec.R) : Prop := ∃ fa fc ba bc ta tc, Flds w fa r.fs.length r.fs ∧ Nums .u8 w ba r.body.length (r.body.map fun c => (c.toNat : Int)) ∧ Flds w ta r.ts.length r.ts ∧
  w.cell? ⟨bk, j, none⟩ = some (.string r.m) ∧ w.cell? ⟨bk, j + 1, none⟩ = some (.string r.x) ∧ w.cell? ⟨bk, j + 2, none⟩ = some (.int .i64 r.k) ∧ w.cell? ⟨bk, j + 3, none⟩ = some (.slice fa r.fs.length fc) ∧
  w.cell? ⟨bk, j + 4, none⟩ = some (.bool r.ch) ∧ w.cell? ⟨bk, j + 5, none⟩ = some (.slice ba r.body.length bc) ∧ w.cell? ⟨bk, j + 6, none⟩ = some (.slice ta r.ts.length tc)
/-- A slice of records. -/
def Said (w : World) (o : Value) (out : List Rec.R) : Prop := ∃ a c, o = .slice a out.length c ∧ (0 < out.length → ∃ bk, a = some ⟨bk, 0, none⟩ ∧ bk < w.heap.size ∧ ∀ k (hk : k < out.length), RecAt w bk (k * 7) out[k])
theorem Told.said {L : List (Option Nat)} {B : Zone} {w : World} {o : Value} {out : List Rec.R} (h : Told L B w o out) : Said w o out := h.at
theorem RecAt.below {w w' : World} {bk j : Nat} {r : Rec.R} (h : RecAt w bk j r) (hlt : bk < w.heap.size) (hb : Below w.heap.size w w') : RecAt w' bk j r := by
  obtain ⟨fa, fc, ba, bc, ta, tc, f1, f2, f3, c0, c1, c2, c3, c4, c5, c6⟩ := h
  exact ⟨fa, fc, ba, bc, ta, tc, f1.below hb, f2.below hb, f3.below hb, (hb.cell (p := ⟨bk, j, none⟩) hlt).trans c0, (hb.cell (p := ⟨bk, j + 1, none⟩) hlt).trans c1, (hb.cell (p := ⟨bk, j + 2, none⟩) hlt).trans c2, (hb.cell (p := ⟨bk, j + 3, none⟩) hlt).trans c3, (hb.cell (p := ⟨bk, j + 4, none⟩) hlt).trans c4, (hb.cell (p := ⟨bk, j + 5, none⟩) hlt).trans c5, (hb.cell (p := ⟨bk, j + 6, none⟩) hlt).trans c6⟩
theorem Said.below {w w' : World} {o : Value} {out : List Rec.R} (h : Said w o out) (hb : Below w.heap.size w w') : Said w' o out := by
  obtain ⟨a, c, e, hc⟩ := h
  refine ⟨a, c, e, fun h0 => ?_⟩
  obtain ⟨bk, e1, hlt, h1⟩ := hc h0
  exact ⟨bk, e1, Nat.lt_of_lt_of_le hlt hb.size, fun k hk => (h1 k hk).below hlt hb⟩
abbrev bytesV (l : List UInt8) : Array Value := (l.map fun c => Value.int .u8 (c.toNat : Int)).toArray
/-- Bytes written out, in a block that was made last. -/
theorem Bts.lit {L : List (Option Nat)} {w : World} (hin : In w L) (l : List UInt8) (V : Array Value) (hV : V = bytesV l) (ty : TypeId) (fr : Nat × Nat) : Bts L (w.alloc (.cells V ty fr)) (some ⟨w.heap.size, 0, none⟩) l := by
  subst hV
  refine ⟨⟨by simp, fun h0 => ⟨w.heap.size, 0, rfl, by simp, fun k hk => ?_⟩⟩, fun ad e => ?_⟩
  · rw [Nat.zero_add, cell_of_row _ _ k _ ty fr (heap_alloc_new _ _)]
    simp [bytesV, hk]
  · obtain rfl : ad = ⟨w.heap.size, 0, none⟩ := by simpa using e.symm
    exact ⟨fun hm => by have : w.heap.size < w.heap.size := hin _ hm; omega, by simp⟩
theorem Bts.alloc {L : List (Option Nat)} {w : World} {a : Option Addr} {l : List UInt8} (h : Bts L w a l) (o : Obj) : Bts L (w.alloc o) a l := h.step (Step.of_below ((Below.refl _ _).alloc (Nat.le_refl _) _))
theorem Parts.two {L : List (Option Nat)} {w : World} {a a' : Option Addr} {c c' : Nat} {l l' : List UInt8} (h : Bts L w a l) (h' : Bts L w a' l') (hin : In w L) (ty : TypeId) : Parts L (w.alloc (.cells #[.slice a l.length c, .slice a' l'.length c'] ty)) (some ⟨w.heap.size, 0, none⟩) [l, l'] := by
  have hb : Below w.heap.size w (w.alloc (.cells #[.slice a l.length c, .slice a' l'.length c'] ty)) := (Below.refl _ _).alloc (Nat.le_refl _) _
  refine ⟨fun _ => ⟨w.heap.size, 0, rfl, by simp, fun hm => by have := hin _ hm; omega, fun k hk => ?_⟩⟩
  have hk : k < 2 := hk
  have hr := fun j => cell_of_row (w.alloc (.cells #[.slice a l.length c, .slice a' l'.length c'] ty)) w.heap.size j _ ty (0, 0) (heap_alloc_new w _)
  rcases (by omega : k = 0 ∨ k = 1) with rfl | rfl
  · exact ⟨a, c, (hr 0).trans rfl, h.step (Step.of_below hb)⟩
  · exact ⟨a', c', (hr 1).trans rfl, h'.step (Step.of_below hb)⟩
theorem in_alloc {L : List (Option Nat)} {w : World} (h : In w L) (o : Obj) : In (w.alloc o) L := h.mono (by simp)
theorem in_nil (w : World) : In w [] := fun k hk => by cases hk
/-- A reading of bytes that are known. -/
theorem read_said {p : Nat} (hp : p < 4294967296) (b : Bd) (w : World) (a : Option Addr) (c : Nat) (l : List UInt8) (hl : Bts [] w a l) (hn : l.length ≤ 400000000) (e : Nat) (cl : Bool) (out : List Rec.R) (he : (Q.read p b l).err = e) (hc : (Q.read p b l).clean = cl) (ho : (Q.read p b l).out = out) : Calls Tryz.prog 32 #[.int .u32 (p : Int), bdV b, .slice a l.length c] w fun r w' =>
    ∃ o, r = .returned (.tuple #[o, .int .i64 (e : Int), .bool cl]) ∧ Said w' o out ∧ Below w.heap.size w w' := by
  refine (read_any (b := b) hp w a c l hl hn).mono ?_
  rintro r w' ⟨o, L, B0, rfl, hT, hb⟩
  rw [he, hc]
  rw [ho] at hT
  exact ⟨o, rfl, hT.said, hb⟩
end Go.Proofs.YtbineebnhjifiaaGreatDoor.Pg
/- PgKnown -/
namespace Go.Proofs.YtbineebnhjifiaaGreatDoor.Pg
open Go.RowKit Base Txt Mem Par

theorem k1_all : (Q.read 0 usual [80, 79, 83, 84, 32, 47, 97, 32, 72, 84, 84, 80, 47, 49, 46, 49, 13, 10, 72, 111, 115, 116, 58, 32, 104, 13, 10, 84, 114, 97, 110, 115, 102, 101, 114, 45, 69, 110, 99, 111, 100, 105, 110, 103, 58, 32, 99, 104, 117, 110, 107, 101, 100, 13, 10, 13, 10, 51, 13, 10, 97, 98, 99, 13, 10, 48, 13, 10, 84, 58, 32, 117, 13, 10, 13, 10, 71]).err = 0 ∧ (Q.read 0 usual [80, 79, 83, 84, 32, 47, 97, 32, 72, 84, 84, 80, 47, 49, 46, 49, 13, 10, 72, 111, 115, 116, 58, 32, 104, 13, 10, 84, 114, 97, 110, 115, 102, 101, 114, 45, 69, 110, 99, 111, 100, 105, 110, 103, 58, 32, 99, 104, 117, 110, 107, 101, 100, 13, 10, 13, 10, 51, 13, 10, 97, 98, 99, 13, 10, 48, 13, 10, 84, 58, 32, 117, 13, 10, 13, 10, 71]).clean = false ∧ (Q.read 0 usual [80, 79, 83, 84, 32, 47, 97, 32, 72, 84, 84, 80, 47, 49, 46, 49, 13, 10, 72, 111, 115, 116, 58, 32, 104, 13, 10, 84, 114, 97, 110, 115, 102, 101, 114, 45, 69, 110, 99, 111, 100, 105, 110, 103, 58, 32, 99, 104, 117, 110, 107, 101, 100, 13, 10, 13, 10, 51, 13, 10, 97, 98, 99, 13, 10, 48, 13, 10, 84, 58, 32, 117, 13, 10, 13, 10, 71]).out.map (fun r => (r.body, r.ts.length, r.ch)) = [([97, 98, 99], 1, true)] ∧ (Q.read 0 usual [80, 79, 83, 84, 32, 47, 97, 32, 72, 84, 84, 80, 47, 49, 46, 49, 13, 10, 72, 111, 115, 116, 58, 32, 104, 13, 10, 84, 114, 97, 110, 115, 102, 101, 114, 45, 69, 110, 99, 111, 100, 105, 110, 103, 58, 32, 99, 104, 117, 110, 107, 101, 100, 13, 10, 13, 10, 51, 13, 10, 97, 98, 99, 13, 10, 48, 13, 10, 84, 58, 32, 117, 13, 10, 13, 10, 71]).out.length = 1 := by decide +kernel
theorem k1_out : ∃ r : Rec.R, (Q.read 0 usual [80, 79, 83, 84, 32, 47, 97, 32, 72, 84, 84, 80, 47, 49, 46, 49, 13, 10, 72, 111, 115, 116, 58, 32, 104, 13, 10, 84, 114, 97, 110, 115, 102, 101, 114, 45, 69, 110, 99, 111, 100, 105, 110, 103, 58, 32, 99, 104, 117, 110, 107, 101, 100, 13, 10, 13, 10, 51, 13, 10, 97, 98, 99, 13, 10, 48, 13, 10, 84, 58, 32, 117, 13, 10, 13, 10, 71]).out = [r] ∧ r.body = [97, 98, 99] ∧ r.ts.length = 1 ∧ r.ch = true := by
  have h := k1_all.2.2.1
  obtain ⟨r, hr⟩ := List.length_eq_one_iff.1 k1_all.2.2.2
  rw [hr] at h
  have h2 : (r.body, r.ts.length, r.ch) = ([97, 98, 99], 1, true) := by injection h
  exact ⟨r, hr, congrArg Prod.fst h2, congrArg (fun x => x.2.1) h2, congrArg (fun x => x.2.2) h2⟩
theorem k2_all : (Q.read 0 usual [71, 69, 84, 32, 47, 32, 72, 84, 84, 80, 47, 49, 46, 49, 10]).err = 400 ∧ (Q.read 0 usual [71, 69, 84, 32, 47, 32, 72, 84, 84, 80, 47, 49, 46, 49, 10]).clean = false ∧ (Q.read 0 usual [71, 69, 84, 32, 47, 32, 72, 84, 84, 80, 47, 49, 46, 49, 10]).out.length = 0 := by decide +kernel
theorem k3_all : (Q.read 0 usual ([80, 79, 83, 84, 32, 47, 32, 72, 84, 84, 80, 47, 49, 46, 49, 13, 10, 72, 111, 115, 116, 58, 32, 104, 13, 10, 69, 120, 112, 101, 99, 116, 58, 32, 49, 48, 48, 45, 99, 111, 110, 116, 105, 110, 117, 101, 13, 10] ++ [67, 111, 110, 116, 101, 110, 116, 45, 76, 101, 110, 103, 116, 104, 58, 32, 50, 13, 10, 13, 10])).waits = true ∧ (Q.read 0 usual ([80, 79, 83, 84, 32, 47, 32, 72, 84, 84, 80, 47, 49, 46, 49, 13, 10, 72, 111, 115, 116, 58, 32, 104, 13, 10, 69, 120, 112, 101, 99, 116, 58, 32, 49, 48, 48, 45, 99, 111, 110, 116, 105, 110, 117, 101, 13, 10] ++ [67, 111, 110, 116, 101, 110, 116, 45, 76, 101, 110, 103, 116, 104, 58, 32, 50, 13, 10, 13, 10])).held = 43 ∧ (Q.read 0 usual ([80, 79, 83, 84, 32, 47, 32, 72, 84, 84, 80, 47, 49, 46, 49, 13, 10, 72, 111, 115, 116, 58, 32, 104, 13, 10, 69, 120, 112, 101, 99, 116, 58, 32, 49, 48, 48, 45, 99, 111, 110, 116, 105, 110, 117, 101, 13, 10] ++ [67, 111, 110, 116, 101, 110, 116, 45, 76, 101, 110, 103, 116, 104, 58, 32, 50, 13, 10, 13, 10])).out.length = 0 ∧ ((Q.read 0 usual ([80, 79, 83, 84, 32, 47, 32, 72, 84, 84, 80, 47, 49, 46, 49, 13, 10, 72, 111, 115, 116, 58, 32, 104, 13, 10, 69, 120, 112, 101, 99, 116, 58, 32, 49, 48, 48, 45, 99, 111, 110, 116, 105, 110, 117, 101, 13, 10] ++ [67, 111, 110, 116, 101, 110, 116, 45, 76, 101, 110, 103, 116, 104, 58, 32, 50, 13, 10, 13, 10])).told.feed 0 usual [97, 98]).out.length = 1 ∧
    ((Q.read 0 usual ([80, 79, 83, 84, 32, 47, 32, 72, 84, 84, 80, 47, 49, 46, 49, 13, 10, 72, 111, 115, 116, 58, 32, 104, 13, 10, 69, 120, 112, 101, 99, 116, 58, 32, 49, 48, 48, 45, 99, 111, 110, 116, 105, 110, 117, 101, 13, 10] ++ [67, 111, 110, 116, 101, 110, 116, 45, 76, 101, 110, 103, 116, 104, 58, 32, 50, 13, 10, 13, 10])).told.feed 0 usual [97, 98]).clean = true ∧ ((Q.read 0 usual ([80, 79, 83, 84, 32, 47, 32, 72, 84, 84, 80, 47, 49, 46, 49, 13, 10, 72, 111, 115, 116, 58, 32, 104, 13, 10, 69, 120, 112, 101, 99, 116, 58, 32, 49, 48, 48, 45, 99, 111, 110, 116, 105, 110, 117, 101, 13, 10] ++ [67, 111, 110, 116, 101, 110, 116, 45, 76, 101, 110, 103, 116, 104, 58, 32, 50, 13, 10, 13, 10])).told.feed 0 usual [97, 98]).err = 0 ∧ ((Q.read 0 usual ([80, 79, 83, 84, 32, 47, 32, 72, 84, 84, 80, 47, 49, 46, 49, 13, 10, 72, 111, 115, 116, 58, 32, 104, 13, 10, 69, 120, 112, 101, 99, 116, 58, 32, 49, 48, 48, 45, 99, 111, 110, 116, 105, 110, 117, 101, 13, 10] ++ [67, 111, 110, 116, 101, 110, 116, 45, 76, 101, 110, 103, 116, 104, 58, 32, 50, 13, 10, 13, 10])).told.feed 0 usual [97, 98]).held = 0 := by decide +kernel
section code
set_option maxHeartbeats 8000000
set_option maxRecDepth 100000
attribute [local go_sem] Base.some_undef
theorem feed_said {p : Nat} {b : Bd} {w : World} {B : Zone} {g : Nat} {L : List (Option Nat)} {x : Q} (hp : p < 4294967296) (h : At w B g p b L x) (ok : x.Ok b) (hw : x.out = []) (a : Option Addr) (ca : Nat) (ls : List (List UInt8)) (hl : Parts L w a ls) (hn : ls.length ≤ 1000000) (hle : ls.flatten.length ≤ 400000000) :
    Calls Tryz.prog 22 #[ptr g, .slice a ls.length ca] w fun r w' => ∃ o L', r = .returned o ∧ At w' B g p b L' (x.feed p b ls.flatten).told ∧ (x.feed p b ls.flatten).told.Ok b ∧ (x.feed p b ls.flatten).told.out = [] ∧ Said w' o (x.feed p b ls.flatten).out ∧ Step L L' w w' := by
  refine (feed_any hp x h ok a ca ls hl hn (by rw [hw]; simp only [List.length_nil]; omega)).mono ?_
  rintro r w' ⟨o, L', rfl, h1, h2, h3⟩
  exact ⟨o, L', rfl, h1, told_ok (Q.Ok.feed _ ok), told_out _, h2.said, h3⟩
theorem known_any (w : World) : Calls Tryz.prog 15 #[] w fun e w' => e = .returned (.bool true) ∧ Below w.heap.size w w' := by
  obtain ⟨r1, ho1, hbd1, hts1, hch1⟩ := k1_out
  have ho2 : (Q.read 0 usual [71, 69, 84, 32, 47, 32, 72, 84, 84, 80, 47, 49, 46, 49, 10]).out = [] := List.eq_nil_of_length_eq_zero k2_all.2.2
  have hc1 : ∀ w : World, (convert 22 22 (.slice (some ⟨w.heap.size, 0, none⟩) 77 77)).run Tryz.prog (w.alloc (.cells #[.int .u8 80, .int .u8 79, .int .u8 83, .int .u8 84, .int .u8 32, .int .u8 47, .int .u8 97, .int .u8 32, .int .u8 72, .int .u8 84, .int .u8 84, .int .u8 80, .int .u8 47, .int .u8 49, .int .u8 46, .int .u8 49, .int .u8 13, .int .u8 10, .int .u8 72, .int .u8 111, .int .u8 115, .int .u8 116, .int .u8 58, .int .u8 32, .int .u8 104, .int .u8 13, .int .u8 10, .int .u8 84, .int .u8 114, .int .u8 97, .int .u8 110, .int .u8 115, .int .u8 102, .int .u8 101, .int .u8 114, .int .u8 45, .int .u8 69, .int .u8 110, .int .u8 99, .int .u8 111, .int .u8 100, .int .u8 105, .int .u8 110, .int .u8 103, .int .u8 58, .int .u8 32, .int .u8 99, .int .u8 104, .int .u8 117, .int .u8 110, .int .u8 107, .int .u8 101, .int .u8 100, .int .u8 13, .int .u8 10, .int .u8 13, .int .u8 10, .int .u8 51, .int .u8 13, .int .u8 10, .int .u8 97, .int .u8 98, .int .u8 99, .int .u8 13, .int .u8 10, .int .u8 48, .int .u8 13, .int .u8 10, .int .u8 84, .int .u8 58, .int .u8 32, .int .u8 117, .int .u8 13, .int .u8 10, .int .u8 13, .int .u8 10, .int .u8 71] 5)) = .ok (.slice (some ⟨w.heap.size, 0, none⟩) 77 77) (w.alloc (.cells #[.int .u8 80, .int .u8 79, .int .u8 83, .int .u8 84, .int .u8 32, .int .u8 47, .int .u8 97, .int .u8 32, .int .u8 72, .int .u8 84, .int .u8 84, .int .u8 80, .int .u8 47, .int .u8 49, .int .u8 46, .int .u8 49, .int .u8 13, .int .u8 10, .int .u8 72, .int .u8 111, .int .u8 115, .int .u8 116, .int .u8 58, .int .u8 32, .int .u8 104, .int .u8 13, .int .u8 10, .int .u8 84, .int .u8 114, .int .u8 97, .int .u8 110, .int .u8 115, .int .u8 102, .int .u8 101, .int .u8 114, .int .u8 45, .int .u8 69, .int .u8 110, .int .u8 99, .int .u8 111, .int .u8 100, .int .u8 105, .int .u8 110, .int .u8 103, .int .u8 58, .int .u8 32, .int .u8 99, .int .u8 104, .int .u8 117, .int .u8 110, .int .u8 107, .int .u8 101, .int .u8 100, .int .u8 13, .int .u8 10, .int .u8 13, .int .u8 10, .int .u8 51, .int .u8 13, .int .u8 10, .int .u8 97, .int .u8 98, .int .u8 99, .int .u8 13, .int .u8 10, .int .u8 48, .int .u8 13, .int .u8 10, .int .u8 84, .int .u8 58, .int .u8 32, .int .u8 117, .int .u8 13, .int .u8 10, .int .u8 13, .int .u8 10, .int .u8 71] 5 (77, 78))) := fun w =>
    Lib.run_convert_bytes_const w 22 5 #[.int .u8 80, .int .u8 79, .int .u8 83, .int .u8 84, .int .u8 32, .int .u8 47, .int .u8 97, .int .u8 32, .int .u8 72, .int .u8 84, .int .u8 84, .int .u8 80, .int .u8 47, .int .u8 49, .int .u8 46, .int .u8 49, .int .u8 13, .int .u8 10, .int .u8 72, .int .u8 111, .int .u8 115, .int .u8 116, .int .u8 58, .int .u8 32, .int .u8 104, .int .u8 13, .int .u8 10, .int .u8 84, .int .u8 114, .int .u8 97, .int .u8 110, .int .u8 115, .int .u8 102, .int .u8 101, .int .u8 114, .int .u8 45, .int .u8 69, .int .u8 110, .int .u8 99, .int .u8 111, .int .u8 100, .int .u8 105, .int .u8 110, .int .u8 103, .int .u8 58, .int .u8 32, .int .u8 99, .int .u8 104, .int .u8 117, .int .u8 110, .int .u8 107, .int .u8 101, .int .u8 100, .int .u8 13, .int .u8 10, .int .u8 13, .int .u8 10, .int .u8 51, .int .u8 13, .int .u8 10, .int .u8 97, .int .u8 98, .int .u8 99, .int .u8 13, .int .u8 10, .int .u8 48, .int .u8 13, .int .u8 10, .int .u8 84, .int .u8 58, .int .u8 32, .int .u8 117, .int .u8 13, .int .u8 10, .int .u8 13, .int .u8 10, .int .u8 71] 77 77 Tryz.underlying22 Tryz.underlying5
  have hc2 : ∀ w : World, (convert 22 22 (.slice (some ⟨w.heap.size, 0, none⟩) 15 15)).run Tryz.prog (w.alloc (.cells #[.int .u8 71, .int .u8 69, .int .u8 84, .int .u8 32, .int .u8 47, .int .u8 32, .int .u8 72, .int .u8 84, .int .u8 84, .int .u8 80, .int .u8 47, .int .u8 49, .int .u8 46, .int .u8 49, .int .u8 10] 5)) = .ok (.slice (some ⟨w.heap.size, 0, none⟩) 15 15) (w.alloc (.cells #[.int .u8 71, .int .u8 69, .int .u8 84, .int .u8 32, .int .u8 47, .int .u8 32, .int .u8 72, .int .u8 84, .int .u8 84, .int .u8 80, .int .u8 47, .int .u8 49, .int .u8 46, .int .u8 49, .int .u8 10] 5 (15, 16))) := fun w =>
    Lib.run_convert_bytes_const w 22 5 #[.int .u8 71, .int .u8 69, .int .u8 84, .int .u8 32, .int .u8 47, .int .u8 32, .int .u8 72, .int .u8 84, .int .u8 84, .int .u8 80, .int .u8 47, .int .u8 49, .int .u8 46, .int .u8 49, .int .u8 10] 15 15 Tryz.underlying22 Tryz.underlying5
  have hc3 : ∀ w : World, (convert 22 22 (.slice (some ⟨w.heap.size, 0, none⟩) 48 48)).run Tryz.prog (w.alloc (.cells #[.int .u8 80, .int .u8 79, .int .u8 83, .int .u8 84, .int .u8 32, .int .u8 47, .int .u8 32, .int .u8 72, .int .u8 84, .int .u8 84, .int .u8 80, .int .u8 47, .int .u8 49, .int .u8 46, .int .u8 49, .int .u8 13, .int .u8 10, .int .u8 72, .int .u8 111, .int .u8 115, .int .u8 116, .int .u8 58, .int .u8 32, .int .u8 104, .int .u8 13, .int .u8 10, .int .u8 69, .int .u8 120, .int .u8 112, .int .u8 101, .int .u8 99, .int .u8 116, .int .u8 58, .int .u8 32, .int .u8 49, .int .u8 48, .int .u8 48, .int .u8 45, .int .u8 99, .int .u8 111, .int .u8 110, .int .u8 116, .int .u8 105, .int .u8 110, .int .u8 117, .int .u8 101, .int .u8 13, .int .u8 10] 5)) = .ok (.slice (some ⟨w.heap.size, 0, none⟩) 48 48) (w.alloc (.cells #[.int .u8 80, .int .u8 79, .int .u8 83, .int .u8 84, .int .u8 32, .int .u8 47, .int .u8 32, .int .u8 72, .int .u8 84, .int .u8 84, .int .u8 80, .int .u8 47, .int .u8 49, .int .u8 46, .int .u8 49, .int .u8 13, .int .u8 10, .int .u8 72, .int .u8 111, .int .u8 115, .int .u8 116, .int .u8 58, .int .u8 32, .int .u8 104, .int .u8 13, .int .u8 10, .int .u8 69, .int .u8 120, .int .u8 112, .int .u8 101, .int .u8 99, .int .u8 116, .int .u8 58, .int .u8 32, .int .u8 49, .int .u8 48, .int .u8 48, .int .u8 45, .int .u8 99, .int .u8 111, .int .u8 110, .int .u8 116, .int .u8 105, .int .u8 110, .int .u8 117, .int .u8 101, .int .u8 13, .int .u8 10] 5 (48, 49))) := fun w =>
    Lib.run_convert_bytes_const w 22 5 #[.int .u8 80, .int .u8 79, .int .u8 83, .int .u8 84, .int .u8 32, .int .u8 47, .int .u8 32, .int .u8 72, .int .u8 84, .int .u8 84, .int .u8 80, .int .u8 47, .int .u8 49, .int .u8 46, .int .u8 49, .int .u8 13, .int .u8 10, .int .u8 72, .int .u8 111, .int .u8 115, .int .u8 116, .int .u8 58, .int .u8 32, .int .u8 104, .int .u8 13, .int .u8 10, .int .u8 69, .int .u8 120, .int .u8 112, .int .u8 101, .int .u8 99, .int .u8 116, .int .u8 58, .int .u8 32, .int .u8 49, .int .u8 48, .int .u8 48, .int .u8 45, .int .u8 99, .int .u8 111, .int .u8 110, .int .u8 116, .int .u8 105, .int .u8 110, .int .u8 117, .int .u8 101, .int .u8 13, .int .u8 10] 48 48 Tryz.underlying22 Tryz.underlying5
  have hc4 : ∀ w : World, (convert 22 22 (.slice (some ⟨w.heap.size, 0, none⟩) 21 21)).run Tryz.prog (w.alloc (.cells #[.int .u8 67, .int .u8 111, .int .u8 110, .int .u8 116, .int .u8 101, .int .u8 110, .int .u8 116, .int .u8 45, .int .u8 76, .int .u8 101, .int .u8 110, .int .u8 103, .int .u8 116, .int .u8 104, .int .u8 58, .int .u8 32, .int .u8 50, .int .u8 13, .int .u8 10, .int .u8 13, .int .u8 10] 5)) = .ok (.slice (some ⟨w.heap.size, 0, none⟩) 21 21) (w.alloc (.cells #[.int .u8 67, .int .u8 111, .int .u8 110, .int .u8 116, .int .u8 101, .int .u8 110, .int .u8 116, .int .u8 45, .int .u8 76, .int .u8 101, .int .u8 110, .int .u8 103, .int .u8 116, .int .u8 104, .int .u8 58, .int .u8 32, .int .u8 50, .int .u8 13, .int .u8 10, .int .u8 13, .int .u8 10] 5 (21, 22))) := fun w =>
    Lib.run_convert_bytes_const w 22 5 #[.int .u8 67, .int .u8 111, .int .u8 110, .int .u8 116, .int .u8 101, .int .u8 110, .int .u8 116, .int .u8 45, .int .u8 76, .int .u8 101, .int .u8 110, .int .u8 103, .int .u8 116, .int .u8 104, .int .u8 58, .int .u8 32, .int .u8 50, .int .u8 13, .int .u8 10, .int .u8 13, .int .u8 10] 21 21 Tryz.underlying22 Tryz.underlying5
  have hc5 : ∀ w : World, (convert 22 22 (.slice (some ⟨w.heap.size, 0, none⟩) 2 2)).run Tryz.prog (w.alloc (.cells #[.int .u8 97, .int .u8 98] 5)) = .ok (.slice (some ⟨w.heap.size, 0, none⟩) 2 2) (w.alloc (.cells #[.int .u8 97, .int .u8 98] 5 (2, 3))) := fun w =>
    Lib.run_convert_bytes_const w 22 5 #[.int .u8 97, .int .u8 98] 2 2 Tryz.underlying22 Tryz.underlying5
  have HK1 : Hid (∀ w : World, Calls Tryz.prog 32 #[.int .u32 0, .agg #[.int .i64 1024, .int .i64 32, .int .i64 8192, .int .i64 65536, .int .i64 32, .int .i64 8, .int .i64 4, .int .i64 20, .bool true, .bool true], .slice (some ⟨w.heap.size, 0, none⟩) 77 77] (w.alloc (.cells #[.int .u8 80, .int .u8 79, .int .u8 83, .int .u8 84, .int .u8 32, .int .u8 47, .int .u8 97, .int .u8 32, .int .u8 72, .int .u8 84, .int .u8 84, .int .u8 80, .int .u8 47, .int .u8 49, .int .u8 46, .int .u8 49, .int .u8 13, .int .u8 10, .int .u8 72, .int .u8 111, .int .u8 115, .int .u8 116, .int .u8 58, .int .u8 32, .int .u8 104, .int .u8 13, .int .u8 10, .int .u8 84, .int .u8 114, .int .u8 97, .int .u8 110, .int .u8 115, .int .u8 102, .int .u8 101, .int .u8 114, .int .u8 45, .int .u8 69, .int .u8 110, .int .u8 99, .int .u8 111, .int .u8 100, .int .u8 105, .int .u8 110, .int .u8 103, .int .u8 58, .int .u8 32, .int .u8 99, .int .u8 104, .int .u8 117, .int .u8 110, .int .u8 107, .int .u8 101, .int .u8 100, .int .u8 13, .int .u8 10, .int .u8 13, .int .u8 10, .int .u8 51, .int .u8 13, .int .u8 10, .int .u8 97, .int .u8 98, .int .u8 99, .int .u8 13, .int .u8 10, .int .u8 48, .int .u8 13, .int .u8 10, .int .u8 84, .int .u8 58, .int .u8 32, .int .u8 117, .int .u8 13, .int .u8 10, .int .u8 13, .int .u8 10, .int .u8 71] 5 (77, 78))) fun r w' =>
      ∃ o, r = .returned (.tuple #[o, .int .i64 0, .bool false]) ∧ Said w' o [r1] ∧ Below (w.heap.size + 1) (w.alloc (.cells #[.int .u8 80, .int .u8 79, .int .u8 83, .int .u8 84, .int .u8 32, .int .u8 47, .int .u8 97, .int .u8 32, .int .u8 72, .int .u8 84, .int .u8 84, .int .u8 80, .int .u8 47, .int .u8 49, .int .u8 46, .int .u8 49, .int .u8 13, .int .u8 10, .int .u8 72, .int .u8 111, .int .u8 115, .int .u8 116, .int .u8 58, .int .u8 32, .int .u8 104, .int .u8 13, .int .u8 10, .int .u8 84, .int .u8 114, .int .u8 97, .int .u8 110, .int .u8 115, .int .u8 102, .int .u8 101, .int .u8 114, .int .u8 45, .int .u8 69, .int .u8 110, .int .u8 99, .int .u8 111, .int .u8 100, .int .u8 105, .int .u8 110, .int .u8 103, .int .u8 58, .int .u8 32, .int .u8 99, .int .u8 104, .int .u8 117, .int .u8 110, .int .u8 107, .int .u8 101, .int .u8 100, .int .u8 13, .int .u8 10, .int .u8 13, .int .u8 10, .int .u8 51, .int .u8 13, .int .u8 10, .int .u8 97, .int .u8 98, .int .u8 99, .int .u8 13, .int .u8 10, .int .u8 48, .int .u8 13, .int .u8 10, .int .u8 84, .int .u8 58, .int .u8 32, .int .u8 117, .int .u8 13, .int .u8 10, .int .u8 13, .int .u8 10, .int .u8 71] 5 (77, 78))) w') := Lib.hid fun w => by
    have h := read_said (p := 0) (by decide) usual (w.alloc (.cells #[.int .u8 80, .int .u8 79, .int .u8 83, .int .u8 84, .int .u8 32, .int .u8 47, .int .u8 97, .int .u8 32, .int .u8 72, .int .u8 84, .int .u8 84, .int .u8 80, .int .u8 47, .int .u8 49, .int .u8 46, .int .u8 49, .int .u8 13, .int .u8 10, .int .u8 72, .int .u8 111, .int .u8 115, .int .u8 116, .int .u8 58, .int .u8 32, .int .u8 104, .int .u8 13, .int .u8 10, .int .u8 84, .int .u8 114, .int .u8 97, .int .u8 110, .int .u8 115, .int .u8 102, .int .u8 101, .int .u8 114, .int .u8 45, .int .u8 69, .int .u8 110, .int .u8 99, .int .u8 111, .int .u8 100, .int .u8 105, .int .u8 110, .int .u8 103, .int .u8 58, .int .u8 32, .int .u8 99, .int .u8 104, .int .u8 117, .int .u8 110, .int .u8 107, .int .u8 101, .int .u8 100, .int .u8 13, .int .u8 10, .int .u8 13, .int .u8 10, .int .u8 51, .int .u8 13, .int .u8 10, .int .u8 97, .int .u8 98, .int .u8 99, .int .u8 13, .int .u8 10, .int .u8 48, .int .u8 13, .int .u8 10, .int .u8 84, .int .u8 58, .int .u8 32, .int .u8 117, .int .u8 13, .int .u8 10, .int .u8 13, .int .u8 10, .int .u8 71] 5 (77, 78))) (some ⟨w.heap.size, 0, none⟩) 77 [80, 79, 83, 84, 32, 47, 97, 32, 72, 84, 84, 80, 47, 49, 46, 49, 13, 10, 72, 111, 115, 116, 58, 32, 104, 13, 10, 84, 114, 97, 110, 115, 102, 101, 114, 45, 69, 110, 99, 111, 100, 105, 110, 103, 58, 32, 99, 104, 117, 110, 107, 101, 100, 13, 10, 13, 10, 51, 13, 10, 97, 98, 99, 13, 10, 48, 13, 10, 84, 58, 32, 117, 13, 10, 13, 10, 71] (Bts.lit (in_nil w) [80, 79, 83, 84, 32, 47, 97, 32, 72, 84, 84, 80, 47, 49, 46, 49, 13, 10, 72, 111, 115, 116, 58, 32, 104, 13, 10, 84, 114, 97, 110, 115, 102, 101, 114, 45, 69, 110, 99, 111, 100, 105, 110, 103, 58, 32, 99, 104, 117, 110, 107, 101, 100, 13, 10, 13, 10, 51, 13, 10, 97, 98, 99, 13, 10, 48, 13, 10, 84, 58, 32, 117, 13, 10, 13, 10, 71] #[.int .u8 80, .int .u8 79, .int .u8 83, .int .u8 84, .int .u8 32, .int .u8 47, .int .u8 97, .int .u8 32, .int .u8 72, .int .u8 84, .int .u8 84, .int .u8 80, .int .u8 47, .int .u8 49, .int .u8 46, .int .u8 49, .int .u8 13, .int .u8 10, .int .u8 72, .int .u8 111, .int .u8 115, .int .u8 116, .int .u8 58, .int .u8 32, .int .u8 104, .int .u8 13, .int .u8 10, .int .u8 84, .int .u8 114, .int .u8 97, .int .u8 110, .int .u8 115, .int .u8 102, .int .u8 101, .int .u8 114, .int .u8 45, .int .u8 69, .int .u8 110, .int .u8 99, .int .u8 111, .int .u8 100, .int .u8 105, .int .u8 110, .int .u8 103, .int .u8 58, .int .u8 32, .int .u8 99, .int .u8 104, .int .u8 117, .int .u8 110, .int .u8 107, .int .u8 101, .int .u8 100, .int .u8 13, .int .u8 10, .int .u8 13, .int .u8 10, .int .u8 51, .int .u8 13, .int .u8 10, .int .u8 97, .int .u8 98, .int .u8 99, .int .u8 13, .int .u8 10, .int .u8 48, .int .u8 13, .int .u8 10, .int .u8 84, .int .u8 58, .int .u8 32, .int .u8 117, .int .u8 13, .int .u8 10, .int .u8 13, .int .u8 10, .int .u8 71] (by kernel_rfl) 5 (77, 78)) (by decide) 0 false [r1] k1_all.1 k1_all.2.1 ho1
    have hs : (w.alloc (.cells #[.int .u8 80, .int .u8 79, .int .u8 83, .int .u8 84, .int .u8 32, .int .u8 47, .int .u8 97, .int .u8 32, .int .u8 72, .int .u8 84, .int .u8 84, .int .u8 80, .int .u8 47, .int .u8 49, .int .u8 46, .int .u8 49, .int .u8 13, .int .u8 10, .int .u8 72, .int .u8 111, .int .u8 115, .int .u8 116, .int .u8 58, .int .u8 32, .int .u8 104, .int .u8 13, .int .u8 10, .int .u8 84, .int .u8 114, .int .u8 97, .int .u8 110, .int .u8 115, .int .u8 102, .int .u8 101, .int .u8 114, .int .u8 45, .int .u8 69, .int .u8 110, .int .u8 99, .int .u8 111, .int .u8 100, .int .u8 105, .int .u8 110, .int .u8 103, .int .u8 58, .int .u8 32, .int .u8 99, .int .u8 104, .int .u8 117, .int .u8 110, .int .u8 107, .int .u8 101, .int .u8 100, .int .u8 13, .int .u8 10, .int .u8 13, .int .u8 10, .int .u8 51, .int .u8 13, .int .u8 10, .int .u8 97, .int .u8 98, .int .u8 99, .int .u8 13, .int .u8 10, .int .u8 48, .int .u8 13, .int .u8 10, .int .u8 84, .int .u8 58, .int .u8 32, .int .u8 117, .int .u8 13, .int .u8 10, .int .u8 13, .int .u8 10, .int .u8 71] 5 (77, 78))).heap.size = w.heap.size + 1 := by simp
    rw [hs] at h
    exact h
  have HK2 : Hid (∀ w : World, Calls Tryz.prog 32 #[.int .u32 0, .agg #[.int .i64 1024, .int .i64 32, .int .i64 8192, .int .i64 65536, .int .i64 32, .int .i64 8, .int .i64 4, .int .i64 20, .bool true, .bool true], .slice (some ⟨w.heap.size, 0, none⟩) 15 15] (w.alloc (.cells #[.int .u8 71, .int .u8 69, .int .u8 84, .int .u8 32, .int .u8 47, .int .u8 32, .int .u8 72, .int .u8 84, .int .u8 84, .int .u8 80, .int .u8 47, .int .u8 49, .int .u8 46, .int .u8 49, .int .u8 10] 5 (15, 16))) fun r w' =>
      ∃ o, r = .returned (.tuple #[o, .int .i64 400, .bool false]) ∧ Said w' o [] ∧ Below (w.heap.size + 1) (w.alloc (.cells #[.int .u8 71, .int .u8 69, .int .u8 84, .int .u8 32, .int .u8 47, .int .u8 32, .int .u8 72, .int .u8 84, .int .u8 84, .int .u8 80, .int .u8 47, .int .u8 49, .int .u8 46, .int .u8 49, .int .u8 10] 5 (15, 16))) w') := Lib.hid fun w => by
    have h := read_said (p := 0) (by decide) usual (w.alloc (.cells #[.int .u8 71, .int .u8 69, .int .u8 84, .int .u8 32, .int .u8 47, .int .u8 32, .int .u8 72, .int .u8 84, .int .u8 84, .int .u8 80, .int .u8 47, .int .u8 49, .int .u8 46, .int .u8 49, .int .u8 10] 5 (15, 16))) (some ⟨w.heap.size, 0, none⟩) 15 [71, 69, 84, 32, 47, 32, 72, 84, 84, 80, 47, 49, 46, 49, 10] (Bts.lit (in_nil w) [71, 69, 84, 32, 47, 32, 72, 84, 84, 80, 47, 49, 46, 49, 10] #[.int .u8 71, .int .u8 69, .int .u8 84, .int .u8 32, .int .u8 47, .int .u8 32, .int .u8 72, .int .u8 84, .int .u8 84, .int .u8 80, .int .u8 47, .int .u8 49, .int .u8 46, .int .u8 49, .int .u8 10] (by kernel_rfl) 5 (15, 16)) (by decide) 400 false [] k2_all.1 k2_all.2.1 ho2
    have hs : (w.alloc (.cells #[.int .u8 71, .int .u8 69, .int .u8 84, .int .u8 32, .int .u8 47, .int .u8 32, .int .u8 72, .int .u8 84, .int .u8 84, .int .u8 80, .int .u8 47, .int .u8 49, .int .u8 46, .int .u8 49, .int .u8 10] 5 (15, 16))).heap.size = w.heap.size + 1 := by simp
    rw [hs] at h
    exact h
  have HBD := Lib.hid hbd1; have HTS := Lib.hid hts1; have HCH := Lib.hid hch1
  clear ho1 ho2 hbd1 hts1 hch1
  go_enter Tryz.func15, Tryz.ntmps15
  go_upto_region 2 with (go_at_call 34; with_reducible refine (Bnd.rusual_any _).mono ?_; rintro r w1 ⟨rfl, hb⟩; have HB1 := Lib.hid hb; clear hb)
  have HZ1 := Lib.hid (Rec.Bk.new w1 w1.heap.size rfl 29 [.int .i64 1024, .int .i64 32, .int .i64 8192, .int .i64 65536, .int .i64 32, .int .i64 8, .int .i64 4, .int .i64 20, .bool true, .bool true])
  have HBW1 := Lib.hid (HB1.out.alloc HB1.out.size (.cells #[.int .i64 1024, .int .i64 32, .int .i64 8192, .int .i64 65536, .int .i64 32, .int .i64 8, .int .i64 4, .int .i64 20, .bool true, .bool true] 29))
  generalize w1.alloc (.cells #[.int .i64 1024, .int .i64 32, .int .i64 8192, .int .i64 65536, .int .i64 32, .int .i64 8, .int .i64 4, .int .i64 20, .bool true, .bool true] 29) = W1 at *
  generalize w1.heap.size = gB at *
  have y0 := HZ1.out.c 0 _ rfl; have y1 := HZ1.out.c 1 _ rfl; have y2 := HZ1.out.c 2 _ rfl; have y3 := HZ1.out.c 3 _ rfl; have y4 := HZ1.out.c 4 _ rfl; have y5 := HZ1.out.c 5 _ rfl; have y6 := HZ1.out.c 6 _ rfl; have y7 := HZ1.out.c 7 _ rfl; have y8 := HZ1.out.c 8 _ rfl; have y9 := HZ1.out.c 9 _ rfl
  go_upto_region 3 with
    (go_at_call 32; with_reducible refine (HK1.out _).mono ?_; rintro r w2 ⟨o1, rfl, hT, hb⟩
     have hb2 : Below W1.heap.size W1 w2 := ((Below.refl _ _).alloc (Nat.le_refl _) _).trans (hb.mono (Nat.le_succ _))
     have HT2 := Lib.hid hT; have HZ2 := Lib.hid (HZ1.out.below hb2); have HB2 := Lib.hid (Base.below_step HBW1.out hb2)
     clear hb hb2 hT y0 y1 y2 y3 y4 y5 y6 y7 y8 y9)
  have y0 := HZ2.out.c 0 _ rfl; have y1 := HZ2.out.c 1 _ rfl; have y2 := HZ2.out.c 2 _ rfl; have y3 := HZ2.out.c 3 _ rfl; have y4 := HZ2.out.c 4 _ rfl; have y5 := HZ2.out.c 5 _ rfl; have y6 := HZ2.out.c 6 _ rfl; have y7 := HZ2.out.c 7 _ rfl; have y8 := HZ2.out.c 8 _ rfl; have y9 := HZ2.out.c 9 _ rfl
  clear HZ1 HBW1 HK1 hc1
  go_upto_region 4 with
    (go_at_call 32; with_reducible refine (HK2.out _).mono ?_; rintro r w3 ⟨o2, rfl, hT, hb⟩
     have hb2 : Below w2.heap.size w2 w3 := ((Below.refl _ _).alloc (Nat.le_refl _) _).trans (hb.mono (Nat.le_succ _))
     have HT3 := Lib.hid (HT2.out.below hb2); have HZ3 := Lib.hid (HZ2.out.below hb2); have HB3 := Lib.hid (Base.below_step HB2.out hb2)
     clear hb hb2 hT y0 y1 y2 y3 y4 y5 y6 y7 y8 y9)
  have y0 := HZ3.out.c 0 _ rfl; have y1 := HZ3.out.c 1 _ rfl; have y2 := HZ3.out.c 2 _ rfl; have y3 := HZ3.out.c 3 _ rfl; have y4 := HZ3.out.c 4 _ rfl; have y5 := HZ3.out.c 5 _ rfl; have y6 := HZ3.out.c 6 _ rfl; have y7 := HZ3.out.c 7 _ rfl; have y8 := HZ3.out.c 8 _ rfl; have y9 := HZ3.out.c 9 _ rfl
  clear HZ2 HB2 HT2 HK2 hc2
  have HNW : Hid (Calls Tryz.prog 20 #[.int .u32 0, .agg #[.int .i64 1024, .int .i64 32, .int .i64 8192, .int .i64 65536, .int .i64 32, .int .i64 8, .int .i64 4, .int .i64 20, .bool true, .bool true]] w3 fun r w' => ∃ g L', r = .returned (ptr g) ∧ w3.heap.size ≤ g ∧ At w' ⟨w3.heap.size, []⟩ g 0 usual L' (Q.new 0 usual) ∧ Below w3.heap.size w3 w') := Lib.hid (new_any (p := 0) (b := usual) (by decide) w3)
  go_upto_region 5 with
    (go_at_call 20; with_reducible refine HNW.out.mono ?_; rintro r w4 ⟨g, L4, rfl, hg, hA, hb⟩
     have HA4 := Lib.hid hA; have HL4 := Lib.hid hb
     clear hA hb hg y0 y1 y2 y3 y4 y5 y6 y7 y8 y9)
  clear HZ3 HNW
  go_upto_region 7 with fail
  have hc4w := hc4 (w4.alloc (.cells #[.int .u8 80, .int .u8 79, .int .u8 83, .int .u8 84, .int .u8 32, .int .u8 47, .int .u8 32, .int .u8 72, .int .u8 84, .int .u8 84, .int .u8 80, .int .u8 47, .int .u8 49, .int .u8 46, .int .u8 49, .int .u8 13, .int .u8 10, .int .u8 72, .int .u8 111, .int .u8 115, .int .u8 116, .int .u8 58, .int .u8 32, .int .u8 104, .int .u8 13, .int .u8 10, .int .u8 69, .int .u8 120, .int .u8 112, .int .u8 101, .int .u8 99, .int .u8 116, .int .u8 58, .int .u8 32, .int .u8 49, .int .u8 48, .int .u8 48, .int .u8 45, .int .u8 99, .int .u8 111, .int .u8 110, .int .u8 116, .int .u8 105, .int .u8 110, .int .u8 117, .int .u8 101, .int .u8 13, .int .u8 10] 5 (48, 49)))
  rw [show (w4.alloc (.cells #[.int .u8 80, .int .u8 79, .int .u8 83, .int .u8 84, .int .u8 32, .int .u8 47, .int .u8 32, .int .u8 72, .int .u8 84, .int .u8 84, .int .u8 80, .int .u8 47, .int .u8 49, .int .u8 46, .int .u8 49, .int .u8 13, .int .u8 10, .int .u8 72, .int .u8 111, .int .u8 115, .int .u8 116, .int .u8 58, .int .u8 32, .int .u8 104, .int .u8 13, .int .u8 10, .int .u8 69, .int .u8 120, .int .u8 112, .int .u8 101, .int .u8 99, .int .u8 116, .int .u8 58, .int .u8 32, .int .u8 49, .int .u8 48, .int .u8 48, .int .u8 45, .int .u8 99, .int .u8 111, .int .u8 110, .int .u8 116, .int .u8 105, .int .u8 110, .int .u8 117, .int .u8 101, .int .u8 13, .int .u8 10] 5 (48, 49))).heap.size = w4.heap.size + 1 by simp] at hc4w
  clear hc4
  have hP : Parts L4 (((w4.alloc (.cells #[.int .u8 80, .int .u8 79, .int .u8 83, .int .u8 84, .int .u8 32, .int .u8 47, .int .u8 32, .int .u8 72, .int .u8 84, .int .u8 84, .int .u8 80, .int .u8 47, .int .u8 49, .int .u8 46, .int .u8 49, .int .u8 13, .int .u8 10, .int .u8 72, .int .u8 111, .int .u8 115, .int .u8 116, .int .u8 58, .int .u8 32, .int .u8 104, .int .u8 13, .int .u8 10, .int .u8 69, .int .u8 120, .int .u8 112, .int .u8 101, .int .u8 99, .int .u8 116, .int .u8 58, .int .u8 32, .int .u8 49, .int .u8 48, .int .u8 48, .int .u8 45, .int .u8 99, .int .u8 111, .int .u8 110, .int .u8 116, .int .u8 105, .int .u8 110, .int .u8 117, .int .u8 101, .int .u8 13, .int .u8 10] 5 (48, 49))).alloc (.cells #[.int .u8 67, .int .u8 111, .int .u8 110, .int .u8 116, .int .u8 101, .int .u8 110, .int .u8 116, .int .u8 45, .int .u8 76, .int .u8 101, .int .u8 110, .int .u8 103, .int .u8 116, .int .u8 104, .int .u8 58, .int .u8 32, .int .u8 50, .int .u8 13, .int .u8 10, .int .u8 13, .int .u8 10] 5 (21, 22))).alloc (.cells #[.slice (some ⟨w4.heap.size, 0, none⟩) 48 48, .slice (some ⟨w4.heap.size + 1, 0, none⟩) 21 21] 22)) (some ⟨w4.heap.size + 2, 0, none⟩) [[80, 79, 83, 84, 32, 47, 32, 72, 84, 84, 80, 47, 49, 46, 49, 13, 10, 72, 111, 115, 116, 58, 32, 104, 13, 10, 69, 120, 112, 101, 99, 116, 58, 32, 49, 48, 48, 45, 99, 111, 110, 116, 105, 110, 117, 101, 13, 10], [67, 111, 110, 116, 101, 110, 116, 45, 76, 101, 110, 103, 116, 104, 58, 32, 50, 13, 10, 13, 10]] := by
    have hin := HA4.out.in
    have h1 := Bts.lit hin [80, 79, 83, 84, 32, 47, 32, 72, 84, 84, 80, 47, 49, 46, 49, 13, 10, 72, 111, 115, 116, 58, 32, 104, 13, 10, 69, 120, 112, 101, 99, 116, 58, 32, 49, 48, 48, 45, 99, 111, 110, 116, 105, 110, 117, 101, 13, 10] #[.int .u8 80, .int .u8 79, .int .u8 83, .int .u8 84, .int .u8 32, .int .u8 47, .int .u8 32, .int .u8 72, .int .u8 84, .int .u8 84, .int .u8 80, .int .u8 47, .int .u8 49, .int .u8 46, .int .u8 49, .int .u8 13, .int .u8 10, .int .u8 72, .int .u8 111, .int .u8 115, .int .u8 116, .int .u8 58, .int .u8 32, .int .u8 104, .int .u8 13, .int .u8 10, .int .u8 69, .int .u8 120, .int .u8 112, .int .u8 101, .int .u8 99, .int .u8 116, .int .u8 58, .int .u8 32, .int .u8 49, .int .u8 48, .int .u8 48, .int .u8 45, .int .u8 99, .int .u8 111, .int .u8 110, .int .u8 116, .int .u8 105, .int .u8 110, .int .u8 117, .int .u8 101, .int .u8 13, .int .u8 10] (by kernel_rfl) 5 (48, 49)
    have hin1 := in_alloc hin (.cells #[.int .u8 80, .int .u8 79, .int .u8 83, .int .u8 84, .int .u8 32, .int .u8 47, .int .u8 32, .int .u8 72, .int .u8 84, .int .u8 84, .int .u8 80, .int .u8 47, .int .u8 49, .int .u8 46, .int .u8 49, .int .u8 13, .int .u8 10, .int .u8 72, .int .u8 111, .int .u8 115, .int .u8 116, .int .u8 58, .int .u8 32, .int .u8 104, .int .u8 13, .int .u8 10, .int .u8 69, .int .u8 120, .int .u8 112, .int .u8 101, .int .u8 99, .int .u8 116, .int .u8 58, .int .u8 32, .int .u8 49, .int .u8 48, .int .u8 48, .int .u8 45, .int .u8 99, .int .u8 111, .int .u8 110, .int .u8 116, .int .u8 105, .int .u8 110, .int .u8 117, .int .u8 101, .int .u8 13, .int .u8 10] 5 (48, 49))
    have h2 := Bts.lit hin1 [67, 111, 110, 116, 101, 110, 116, 45, 76, 101, 110, 103, 116, 104, 58, 32, 50, 13, 10, 13, 10] #[.int .u8 67, .int .u8 111, .int .u8 110, .int .u8 116, .int .u8 101, .int .u8 110, .int .u8 116, .int .u8 45, .int .u8 76, .int .u8 101, .int .u8 110, .int .u8 103, .int .u8 116, .int .u8 104, .int .u8 58, .int .u8 32, .int .u8 50, .int .u8 13, .int .u8 10, .int .u8 13, .int .u8 10] (by kernel_rfl) 5 (21, 22)
    have e1 : (w4.alloc (.cells #[.int .u8 80, .int .u8 79, .int .u8 83, .int .u8 84, .int .u8 32, .int .u8 47, .int .u8 32, .int .u8 72, .int .u8 84, .int .u8 84, .int .u8 80, .int .u8 47, .int .u8 49, .int .u8 46, .int .u8 49, .int .u8 13, .int .u8 10, .int .u8 72, .int .u8 111, .int .u8 115, .int .u8 116, .int .u8 58, .int .u8 32, .int .u8 104, .int .u8 13, .int .u8 10, .int .u8 69, .int .u8 120, .int .u8 112, .int .u8 101, .int .u8 99, .int .u8 116, .int .u8 58, .int .u8 32, .int .u8 49, .int .u8 48, .int .u8 48, .int .u8 45, .int .u8 99, .int .u8 111, .int .u8 110, .int .u8 116, .int .u8 105, .int .u8 110, .int .u8 117, .int .u8 101, .int .u8 13, .int .u8 10] 5 (48, 49))).heap.size = w4.heap.size + 1 := by simp
    have e2 : ((w4.alloc (.cells #[.int .u8 80, .int .u8 79, .int .u8 83, .int .u8 84, .int .u8 32, .int .u8 47, .int .u8 32, .int .u8 72, .int .u8 84, .int .u8 84, .int .u8 80, .int .u8 47, .int .u8 49, .int .u8 46, .int .u8 49, .int .u8 13, .int .u8 10, .int .u8 72, .int .u8 111, .int .u8 115, .int .u8 116, .int .u8 58, .int .u8 32, .int .u8 104, .int .u8 13, .int .u8 10, .int .u8 69, .int .u8 120, .int .u8 112, .int .u8 101, .int .u8 99, .int .u8 116, .int .u8 58, .int .u8 32, .int .u8 49, .int .u8 48, .int .u8 48, .int .u8 45, .int .u8 99, .int .u8 111, .int .u8 110, .int .u8 116, .int .u8 105, .int .u8 110, .int .u8 117, .int .u8 101, .int .u8 13, .int .u8 10] 5 (48, 49))).alloc (.cells #[.int .u8 67, .int .u8 111, .int .u8 110, .int .u8 116, .int .u8 101, .int .u8 110, .int .u8 116, .int .u8 45, .int .u8 76, .int .u8 101, .int .u8 110, .int .u8 103, .int .u8 116, .int .u8 104, .int .u8 58, .int .u8 32, .int .u8 50, .int .u8 13, .int .u8 10, .int .u8 13, .int .u8 10] 5 (21, 22))).heap.size = w4.heap.size + 2 := by simp
    rw [e1] at h2
    have h3 := Parts.two (c := 48) (c' := 21) (h1.alloc (.cells #[.int .u8 67, .int .u8 111, .int .u8 110, .int .u8 116, .int .u8 101, .int .u8 110, .int .u8 116, .int .u8 45, .int .u8 76, .int .u8 101, .int .u8 110, .int .u8 103, .int .u8 116, .int .u8 104, .int .u8 58, .int .u8 32, .int .u8 50, .int .u8 13, .int .u8 10, .int .u8 13, .int .u8 10] 5 (21, 22))) h2 (in_alloc hin1 _) 22
    rw [e2] at h3
    exact h3
  obtain ⟨W7, hW7⟩ : ∃ W7, ((w4.alloc (.cells #[.int .u8 80, .int .u8 79, .int .u8 83, .int .u8 84, .int .u8 32, .int .u8 47, .int .u8 32, .int .u8 72, .int .u8 84, .int .u8 84, .int .u8 80, .int .u8 47, .int .u8 49, .int .u8 46, .int .u8 49, .int .u8 13, .int .u8 10, .int .u8 72, .int .u8 111, .int .u8 115, .int .u8 116, .int .u8 58, .int .u8 32, .int .u8 104, .int .u8 13, .int .u8 10, .int .u8 69, .int .u8 120, .int .u8 112, .int .u8 101, .int .u8 99, .int .u8 116, .int .u8 58, .int .u8 32, .int .u8 49, .int .u8 48, .int .u8 48, .int .u8 45, .int .u8 99, .int .u8 111, .int .u8 110, .int .u8 116, .int .u8 105, .int .u8 110, .int .u8 117, .int .u8 101, .int .u8 13, .int .u8 10] 5 (48, 49))).alloc (.cells #[.int .u8 67, .int .u8 111, .int .u8 110, .int .u8 116, .int .u8 101, .int .u8 110, .int .u8 116, .int .u8 45, .int .u8 76, .int .u8 101, .int .u8 110, .int .u8 103, .int .u8 116, .int .u8 104, .int .u8 58, .int .u8 32, .int .u8 50, .int .u8 13, .int .u8 10, .int .u8 13, .int .u8 10] 5 (21, 22))).alloc (.cells #[.slice (some ⟨w4.heap.size, 0, none⟩) 48 48, .slice (some ⟨w4.heap.size + 1, 0, none⟩) 21 21] 22) = W7 := ⟨_, rfl⟩
  have hb7 : Below w4.heap.size w4 W7 := by
    rw [← hW7]
    exact ((((Below.refl w4.heap.size w4).alloc (Nat.le_refl _) (.cells #[.int .u8 80, .int .u8 79, .int .u8 83, .int .u8 84, .int .u8 32, .int .u8 47, .int .u8 32, .int .u8 72, .int .u8 84, .int .u8 84, .int .u8 80, .int .u8 47, .int .u8 49, .int .u8 46, .int .u8 49, .int .u8 13, .int .u8 10, .int .u8 72, .int .u8 111, .int .u8 115, .int .u8 116, .int .u8 58, .int .u8 32, .int .u8 104, .int .u8 13, .int .u8 10, .int .u8 69, .int .u8 120, .int .u8 112, .int .u8 101, .int .u8 99, .int .u8 116, .int .u8 58, .int .u8 32, .int .u8 49, .int .u8 48, .int .u8 48, .int .u8 45, .int .u8 99, .int .u8 111, .int .u8 110, .int .u8 116, .int .u8 105, .int .u8 110, .int .u8 117, .int .u8 101, .int .u8 13, .int .u8 10] 5 (48, 49))).alloc (by simp) (.cells #[.int .u8 67, .int .u8 111, .int .u8 110, .int .u8 116, .int .u8 101, .int .u8 110, .int .u8 116, .int .u8 45, .int .u8 76, .int .u8 101, .int .u8 110, .int .u8 103, .int .u8 116, .int .u8 104, .int .u8 58, .int .u8 32, .int .u8 50, .int .u8 13, .int .u8 10, .int .u8 13, .int .u8 10] 5 (21, 22))).alloc (by simp; omega) (.cells #[.slice (some ⟨w4.heap.size, 0, none⟩) 48 48, .slice (some ⟨w4.heap.size + 1, 0, none⟩) 21 21] 22))
  rw [hW7] at hP
  have hf := feed_said (by decide) (HA4.out.below hb7) (Q.new_ok 0 usual) (by unfold Q.new; split <;> rfl) (some ⟨w4.heap.size + 2, 0, none⟩) 2 [[80, 79, 83, 84, 32, 47, 32, 72, 84, 84, 80, 47, 49, 46, 49, 13, 10, 72, 111, 115, 116, 58, 32, 104, 13, 10, 69, 120, 112, 101, 99, 116, 58, 32, 49, 48, 48, 45, 99, 111, 110, 116, 105, 110, 117, 101, 13, 10], [67, 111, 110, 116, 101, 110, 116, 45, 76, 101, 110, 103, 116, 104, 58, 32, 50, 13, 10, 13, 10]] hP (by decide) (by decide)
  rw [show ([[80, 79, 83, 84, 32, 47, 32, 72, 84, 84, 80, 47, 49, 46, 49, 13, 10, 72, 111, 115, 116, 58, 32, 104, 13, 10, 69, 120, 112, 101, 99, 116, 58, 32, 49, 48, 48, 45, 99, 111, 110, 116, 105, 110, 117, 101, 13, 10], [67, 111, 110, 116, 101, 110, 116, 45, 76, 101, 110, 103, 116, 104, 58, 32, 50, 13, 10, 13, 10]] : List (List UInt8)).flatten = [80, 79, 83, 84, 32, 47, 32, 72, 84, 84, 80, 47, 49, 46, 49, 13, 10, 72, 111, 115, 116, 58, 32, 104, 13, 10, 69, 120, 112, 101, 99, 116, 58, 32, 49, 48, 48, 45, 99, 111, 110, 116, 105, 110, 117, 101, 13, 10] ++ [67, 111, 110, 116, 101, 110, 116, 45, 76, 101, 110, 103, 116, 104, 58, 32, 50, 13, 10, 13, 10] from rfl] at hf
  have k3 := k3_all
  rw [show Q.feed 0 usual (Q.new 0 usual) ([80, 79, 83, 84, 32, 47, 32, 72, 84, 84, 80, 47, 49, 46, 49, 13, 10, 72, 111, 115, 116, 58, 32, 104, 13, 10, 69, 120, 112, 101, 99, 116, 58, 32, 49, 48, 48, 45, 99, 111, 110, 116, 105, 110, 117, 101, 13, 10] ++ [67, 111, 110, 116, 101, 110, 116, 45, 76, 101, 110, 103, 116, 104, 58, 32, 50, 13, 10, 13, 10]) = Q.read 0 usual ([80, 79, 83, 84, 32, 47, 32, 72, 84, 84, 80, 47, 49, 46, 49, 13, 10, 72, 111, 115, 116, 58, 32, 104, 13, 10, 69, 120, 112, 101, 99, 116, 58, 32, 49, 48, 48, 45, 99, 111, 110, 116, 105, 110, 117, 101, 13, 10] ++ [67, 111, 110, 116, 101, 110, 116, 45, 76, 101, 110, 103, 116, 104, 58, 32, 50, 13, 10, 13, 10]) from rfl] at hf
  obtain ⟨X, hX⟩ : ∃ X, Q.read 0 usual ([80, 79, 83, 84, 32, 47, 32, 72, 84, 84, 80, 47, 49, 46, 49, 13, 10, 72, 111, 115, 116, 58, 32, 104, 13, 10, 69, 120, 112, 101, 99, 116, 58, 32, 49, 48, 48, 45, 99, 111, 110, 116, 105, 110, 117, 101, 13, 10] ++ [67, 111, 110, 116, 101, 110, 116, 45, 76, 101, 110, 103, 116, 104, 58, 32, 50, 13, 10, 13, 10]) = X := ⟨_, rfl⟩
  rw [hX] at k3 hf
  have HF7 := Lib.hid (show Calls Tryz.prog 22 #[ptr g, .slice (some ⟨w4.heap.size + 2, 0, none⟩) 2 2] (((w4.alloc (.cells #[.int .u8 80, .int .u8 79, .int .u8 83, .int .u8 84, .int .u8 32, .int .u8 47, .int .u8 32, .int .u8 72, .int .u8 84, .int .u8 84, .int .u8 80, .int .u8 47, .int .u8 49, .int .u8 46, .int .u8 49, .int .u8 13, .int .u8 10, .int .u8 72, .int .u8 111, .int .u8 115, .int .u8 116, .int .u8 58, .int .u8 32, .int .u8 104, .int .u8 13, .int .u8 10, .int .u8 69, .int .u8 120, .int .u8 112, .int .u8 101, .int .u8 99, .int .u8 116, .int .u8 58, .int .u8 32, .int .u8 49, .int .u8 48, .int .u8 48, .int .u8 45, .int .u8 99, .int .u8 111, .int .u8 110, .int .u8 116, .int .u8 105, .int .u8 110, .int .u8 117, .int .u8 101, .int .u8 13, .int .u8 10] 5 (48, 49))).alloc (.cells #[.int .u8 67, .int .u8 111, .int .u8 110, .int .u8 116, .int .u8 101, .int .u8 110, .int .u8 116, .int .u8 45, .int .u8 76, .int .u8 101, .int .u8 110, .int .u8 103, .int .u8 116, .int .u8 104, .int .u8 58, .int .u8 32, .int .u8 50, .int .u8 13, .int .u8 10, .int .u8 13, .int .u8 10] 5 (21, 22))).alloc (.cells #[.slice (some ⟨w4.heap.size, 0, none⟩) 48 48, .slice (some ⟨w4.heap.size + 1, 0, none⟩) 21 21] 22)) fun r w' => ∃ o L', r = .returned o ∧ At w' ⟨w3.heap.size, []⟩ g 0 usual L' X.told ∧ X.told.Ok usual ∧ X.told.out = [] ∧ Said w' o X.out ∧ Step L4 L' W7 w' from by rw [hW7]; exact hf)
  have HK3 := Lib.hid k3; have HB7 := Lib.hid hb7
  clear hP hf hX k3 hb7 hW7
  go_upto_region 8 with
    (go_at_call 22; with_reducible refine HF7.out.mono ?_; rintro r w5 ⟨o5, L5, rfl, hA5, hok5, ho5, hT5, hS5⟩
     have HA5 := Lib.hid hA5; have HO5 := Lib.hid hok5; have HE5 := Lib.hid ho5
     have HL5 := Lib.hid ((HL4.out.trans (HB7.out.mono HL4.out.size)).trans (hS5.keeps.below (Nat.le_trans HL4.out.size HB7.out.size) HA4.out.low))
     clear hA5 hok5 ho5 hT5 hS5)
  have hwt := waits_any HA5.out HO5.out
  rw [told_waits, HK3.out.1] at hwt
  have HWT := Lib.hid hwt
  clear hwt HF7 HB7 HL4 HA4 hc3 hc4w
  have hhd := fun (w6 : World) (hb : Below w5.heap.size w5 w6) => held_any (HA5.out.below hb) HO5.out
  rw [told_held, HK3.out.2.1] at hhd
  have HHD := Lib.hid (show ∀ (w6 : World), Below w5.heap.size w5 w6 → Calls Tryz.prog 28 #[ptr g] w6 fun r w' => r = .returned (.int .i64 43) ∧ Below w6.heap.size w6 w' from hhd)
  clear hhd
  go_upto_region 9 with (first
    | (go_at_call 28; with_reducible refine (HHD.out _ HB6.out).mono ?_; rintro r w7 ⟨rfl, hb⟩
       have HB8 := Lib.hid (Base.below_step HB6.out hb)
       clear hb)
    | (go_at_call 26; with_reducible refine HWT.out.mono ?_; rintro r w6 ⟨rfl, hb⟩
       have HB6 := Lib.hid hb
       clear hb))
  clear HHD HWT HB6
  have HA7 := Lib.hid (HA5.out.below HB8.out)
  have HL7 := Lib.hid (HL5.out.trans (HB8.out.mono HL5.out.size))
  clear HA5 HL5 HB8
  have hbA : Below w7.heap.size w7 (w7.alloc (.cells #[.int .u8 97, .int .u8 98] 5 (2, 3))) := (Below.refl _ _).alloc (Nat.le_refl _) _
  have hP5 := Parts.one (c := 2) (Bts.lit HA7.out.in [97, 98] #[.int .u8 97, .int .u8 98] (by kernel_rfl) 5 (2, 3)) (in_alloc HA7.out.in _) 22
  have hs5 : (w7.alloc (.cells #[.int .u8 97, .int .u8 98] 5 (2, 3))).heap.size = w7.heap.size + 1 := by simp
  rw [hs5] at hP5
  have hb9 : Below w7.heap.size w7 ((w7.alloc (.cells #[.int .u8 97, .int .u8 98] 5 (2, 3))).alloc (.cells #[.slice (some ⟨w7.heap.size, 0, none⟩) 2 2] 22)) := hbA.alloc (by simp) _
  have hf5 := feed_said (by decide) (HA7.out.below hb9) HO5.out HE5.out (some ⟨w7.heap.size + 1, 0, none⟩) 1 [[97, 98]] hP5 (by decide) (by decide)
  rw [show ([[97, 98]] : List (List UInt8)).flatten = [97, 98] from rfl] at hf5
  have k3 := HK3.out
  obtain ⟨Y, hY⟩ : ∃ Y, X.told.feed 0 usual [97, 98] = Y := ⟨_, rfl⟩
  rw [hY] at k3 hf5
  have HF9 := Lib.hid (show Calls Tryz.prog 22 #[ptr g, .slice (some ⟨w7.heap.size + 1, 0, none⟩) 1 1] ((w7.alloc (.cells #[.int .u8 97, .int .u8 98] 5 (2, 3))).alloc (.cells #[.slice (some ⟨w7.heap.size, 0, none⟩) 2 2] 22)) fun r w' => ∃ o L', r = .returned o ∧ At w' ⟨w3.heap.size, []⟩ g 0 usual L' Y.told ∧ Y.told.Ok usual ∧ Y.told.out = [] ∧ Said w' o Y.out ∧ Step L5 L' ((w7.alloc (.cells #[.int .u8 97, .int .u8 98] 5 (2, 3))).alloc (.cells #[.slice (some ⟨w7.heap.size, 0, none⟩) 2 2] 22)) w' from hf5)
  have HY := Lib.hid k3; have HB9 := Lib.hid hb9
  clear hbA hP5 hs5 hb9 hf5 k3 hY HK3
  obtain ⟨a1, c1, e1, hc1⟩ := HT3.out
  obtain ⟨bk, rfl, hbk, hr1⟩ := hc1 Nat.zero_lt_one
  have hr2 := hr1 0 Nat.zero_lt_one
  have e1 : o1 = .slice (some ⟨bk, 0, none⟩) 1 c1 := e1
  subst e1
  have HR1 := Lib.hid (show RecAt w3 bk 0 r1 from hr2)
  have HBK := Lib.hid hbk
  clear hc1 hr1 hr2 hbk HT3
  go_wp2_with (first
    | (go_at_call 28; with_reducible refine HHE.out.mono ?_; rintro r w9 ⟨rfl, hb⟩; have HB10 := Lib.hid hb; clear hb)
    | (go_at_call 25; with_reducible refine HER.out.mono ?_; rintro r w9 ⟨rfl, hw⟩; rw [hw]; clear hw)
    | (go_at_call 30; with_reducible refine HCL.out.mono ?_; rintro r w9 ⟨rfl, hw⟩; rw [hw]; clear hw)
    | (go_at_call 22; with_reducible refine HF9.out.mono ?_; rintro r w8 ⟨o8, L8, rfl, hA8, hok8, ho8, hT8, hS8⟩
       have hl8 := (HL7.out.trans (HB9.out.mono HL7.out.size)).trans (hS8.keeps.below (Nat.le_trans HL7.out.size HB9.out.size) HA7.out.low)
       have HL8 := Lib.hid hl8
       obtain ⟨fa, fc, ba, bc, ta, tc, f1, f2, f3, d0, d1, d2, d3, d4, d5, d6⟩ := HR1.out.below HBK.out hl8
       have hcl := cleanq_any hA8; have her := errq_any hA8; have hhe := held_any hA8 hok8
       rw [told_clean, HY.out.2.2.2.2.1] at hcl
       rw [told_err, HY.out.2.2.2.2.2.1] at her
       rw [told_held, HY.out.2.2.2.2.2.2] at hhe
       have HCL := Lib.hid hcl
       have HER := Lib.hid (show Calls Tryz.prog 25 #[ptr g] w8 fun r w' => r = .returned (.int .i64 0) ∧ w' = w8 from her)
       have HHE := Lib.hid (show Calls Tryz.prog 28 #[ptr g] w8 fun r w' => r = .returned (.int .i64 0) ∧ Below w8.heap.size w8 w' from hhe)
       obtain ⟨a8, c8, e8, -⟩ := hT8
       rw [HY.out.2.2.2.1] at e8
       subst e8
       rw [HBD.out] at f2 d5
       rw [HTS.out] at d6
       rw [HCH.out] at d4
       have hcs : (convert 22 9 (.slice ba 3 bc)).run Tryz.prog w8 = .ok (.string ⟨#[97, 98, 99]⟩) w8 := Txt.conv_str w8 ba 3 bc _ f2
       clear hcl her hhe hA8 hok8 ho8 hS8 f1 f2 f3 d0 d1 d2 d3 hl8))
  go_ret
  exact ⟨rfl, ((HB3.out.trans (HL8.out.mono HB3.out.size)).trans (HB10.out.mono (Nat.le_trans HB3.out.size HL8.out.size)))⟩
end code
end Go.Proofs.YtbineebnhjifiaaGreatDoor.Pg
/- PgExtW -/
namespace Go.Proofs.YtbineebnhjifiaaGreatDoor.Pg
open Go.RowKit Base Txt Par

theorem none0 (k : Int) : Qk.has 0 k = false := by unfold Qk.has; rw [Nat.zero_testBit, Bool.and_false]
theorem dw_none {q : UInt8 → Bool} : ∀ {l : List UInt8}, (∀ x ∈ l, q x = false) → l.dropWhile q = l
  | [], _ => rfl
  | x :: r, h => dropWhile_stop (h x (by simp))
theorem trimL_none {q : UInt8 → Bool} {l : List UInt8} (h : ∀ x ∈ l, q x = false) : trimL q l = l := by
  unfold trimL
  rw [dw_none h, dw_none (fun x hx => h x (by simpa using hx)), List.reverse_reverse]

theorem letters_tab : ∀ k : Fin 256, lowB (UInt8.ofNat k.val) ∈ [99, 104, 117, 110, 107, 101, 100] → Frm.blanksOf.data.toList.contains (UInt8.ofNat k.val) = false := by decide +kernel
theorem letter_of {x : UInt8} (h : lowB x ∈ [99, 104, 117, 110, 107, 101, 100]) : isIn Frm.blanksOf x = false := by
  have := letters_tab ⟨x.toNat, x.toNat_lt⟩ (by simpa using h)
  simpa [isIn] using this
theorem isC_wide {v : ByteArray} (h : Frm.isC false v = true) (tb : Bool) : Frm.isC tb v = true := by
  cases tb with
  | false => exact h
  | true =>
    have h1 : same v Frm.chunked = true := h
    have h2 : low v.data.toList = [99, 104, 117, 110, 107, 101, 100] := (beq_iff_eq.1 h1).trans (by decide +kernel)
    have e : trimOf v Frm.blanksOf = v := by
      apply ba_ext
      show trimL (isIn Frm.blanksOf) v.data.toList = _
      refine trimL_none fun x hx => letter_of ?_
      rw [← h2]
      exact List.mem_map.2 ⟨x, hx, rfl⟩
    show same (trimOf v Frm.blanksOf) Frm.chunked = true
    rw [e]; exact h1
theorem coding_wide {vs : List ByteArray} (h : Frm.coding false false vs = true) (tb tl : Bool) : Frm.coding tb tl vs = true := by
  unfold Frm.coding at h ⊢
  rw [Bool.or_false, Bool.and_eq_true, decide_eq_true_eq] at h
  obtain ⟨h1, h2⟩ := h
  obtain ⟨v, hv⟩ := List.length_eq_one_iff.1 h2
  rw [hv] at h1 ⊢
  have h3 : Frm.isC false v = true := h1
  rw [decide_eq_true (by simp), Bool.true_or, Bool.and_true]
  exact isC_wide h3 tb
theorem digit_tab : ∀ k : Fin 256, Num.digitOf 10 (UInt8.ofNat k.val) = true → UInt8.ofNat k.val ≠ 44 ∧ UInt8.ofNat k.val ≠ 43 ∧ Txt.blank (UInt8.ofNat k.val) = false := by decide +kernel
theorem digit_of {x : UInt8} (h : Num.digitOf 10 x = true) : x ≠ 44 ∧ x ≠ 43 ∧ Txt.blank x = false := by
  simpa using digit_tab ⟨x.toNat, x.toNat_lt⟩ (by simpa using h)
theorem hex_tab : ∀ k : Fin 256, Num.digitOf 16 (UInt8.ofNat k.val) = true → lowB (UInt8.ofNat k.val) ≠ 120 ∧ Txt.blank (UInt8.ofNat k.val) = false := by decide +kernel
theorem hex_of {x : UInt8} (h : Num.digitOf 16 x = true) : lowB x ≠ 120 ∧ Txt.blank x = false := by
  simpa using hex_tab ⟨x.toNat, x.toNat_lt⟩ (by simpa using h)
theorem read_digits {base most : Int} {l : List UInt8} (h : (Num.readOf base most l).2 ≠ 22) : ∀ x ∈ l, Num.digitOf base x = true := by
  unfold Num.readOf at h
  split at h
  · exact absurd rfl h
  · rename_i h1
    rw [Bool.or_eq_true, not_or, Bool.not_eq_true, Bool.not_eq_true, Bool.not_eq_false', List.all_eq_true] at h1
    exact h1.2
theorem numV_digits {r : Int × Int} (h : (Frm.numV r).2 = 0) : r.2 ≠ 22 := by
  intro e
  unfold Frm.numV at h
  rw [if_pos e] at h
  exact absurd h (by decide)
theorem length_wide {most : Int} {vs : List ByteArray} (h : (Frm.lengthV false false false false most vs).2 = 0) (lp lc lf ll : Bool) :
    Frm.lengthV lp lc lf ll most vs = Frm.lengthV false false false false most vs := by
  unfold Frm.lengthV at h ⊢
  by_cases h0 : vs = []
  · rw [if_pos h0, if_pos h0]
  rw [if_neg h0] at h ⊢
  rw [if_neg h0]
  rw [if_neg Bool.false_ne_true] at h ⊢
  by_cases h1 : vs.length = 1
  · obtain ⟨v, rfl⟩ := List.length_eq_one_iff.1 h1
    have hc : Frm.counts false false false [v] = some v := rfl
    rw [hc] at h ⊢
    have hu : Frm.unplus false v = v := rfl
    simp only [hu] at h ⊢
    have hd := read_digits (numV_digits h)
    have hl : list [v] = [v] := by
      have e1 : list [v] = partsOf v := by simp [list]
      rw [e1]
      unfold partsOf
      rw [parts_none 44 _ fun hm => (digit_of (hd _ hm)).1 rfl]
      show [trim (ba v.data.toList)] = [v]
      congr 1
      apply ba_ext
      show trimL Txt.blank (ba v.data.toList).data.toList = _
      have e2 : (ba v.data.toList).data.toList = v.data.toList := by simp [ba]
      rw [e2]
      exact trimL_none fun x hx => (digit_of (hd x hx)).2.2
    have hc' : Frm.counts lc lf ll (if lc = true then list [v] else [v]) = some v := by
      have : (if lc = true then list [v] else [v]) = [v] := by cases lc <;> simp [hl]
      rw [this]
      unfold Frm.counts
      rw [if_pos (by simp)]
      rfl
    rw [hc']
    have hp : Frm.unplus lp v = v := by
      unfold Frm.unplus
      rw [if_neg]
      intro hh
      rw [Bool.and_eq_true, decide_eq_true_eq] at hh
      have hm : (43 : UInt8) ∈ v.data.toList := List.mem_of_mem_head? (by rw [hh.2]; rfl)
      exact (digit_of (hd _ hm)).2.1 rfl
    simp only [hp]
  · have hc : Frm.counts false false false vs = none := by
      unfold Frm.counts
      rw [if_neg (by simp [h1]), if_neg Bool.false_ne_true]
    rw [hc] at h
    exact absurd (show (400 : Int) = 0 from h) (by decide)
theorem wins_wide {minor : Int} {nte ncl : Nat} {cod : Bool} (h : (Frm.winsV false false false false minor nte ncl cod).2 = 0) (td ti tw lw cod' : Bool) (hc : cod = true → cod' = true) :
    Frm.winsV td ti tw lw minor nte ncl cod' = Frm.winsV false false false false minor nte ncl cod := by
  unfold Frm.winsV at h ⊢
  by_cases h0 : nte = 0
  · simp only [if_pos h0]
  simp only [if_neg h0] at h ⊢
  by_cases h1 : minor = 0
  · rw [if_pos (by simp [h1])] at h
    exact absurd (show (400 : Int) = 0 from h) (by decide)
  have hm : ∀ td : Bool, ¬ (decide (minor = 0) && !td) = true := fun td => by simp [h1]
  simp only [if_neg (hm _)] at h ⊢
  cases cod with
  | false => exact absurd (show (501 : Int) = 0 from h) (by decide)
  | true =>
    rw [hc rfl]
    by_cases h2 : 0 < ncl
    · simp [h2] at h
    · simp [h2]
theorem hosts_wide {minor : Int} {hs : List ByteArray} (h : Frm.hostsV false false minor hs = 0) (nh mh : Bool) : Frm.hostsV nh mh minor hs = 0 := by
  unfold Frm.hostsV at h ⊢
  split at h
  · exact absurd h (by decide)
  · rename_i h1
    rw [Bool.or_eq_true, not_or, Bool.not_false, Bool.and_true, Bool.and_true] at h1
    rw [if_neg]
    · exact h
    · rw [Bool.or_eq_true, not_or]
      constructor
      · intro hh; exact h1.1 (by cases nh <;> simp_all)
      · intro hh; exact h1.2 (by cases mh <;> simp_all)
/-- What framing decides without a clause and without an error, it decides with any. -/
theorem decide_wide {ch : Bool} {body minor : Int} {fs : List Fld} (h : (Frm.decideV (Frm.clOf 0) ch body minor fs).2.2 = 0) (p : Nat) :
    Frm.decideV (Frm.clOf p) ch body minor fs = Frm.decideV (Frm.clOf 0) ch body minor fs := by
  have e0 : Frm.clOf 0 = ⟨false, false, false, false, false, false, false, false, false, false, false, false⟩ := by simp only [Frm.clOf, none0]
  rw [e0] at h ⊢
  generalize Frm.clOf p = c
  obtain ⟨nh, mh, tb, tl, ti, td, tw, lw, lp, lc, lf, ll⟩ := c
  unfold Frm.decideV at h ⊢
  simp only at h ⊢
  unfold Frm.bodyV at h ⊢
  by_cases h1 : Frm.hostsV false false minor (find fs Frm.hostN) = 0
  · have h1' := hosts_wide h1 nh mh
    rw [h1] at h ⊢
    rw [h1']
    simp only [ne_eq, not_true_eq_false, if_false] at h ⊢
    by_cases h2 : (Frm.winsV false false false false minor (find fs Frm.teN).length (find fs Frm.clN).length (Frm.coding false false (find fs Frm.teN))).2 = 0
    · have h2' := wins_wide h2 td ti tw lw (Frm.coding tb tl (find fs Frm.teN)) (fun hc => coding_wide hc tb tl)
      rw [h2']
      simp only [h2, not_true_eq_false, if_false] at h ⊢
      by_cases h3 : (Frm.winsV false false false false minor (find fs Frm.teN).length (find fs Frm.clN).length (Frm.coding false false (find fs Frm.teN))).1 = true
      · simp only [if_pos h3]
      · simp only [if_neg h3] at h ⊢
        have h4 : (Frm.lengthV false false false false body (find fs Frm.clN)).2 = 0 := by
          unfold Frm.fixedV at h
          split at h
          · assumption
          · rename_i hn
            exact absurd h hn
        rw [length_wide h4 lp lc lf ll]
    · simp only [h2, not_false_eq_true, if_true] at h
  · rw [if_pos h1] at h
    exact absurd h h1

theorem piece_wide {z : List UInt8} (h : ∀ x ∈ z, Num.digitOf 16 x = true) (hex blanks : Bool) : Chk.pieceL hex blanks z = z := by
  have h1 : trimL Txt.blank z = z := trimL_none fun x hx => (hex_of (h x hx)).2
  have h2 : Chk.bare z = z := by
    unfold Chk.bare
    rw [if_neg]
    intro hm
    unfold Chk.marked at hm
    rw [Bool.and_eq_true, decide_eq_true_eq] at hm
    obtain ⟨hl, hs⟩ := hm
    match z, hl with
    | a :: b :: r, _ =>
      have hs2 : low [a, b] = [48, 120] := (beq_iff_eq.1 hs).trans (by decide +kernel)
      have hb : lowB b = 120 := by simpa [low] using (List.cons.inj (List.cons.inj hs2).2).1
      exact (hex_of (h b (by simp))).1 hb
  unfold Chk.pieceL
  cases hex <;> cases blanks <;> simp [h1, h2]
theorem chk_digits {r : Int × Int} (h : (Chk.numV r).2 = 0) : r.2 ≠ 22 := by
  intro e
  unfold Chk.numV at h
  rw [if_pos e] at h
  exact absurd h (by decide)
theorem size_wide {ext body : Int} {l : List UInt8} (h : (Chk.sizeV false false ext body l).2 = 0) (hex blanks : Bool) : Chk.sizeV hex blanks ext body l = Chk.sizeV false false ext body l := by
  unfold Chk.sizeV at h ⊢
  split at h
  · rename_i h1
    rw [if_pos h1, if_pos h1]
    have hd : ∀ x ∈ (Tgt.cutAt 59 l).1, Num.digitOf 16 x = true := read_digits (chk_digits h)
    unfold Chk.sizeL
    rw [piece_wide hd, piece_wide hd]
  · exact absurd h (by decide)

theorem field_wide {lines : Nat} {l l' : List Fld} {s : List UInt8} {most : Int} (h : fieldV 0 lines l s most = .inr l') (p : Nat) : fieldV p lines l s most = .inr l' := by
  unfold fieldV at h ⊢
  by_cases h1 : most < ((lines + 1 : Nat) : Int)
  · rw [if_pos h1] at h; cases h
  simp only [if_neg h1] at h ⊢
  have hg : Fd.goes 0 s = false := by unfold Fd.goes; rw [none0, Bool.false_and]
  rw [if_neg (by rw [hg, Bool.false_and]; exact Bool.false_ne_true)] at h
  rw [Fd.clOf_zero] at h
  rcases Fd.parse_zero s with h2 | ⟨n, v, h2⟩
  · rw [h2] at h; cases h
  · rw [h2] at h
    have hs := Fd.parse_strict h2
    have hg2 : Fd.goes p s = false := by
      have hb : (!s.isEmpty && Txt.blank (s.headD 0)) = false := by
        rcases Tgt.cut_cases 58 s with e | ⟨a, r, e, hn⟩
        · rw [Tgt.cutAt_none 58 s e] at hs
          exact absurd (show false = true from hs.1) (by decide)
        · rw [e, Tgt.cutAt_app 58 a r hn] at hs
          obtain ⟨-, e1, -, e2, e3, -⟩ := hs
          have e4 : a = n := e1
          rw [e]
          rw [← e4] at e2 e3
          match a, e2, e3 with
          | y :: t, _, e3 =>
            have := (Fd.token_of (Fd.all_of e3 y (by simp))).2.2.2
            simp [this]
      unfold Fd.goes
      rw [hb, Bool.and_false]
    rw [if_neg (by rw [hg2, Bool.false_and]; exact Bool.false_ne_true), (Fd.parse_all h2).1 (Fd.clOf p)]
    exact h

/-- A line's reader that takes more ends. -/
def wideM (p : Nat) (m : Ln.M) : Ln.M := { m with lf := Qk.has p 1, cr := Qk.has p 2 }
def T.wide (p : Nat) (t : T) : T := { t with rd := wideM p t.rd }
/-- It has no clause. -/
structure T.Strict (t : T) : Prop where
  lf : t.rd.lf = false
  cr : t.rd.cr = false
theorem decide_codes (ch : Bool) (body minor : Int) (fs : List Fld) (c : Frm.Cl) : 0 ≤ (Frm.decideV c ch body minor fs).2.2 := by
  unfold Frm.decideV Frm.bodyV
  split
  · unfold Frm.hostsV; split
    · decide
    · split <;> decide
  · split
    · unfold Frm.winsV
      repeat' split
      all_goals decide
    · split
      · split <;> decide
      · unfold Frm.fixedV
        split
        · exact Int.le_refl _
        · show 0 ≤ (Frm.lengthV c.lp c.lc c.lf c.ll body (find fs Frm.clN)).2
          unfold Frm.lengthV
          split
          · decide
          · split
            · decide
            · unfold Frm.numV
              split
              · decide
              · split
                · decide
                · exact Int.le_refl _
theorem decide_pos {ch : Bool} {body minor : Int} {fs : List Fld} {c : Frm.Cl} {d : Int × Int × Int} (hd : d = Frm.decideV c ch body minor fs) (h1 : d.2.2 ≠ 0) : d.2.2.toNat ≠ 0 := by
  have := decide_codes ch body minor fs c
  rw [← hd] at this
  omega
theorem size_pos {hex blanks : Bool} {ext body : Int} {l : List UInt8} {z : Int × Int} (hz : z = Chk.sizeV hex blanks ext body l) (h1 : z.2 ≠ 0) : z.2.toNat ≠ 0 := by
  have : 0 ≤ (Chk.sizeV hex blanks ext body l).2 := by
    unfold Chk.sizeV
    split
    · unfold Chk.numV
      split
      · decide
      · split
        · decide
        · exact Int.le_refl _
    · decide
  rw [← hz] at this
  omega
section
variable {p : Nat} {b : Bd} {t t2 : T} {s : List UInt8} {c : UInt8}
theorem of_strict (most : Int) : (Ln.M.of 0 most).lf = false ∧ (Ln.M.of 0 most).cr = false := ⟨none0 1, none0 2⟩
theorem next_wide (m : Ln.M) (hl : m.lf = false) (hc : m.cr = false) (c : UInt8) (h : m.next c ≠ 3) : (wideM p m).next c = m.next c ∧ m.next c ≠ 2 := by
  obtain ⟨lf, cr, most, buf, last, pend⟩ := m
  obtain rfl : lf = false := hl
  obtain rfl : cr = false := hc
  unfold Ln.M.next at h ⊢
  simp only [wideM] at h ⊢
  by_cases h1 : Ln.failed last = true
  · rw [if_pos h1] at h; exact absurd rfl h
  · have h1' : Ln.failed last = false := by simpa using h1
    simp only [h1', Bool.false_eq_true, if_false] at h ⊢
    cases pend with
    | true =>
      by_cases h2 : c = 10
      · subst h2; exact ⟨rfl, fun e => absurd (show (1 : Int) = 2 from e) (by decide)⟩
      · simp [h2] at h
    | false =>
      by_cases h2 : c = 10
      · simp [h2] at h
      · simp only [Bool.false_eq_true, if_false, if_neg h2]
        refine ⟨rfl, ?_⟩
        split
        · decide
        · split <;> decide
theorem byte_wide (m : Ln.M) (hl : m.lf = false) (hc : m.cr = false) (c : UInt8) (h : m.clear.next c ≠ 3) : (wideM p m).byte c = wideM p (m.byte c) := by
  have h1 := (next_wide (p := p) m.clear hl hc c h).1
  have e1 : (wideM p m).clear = wideM p m.clear := rfl
  unfold Ln.M.byte
  rw [e1, h1]
  rfl
theorem first_wide (h : (t.first 0 b s).1 = 0) (ht : t.Strict) : (t.wide p).first p b s = (0, (t.first 0 b s).2.wide p) ∧ (t.first 0 b s).2.Strict := by
  unfold T.first at h ⊢
  by_cases h0 : s = []
  · rw [if_pos h0, none0] at h
    exact absurd (show (400 : Nat) = 0 from h) (by decide)
  · rw [if_neg h0] at h ⊢
    rw [if_neg h0]
    obtain ⟨m, x, k, e, hq⟩ : ∃ m x k e, Rq.request (Rq.clOf 0) b.od s = (m, x, k, e) := ⟨_, _, _, _, rfl⟩
    rw [hq] at h ⊢
    simp only at h ⊢
    by_cases he : e = 0
    · subst he
      rw [Rq.clOf_zero] at hq
      rw [(Rq.extends_all hq).1 (Rq.clOf p)]
      exact ⟨rfl, ht.lf, ht.cr⟩
    · rw [if_neg he] at h
      exact absurd h he
theorem fin_wide (ht : t.Strict) : (t.wide p).fin = t.fin.wide p ∧ t.fin.Strict := ⟨rfl, ht.lf, ht.cr⟩
theorem enter_wide (st : Nat) (most : Int) : (t.wide p).enter p st most = (t.enter 0 st most).wide p ∧ (t.enter 0 st most).Strict := ⟨rfl, (of_strict most).1, (of_strict most).2⟩
theorem endHead_wide (h : (t.endHead 0 b).1 = 0) (hn : ∀ d : Int × Int × Int, d = Frm.decideV (Frm.clOf 0) b.ch b.x3 t.r.k t.r.fs → d.2.2 ≠ 0 → d.2.2.toNat ≠ 0) (ht : t.Strict) :
    (t.wide p).endHead p b = (0, (t.endHead 0 b).2.wide p) ∧ (t.endHead 0 b).2.Strict := by
  unfold T.endHead at h ⊢
  have hd : Frm.decideV (Frm.clOf p) b.ch b.x3 (t.wide p).r.k (t.wide p).r.fs = Frm.decideV (Frm.clOf p) b.ch b.x3 t.r.k t.r.fs := rfl
  rw [hd]
  by_cases h1 : (Frm.decideV (Frm.clOf 0) b.ch b.x3 t.r.k t.r.fs).2.2 = 0
  · rw [decide_wide h1 p]
    generalize Frm.decideV (Frm.clOf 0) b.ch b.x3 t.r.k t.r.fs = d at h h1 ⊢
    simp only [ne_eq, h1, not_true_eq_false, if_false]
    by_cases h2 : d.1 = 2
    · simp only [if_pos h2]; exact ⟨rfl, ht.lf, ht.cr⟩
    · simp only [if_neg h2]
      by_cases h3 : d.2.1 = 0
      · simp only [if_pos h3]; exact ⟨rfl, ht.lf, ht.cr⟩
      · simp only [if_neg h3]; exact ⟨rfl, ht.lf, ht.cr⟩
  · have := hn _ rfl h1
    simp only [ne_eq, h1, not_false_eq_true, if_true] at h
    exact absurd h this
theorem fields_wide (h : (t.fields 0 b s).1 = 0) (hn : ∀ d : Int × Int × Int, d = Frm.decideV (Frm.clOf 0) b.ch b.x3 t.r.k t.r.fs → d.2.2 ≠ 0 → d.2.2.toNat ≠ 0) (ht : t.Strict) :
    (t.wide p).fields p b s = (0, (t.fields 0 b s).2.wide p) ∧ (t.fields 0 b s).2.Strict := by
  unfold T.fields at h ⊢
  by_cases h0 : s = []
  · rw [if_pos h0] at h ⊢
    rw [if_pos h0]
    exact endHead_wide h hn ht
  · rw [if_neg h0] at h ⊢
    rw [if_neg h0]
    obtain ⟨l, hl⟩ := listE_zero h fun e he => fieldV_err he
    have hl' : fieldV p t.hl t.r.fs s b.x1 = .inr l := field_wide hl p
    have e1 : fieldV p (t.wide p).hl (t.wide p).r.fs s b.x1 = .inr l := hl'
    rw [e1, hl]
    exact ⟨rfl, ht.lf, ht.cr⟩
theorem trail_wide (h : (t.trail 0 b s).1 = 0) (ht : t.Strict) : (t.wide p).trail p b s = (0, (t.trail 0 b s).2.wide p) ∧ (t.trail 0 b s).2.Strict := by
  unfold T.trail at h ⊢
  by_cases h0 : s = []
  · rw [if_pos h0, if_pos h0]
    exact ⟨rfl, ht.lf, ht.cr⟩
  · rw [if_neg h0] at h ⊢
    rw [if_neg h0]
    obtain ⟨l, hl⟩ := listE_zero h fun e he => fieldV_err he
    have e1 : fieldV p (t.wide p).bl (t.wide p).r.ts s b.x5 = .inr l := field_wide hl p
    rw [e1, hl]
    exact ⟨rfl, ht.lf, ht.cr⟩
theorem chunk_wide (h : (t.chunk 0 b s).1 = 0) (hn : ∀ z : Int × Int, z = Chk.sizeV false false b.x4 b.x3 s → z.2 ≠ 0 → z.2.toNat ≠ 0) (ht : t.Strict) :
    (t.wide p).chunk p b s = (0, (t.chunk 0 b s).2.wide p) ∧ (t.chunk 0 b s).2.Strict := by
  unfold T.chunk at h ⊢
  rw [none0, none0] at h ⊢
  by_cases h1 : (Chk.sizeV false false b.x4 b.x3 s).2 = 0
  · rw [size_wide h1 (Qk.has p 27) (Qk.has p 28)]
    have hb : (t.wide p).r.body = t.r.body := rfl
    rw [hb]
    generalize Chk.sizeV false false b.x4 b.x3 s = z at h h1 ⊢
    simp only [ne_eq, h1, not_true_eq_false, if_false] at h ⊢
    by_cases h2 : z.1 = 0
    · simp only [if_pos h2]; exact ⟨rfl, ht.lf, ht.cr⟩
    · simp only [if_neg h2] at h ⊢
      by_cases h3 : b.x3 - (t.r.body.length : Int) < z.1
      · simp only [if_pos h3] at h
        exact absurd h (by decide)
      · simp only [if_neg h3]; exact ⟨rfl, ht.lf, ht.cr⟩
  · have := hn _ rfl h1
    simp only [ne_eq, h1, not_false_eq_true, if_true] at h
    exact absurd h this
theorem line_wide (h : (t.line 0 b s).1 = 0) (ht : t.Strict) : (t.wide p).line p b s = (0, (t.line 0 b s).2.wide p) ∧ (t.line 0 b s).2.Strict := by
  unfold T.line at h ⊢
  have e : (t.wide p).st = t.st := rfl
  rw [e]
  by_cases h1 : t.st = 1
  · simp only [if_pos h1] at h ⊢; exact first_wide h ht
  simp only [if_neg h1] at h ⊢
  by_cases h2 : t.st = 2
  · simp only [if_pos h2] at h ⊢; exact fields_wide h (fun d hd hn => decide_pos hd hn) ht
  simp only [if_neg h2] at h ⊢
  by_cases h3 : t.st = 4
  · simp only [if_pos h3] at h ⊢; exact chunk_wide h (fun z hz hn => size_pos hz hn) ht
  simp only [if_neg h3] at h ⊢
  by_cases h4 : t.st = 7
  · simp only [if_pos h4] at h ⊢; exact trail_wide h ht
  simp only [if_neg h4] at h ⊢
  exact ⟨rfl, (enter_wide (p := p) (t := t) 4 b.x0).2⟩
theorem inLine_wide {u : Bool} (h : t.inLine 0 b c = (.live t2, u)) (ht : t.Strict) : (t.wide p).inLine p b c = (.live (t2.wide p), u) ∧ t2.Strict := by
  unfold T.inLine at h ⊢
  have e1 : (t.wide p).rd.clear = wideM p t.rd.clear := rfl
  have e2 : (t.wide p).rd = wideM p t.rd := rfl
  by_cases h3 : t.rd.clear.next c = 3
  · rw [h3] at h
    exact absurd (congrArg Prod.fst h) (by simp)
  obtain ⟨h1, h2⟩ := next_wide (p := p) t.rd.clear ht.lf ht.cr c h3
  have hb := byte_wide (p := p) t.rd ht.lf ht.cr c h3
  rw [e1, e2, h1, hb]
  generalize hn : t.rd.clear.next c = n at h h1 h2 h3 ⊢
  simp only at h ⊢
  by_cases h0 : n = 0
  · simp only [if_pos h0] at h ⊢
    obtain ⟨rfl, rfl⟩ : ({ t with rd := t.rd.byte c } : T) = t2 ∧ true = u := by simpa using h
    exact ⟨rfl, ht.lf, ht.cr⟩
  simp only [if_neg h0, if_neg h3] at h ⊢
  by_cases h4 : n = 4
  · simp only [if_pos h4, none0, Bool.and_false, Bool.false_eq_true, if_false] at h
    exact absurd (congrArg Prod.fst h) (by simp)
  simp only [if_neg h4] at h ⊢
  have hl : (wideM p (t.rd.byte c)).line = (t.rd.byte c).line := rfl
  rw [hl]
  have e5 : ({ t.wide p with rd := wideM p (t.rd.byte c) } : T) = ({ t with rd := t.rd.byte c } : T).wide p := rfl
  rw [e5]
  have hs : ({ t with rd := t.rd.byte c } : T).Strict := ⟨ht.lf, ht.cr⟩
  generalize ({ t with rd := t.rd.byte c } : T) = t1 at h hs ⊢
  generalize (t.rd.byte c).line = s at h ⊢
  obtain ⟨hq, rfl⟩ := Prod.mk.inj h
  by_cases hz : (t1.line 0 b s).1 = 0
  · obtain ⟨k1, k2⟩ := line_wide (p := p) hz hs
    rw [k1]
    unfold ends at hq ⊢
    rw [if_pos hz] at hq
    obtain rfl : (t1.line 0 b s).2 = t2 := by simpa using hq
    exact ⟨rfl, k2⟩
  · unfold ends at hq
    rw [if_neg hz] at hq
    cases hq
theorem counted_wide : (t.wide p).counted = t.counted.wide p := by
  unfold T.counted
  have e : (t.wide p).cnt = t.cnt := rfl
  rw [e]
  cases t.cnt <;> rfl
theorem endData_wide (ht : t.Strict) : (t.wide p).endData p = (t.endData 0).wide p ∧ (t.endData 0).Strict := by
  unfold T.endData
  have e : (t.wide p).r.ch = t.r.ch := rfl
  rw [e]
  cases t.r.ch with
  | true => exact enter_wide 6 0
  | false => exact fin_wide ht
theorem look_wide {u : Bool} (h : t.look 0 b c = (.live t2, u)) (ht : t.Strict) : (t.wide p).look p b c = (.live (t2.wide p), u) ∧ t2.Strict := by
  unfold T.look at h ⊢
  have e : (t.wide p).st = t.st := rfl
  have e2 : (t.wide p).left = t.left := rfl
  have e3 : (t.wide p).keep c = (t.keep c).wide p := rfl
  rw [e, e2, e3]
  by_cases h1 : bodied t.st = true
  · simp only [if_pos h1] at h ⊢
    have hk : (t.keep c).Strict := ⟨ht.lf, ht.cr⟩
    by_cases h2 : t.left = 1
    · simp only [if_pos h2] at h ⊢
      obtain ⟨rfl, rfl⟩ : (t.keep c).endData 0 = t2 ∧ true = u := by simpa using h
      rw [(endData_wide (p := p) hk).1]
      exact ⟨rfl, (endData_wide (p := p) hk).2⟩
    · simp only [if_neg h2] at h ⊢
      obtain ⟨rfl, rfl⟩ : t.keep c = t2 ∧ true = u := by simpa using h
      exact ⟨rfl, hk⟩
  · simp only [if_neg h1] at h ⊢
    by_cases h2 : headed t.st = true
    · simp only [if_pos h2] at h ⊢
      rw [counted_wide]
      have e4 : (t.counted.wide p).size = t.counted.size := rfl
      rw [e4]
      by_cases h3 : b.x2 < (t.counted.size : Int)
      · simp only [if_pos h3] at h
        exact absurd (congrArg Prod.fst h) (by simp)
      · simp only [if_neg h3] at h ⊢
        exact inLine_wide h ⟨by rw [counted_rd]; exact ht.lf, by rw [counted_rd]; exact ht.cr⟩
    · simp only [if_neg h2] at h ⊢
      exact inLine_wide h ht
theorem take_wide (h : t.take 0 b c = .live t2) (ht : t.Strict) : (t.wide p).take p b c = .live (t2.wide p) ∧ t2.Strict := by
  unfold T.take at h ⊢
  have e : ({ t.wide p with cnt := false } : T) = ({ t with cnt := false } : T).wide p := rfl
  have hs : ({ t with cnt := false } : T).Strict := ⟨ht.lf, ht.cr⟩
  rw [e]
  generalize ({ t with cnt := false } : T) = t0 at h hs ⊢
  rcases hq : t0.look 0 b c with ⟨q, u⟩
  rw [hq] at h
  cases q with
  | dead e o => cases u <;> cases h
  | live t1 =>
    obtain ⟨k1, k2⟩ := look_wide (p := p) hq hs
    rw [k1]
    cases u with
    | true =>
      obtain rfl : t1 = t2 := by simpa using h
      exact ⟨rfl, k2⟩
    | false =>
      simp only at h ⊢
      rcases hq2 : t1.look 0 b c with ⟨q2, u2⟩
      rw [hq2] at h
      simp only at h
      subst h
      obtain ⟨k3, k4⟩ := look_wide (p := p) hq2 k2
      rw [k3]
      exact ⟨rfl, k4⟩
theorem new_wide : T.new p b = (T.new 0 b).wide p ∧ (T.new 0 b).Strict := ⟨rfl, none0 1, none0 2⟩
end
end Go.Proofs.YtbineebnhjifiaaGreatDoor.Pg
/- PgSimW -/
namespace Go.Proofs.YtbineebnhjifiaaGreatDoor.Pg
open Go.RowKit Base Txt Par

/-- The document's line reader beside the program's, but for the line that was told. -/
structure RelW (m : Ln.M) (q : Ln.R) : Prop where
  lf : q.lf = m.lf
  cr : q.cr = m.cr
  most : q.most = m.most
  dead : q.dead = false
  CR : q.CR = m.pend
  B : q.B = if Ln.ended m.last then [] else m.buf
/-- Nothing of a line is there. -/
structure Fresh (m : Ln.M) : Prop where
  buf : (if Ln.ended m.last then [] else m.buf) = []
  pend : m.pend = false
/-- Both hold the same, but for what is said of a next record. -/
structure R0 (p : Nat) (b : Bd) (t : T) (s : S) : Prop where
  e : s.e = 0
  st : t.st = s.st + 1
  r : s.r = t.r
  out : s.out = t.out
  head : s.head = t.size
  hl : s.st ≤ 1 → s.lines = t.hl
  bl : s.st = 6 → s.lines = t.bl
  bl0 : s.st ≠ 6 → t.bl = 0
  left : Par.bodied s.st = true → s.left = t.left
  rd : Par.bodied s.st = false → RelW t.rd s.rd
  fr : Par.bodied s.st = true → Fresh t.rd
  lf : t.rd.lf = Qk.has p 1
  cr : t.rd.cr = Qk.has p 2
  most : s.st ≠ 5 → t.rd.most = Ln.mid b.x0
  beh : s.st = 5 → t.r.body ≠ []
  ch : t.r.ch = decide (3 ≤ s.st)
structure RR (p : Nat) (b : Bd) (t : T) (s : S) : Prop extends R0 p b t s where
  fresh : s.fresh = t.next
  clean : s.clean = (t.st == 1 && t.isNew)
def RQ (p : Nat) (b : Bd) : Q → S → Prop
  | .live t, s => RR p b t s
  | .dead e o, s => s.e = e ∧ e ≠ 0 ∧ s.out = o ∧ s.clean = false
section
variable {p : Nat} {b : Bd} {t : T} {s : S}
/-- What goes on is as it may be. -/
def Q.Fine (b : Bd) : Q → Prop
  | .live t => t.Ok ∧ b.right = true
  | .dead _ _ => True
end
end Go.Proofs.YtbineebnhjifiaaGreatDoor.Pg
/- TextRef -/
namespace Go.Proofs.YtbineebnhjifiaaGreatDoor.Txt
open Go.RowKit Base Oct

/-- A block whose first cells are the bytes l, and may be written. -/
def Bytes (w : World) (g : Nat) (l : List UInt8) : Prop := ∀ j (h : j < l.length), w.cell? ⟨g, j, none⟩ = some (.int .u8 (l[j].toNat : Int)) ∧ w.frozen? ⟨g, j, none⟩ = false
def tbytes : Value → Nat
  | .string t => t.size
  | _ => 0

section code
set_option maxHeartbeats 1000000
attribute [local go_sem] Base.some_undef
end code
end Go.Proofs.YtbineebnhjifiaaGreatDoor.Txt

namespace Go.Proofs.YtbineebnhjifiaaGreatDoor.Txt
open Go.RowKit Base Oct

/-- The walk of a split: what is done at place k, where the last part began at f. -/
def Part (c : UInt8) (l : List UInt8) (f k : Nat) (done : List (List UInt8)) : Prop :=
  (k ≤ l.length ∧ f ≤ k ∧ parts c l = done ++ parts c (l.drop f) ∧ c ∉ (l.drop f).take (k - f)) ∨ (k = l.length + 1 ∧ f = l.length + 1 ∧ parts c l = done)
section code
set_option maxHeartbeats 1000000
attribute [local go_sem] Base.some_undef
end code
end Go.Proofs.YtbineebnhjifiaaGreatDoor.Txt
/- TextRef2 -/
namespace Go.Proofs.YtbineebnhjifiaaGreatDoor.Txt
open Go.RowKit Base Oct

section code
set_option maxHeartbeats 1000000
set_option maxRecDepth 10000
attribute [local go_sem] Base.some_undef
end code
end Go.Proofs.YtbineebnhjifiaaGreatDoor.Txt
/- RecRef -/
namespace Go.Proofs.YtbineebnhjifiaaGreatDoor.Rec
open Go.RowKit Base Txt

section code
set_option maxHeartbeats 1000000
attribute [local go_sem] Base.some_undef
theorem rsame_any (V V' : Value) (r r' : R) (w : World) (h : Reads w V r) (h' : Reads w V' r') (hf : Fit r) (hf' : Fit r') : Calls Tryz.prog 39 #[V, V'] w fun e w' => e = .returned (.bool (same r r')) ∧ Below w.heap.size w w' := by
  obtain ⟨fa, fc, ba, bc, ta, tc, rfl, h1, h2, h3⟩ := h
  obtain ⟨fa', fc', ba', bc', ta', tc', rfl, h1', h2', h3'⟩ := h'
  have HF1 := Lib.hid (fun w2 (hb : Below w.heap.size w w2) => rfields_any fa _ fc _ fa' _ fc' _ w2 (h1.below hb) (h1'.below hb) (by have := hf.fs; omega) (by have := hf'.fs; omega))
  have HF2 := Lib.hid (fun w2 (hb : Below w.heap.size w w2) => rfields_any ta _ tc _ ta' _ tc' _ w2 (h3.below hb) (h3'.below hb) (by have := hf.ts; omega) (by have := hf'.ts; omega))
  have H2 := Lib.hid h2; have H2' := Lib.hid h2'
  clear h1 h2 h3 h1' h2' h3' hf hf'
  have HB0 := Lib.hid ((((Below.refl _ _).alloc (Nat.le_refl _) (.cells #[.string r.m, .string r.x, .int .i64 r.k, .slice fa r.fs.length fc, .bool r.ch, .slice ba r.body.length bc, .slice ta r.ts.length tc] 58)).alloc (by simp) (.cells #[.string r'.m, .string r'.x, .int .i64 r'.k, .slice fa' r'.fs.length fc', .bool r'.ch, .slice ba' r'.body.length bc', .slice ta' r'.ts.length tc'] 58)) : Below w.heap.size w _)
  have HA := Lib.hid ((Bk.new w w.heap.size rfl 58 [.string r.m, .string r.x, .int .i64 r.k, .slice fa r.fs.length fc, .bool r.ch, .slice ba r.body.length bc, .slice ta r.ts.length tc]).alloc (.cells #[.string r'.m, .string r'.x, .int .i64 r'.k, .slice fa' r'.fs.length fc', .bool r'.ch, .slice ba' r'.body.length bc', .slice ta' r'.ts.length tc'] 58))
  have HB := Lib.hid (Bk.new (w.alloc (.cells #[.string r.m, .string r.x, .int .i64 r.k, .slice fa r.fs.length fc, .bool r.ch, .slice ba r.body.length bc, .slice ta r.ts.length tc] 58)) (w.heap.size + 1) (by simp) 58 [.string r'.m, .string r'.x, .int .i64 r'.k, .slice fa' r'.fs.length fc', .bool r'.ch, .slice ba' r'.body.length bc', .slice ta' r'.ts.length tc'])
  by_cases g0 : r.m = r'.m
  rotate_left
  · have e : same r r' = false := by unfold same; simp [g0]
    rw [e]
    clear e
    have t0 : (r.m.toList == r'.m.toList) = false := by rw [ba_beq]; exact decide_eq_false g0
    have s0 : ¬ r.m.toList = r'.m.toList := fun h => g0 ((toList_iff _ _).1 h)
    clear g0
    go_enter Tryz.func39, Tryz.ntmps39
    go_upto_region 1 with fail
    generalize (w.alloc (.cells #[.string r.m, .string r.x, .int .i64 r.k, .slice fa r.fs.length fc, .bool r.ch, .slice ba r.body.length bc, .slice ta r.ts.length tc] 58)).alloc (.cells #[.string r'.m, .string r'.x, .int .i64 r'.k, .slice fa' r'.fs.length fc', .bool r'.ch, .slice ba' r'.body.length bc', .slice ta' r'.ts.length tc'] 58) = W at *
    have hA0 := HA.out; have hB0 := HB.out
    have q0 := hA0.c 0 _ rfl; have y0 := hB0.c 0 _ rfl; have q1 := hA0.c 1 _ rfl; have y1 := hB0.c 1 _ rfl; have q2 := hA0.c 2 _ rfl; have y2 := hB0.c 2 _ rfl; have q3 := hA0.c 3 _ rfl; have y3 := hB0.c 3 _ rfl; have q4 := hA0.c 4 _ rfl; have y4 := hB0.c 4 _ rfl; have q5 := hA0.c 5 _ rfl; have y5 := hB0.c 5 _ rfl; have q6 := hA0.c 6 _ rfl; have y6 := hB0.c 6 _ rfl
    clear hA0 hB0
    go_wp2
    go_ret
    exact ⟨rfl, HB0.out⟩
  by_cases g1 : r.x = r'.x
  rotate_left
  · have e : same r r' = false := by unfold same; simp [g0, g1]
    rw [e]
    clear e
    have t0 : (r.m.toList == r'.m.toList) = true := by rw [ba_beq]; exact decide_eq_true g0
    have s0 : r.m.toList = r'.m.toList := (toList_iff _ _).2 g0
    have t1 : (r.x.toList == r'.x.toList) = false := by rw [ba_beq]; exact decide_eq_false g1
    have s1 : ¬ r.x.toList = r'.x.toList := fun h => g1 ((toList_iff _ _).1 h)
    clear g0 g1
    go_enter Tryz.func39, Tryz.ntmps39
    go_upto_region 1 with fail
    generalize (w.alloc (.cells #[.string r.m, .string r.x, .int .i64 r.k, .slice fa r.fs.length fc, .bool r.ch, .slice ba r.body.length bc, .slice ta r.ts.length tc] 58)).alloc (.cells #[.string r'.m, .string r'.x, .int .i64 r'.k, .slice fa' r'.fs.length fc', .bool r'.ch, .slice ba' r'.body.length bc', .slice ta' r'.ts.length tc'] 58) = W at *
    have hA0 := HA.out; have hB0 := HB.out
    have q0 := hA0.c 0 _ rfl; have y0 := hB0.c 0 _ rfl; have q1 := hA0.c 1 _ rfl; have y1 := hB0.c 1 _ rfl; have q2 := hA0.c 2 _ rfl; have y2 := hB0.c 2 _ rfl; have q3 := hA0.c 3 _ rfl; have y3 := hB0.c 3 _ rfl; have q4 := hA0.c 4 _ rfl; have y4 := hB0.c 4 _ rfl; have q5 := hA0.c 5 _ rfl; have y5 := hB0.c 5 _ rfl; have q6 := hA0.c 6 _ rfl; have y6 := hB0.c 6 _ rfl
    clear hA0 hB0
    go_wp2
    go_ret
    exact ⟨rfl, HB0.out⟩
  by_cases g2 : r.k = r'.k
  rotate_left
  · have e : same r r' = false := by unfold same; simp [g0, g1, g2]
    rw [e]
    clear e
    have t0 : (r.m.toList == r'.m.toList) = true := by rw [ba_beq]; exact decide_eq_true g0
    have s0 : r.m.toList = r'.m.toList := (toList_iff _ _).2 g0
    have t1 : (r.x.toList == r'.x.toList) = true := by rw [ba_beq]; exact decide_eq_true g1
    have s1 : r.x.toList = r'.x.toList := (toList_iff _ _).2 g1
    have t2 : (r.k == r'.k) = false := beq_eq_false_iff_ne.2 g2
    clear g0 g1 g2
    go_enter Tryz.func39, Tryz.ntmps39
    go_upto_region 1 with fail
    generalize (w.alloc (.cells #[.string r.m, .string r.x, .int .i64 r.k, .slice fa r.fs.length fc, .bool r.ch, .slice ba r.body.length bc, .slice ta r.ts.length tc] 58)).alloc (.cells #[.string r'.m, .string r'.x, .int .i64 r'.k, .slice fa' r'.fs.length fc', .bool r'.ch, .slice ba' r'.body.length bc', .slice ta' r'.ts.length tc'] 58) = W at *
    have hA0 := HA.out; have hB0 := HB.out
    have q0 := hA0.c 0 _ rfl; have y0 := hB0.c 0 _ rfl; have q1 := hA0.c 1 _ rfl; have y1 := hB0.c 1 _ rfl; have q2 := hA0.c 2 _ rfl; have y2 := hB0.c 2 _ rfl; have q3 := hA0.c 3 _ rfl; have y3 := hB0.c 3 _ rfl; have q4 := hA0.c 4 _ rfl; have y4 := hB0.c 4 _ rfl; have q5 := hA0.c 5 _ rfl; have y5 := hB0.c 5 _ rfl; have q6 := hA0.c 6 _ rfl; have y6 := hB0.c 6 _ rfl
    clear hA0 hB0
    go_wp2
    go_ret
    exact ⟨rfl, HB0.out⟩
  by_cases g3 : r.fs = r'.fs
  rotate_left
  · have e : same r r' = false := by unfold same; simp [g0, g1, g2, g3]
    rw [e]
    clear e
    have t0 : (r.m.toList == r'.m.toList) = true := by rw [ba_beq]; exact decide_eq_true g0
    have s0 : r.m.toList = r'.m.toList := (toList_iff _ _).2 g0
    have t1 : (r.x.toList == r'.x.toList) = true := by rw [ba_beq]; exact decide_eq_true g1
    have s1 : r.x.toList = r'.x.toList := (toList_iff _ _).2 g1
    have t2 : (r.k == r'.k) = true := beq_iff_eq.2 g2
    rw [decide_eq_false g3] at HF1
    clear g0 g1 g2 g3
    go_enter Tryz.func39, Tryz.ntmps39
    go_upto_region 1 with fail
    generalize (w.alloc (.cells #[.string r.m, .string r.x, .int .i64 r.k, .slice fa r.fs.length fc, .bool r.ch, .slice ba r.body.length bc, .slice ta r.ts.length tc] 58)).alloc (.cells #[.string r'.m, .string r'.x, .int .i64 r'.k, .slice fa' r'.fs.length fc', .bool r'.ch, .slice ba' r'.body.length bc', .slice ta' r'.ts.length tc'] 58) = W at *
    have hA0 := HA.out; have hB0 := HB.out
    have q0 := hA0.c 0 _ rfl; have y0 := hB0.c 0 _ rfl; have q1 := hA0.c 1 _ rfl; have y1 := hB0.c 1 _ rfl; have q2 := hA0.c 2 _ rfl; have y2 := hB0.c 2 _ rfl; have q3 := hA0.c 3 _ rfl; have y3 := hB0.c 3 _ rfl; have q4 := hA0.c 4 _ rfl; have y4 := hB0.c 4 _ rfl; have q5 := hA0.c 5 _ rfl; have y5 := hB0.c 5 _ rfl; have q6 := hA0.c 6 _ rfl; have y6 := hB0.c 6 _ rfl
    clear hA0 hB0
    go_wp2_with (go_at_call 76; with_reducible refine (HF1.out _ HB0.out).mono ?_; rintro e w1 ⟨rfl, n1, hw1⟩
                 have hb1 : Below W.heap.size W w1 := by rw [hw1]; exact Base.below_drewN (Below.refl _ _) n1
                 have HB1 := Lib.hid (Base.below_step HB0.out hb1); have hA1 := HA.out.below hb1; have hB1 := HB.out.below hb1; have q3 := hA1.c 3 _ rfl; have y3 := hB1.c 3 _ rfl; have q4 := hA1.c 4 _ rfl; have y4 := hB1.c 4 _ rfl; have q5 := hA1.c 5 _ rfl; have y5 := hB1.c 5 _ rfl; have q6 := hA1.c 6 _ rfl; have y6 := hB1.c 6 _ rfl; have cv := conv_str w1 _ _ bc _ (H2.out.below HB1.out); have cv' := conv_str w1 _ _ bc' _ (H2'.out.below HB1.out); clear hA1 hB1 hb1 hw1)
    go_ret
    exact ⟨rfl, HB1.out⟩
  by_cases g4 : r.ch = r'.ch
  rotate_left
  · have e : same r r' = false := by unfold same; simp [g0, g1, g2, g3, g4]
    rw [e]
    clear e
    have t0 : (r.m.toList == r'.m.toList) = true := by rw [ba_beq]; exact decide_eq_true g0
    have s0 : r.m.toList = r'.m.toList := (toList_iff _ _).2 g0
    have t1 : (r.x.toList == r'.x.toList) = true := by rw [ba_beq]; exact decide_eq_true g1
    have s1 : r.x.toList = r'.x.toList := (toList_iff _ _).2 g1
    have t2 : (r.k == r'.k) = true := beq_iff_eq.2 g2
    rw [decide_eq_true g3] at HF1
    have t4 : (r.ch == r'.ch) = false := beq_eq_false_iff_ne.2 g4
    clear g0 g1 g2 g3 g4
    go_enter Tryz.func39, Tryz.ntmps39
    go_upto_region 1 with fail
    generalize (w.alloc (.cells #[.string r.m, .string r.x, .int .i64 r.k, .slice fa r.fs.length fc, .bool r.ch, .slice ba r.body.length bc, .slice ta r.ts.length tc] 58)).alloc (.cells #[.string r'.m, .string r'.x, .int .i64 r'.k, .slice fa' r'.fs.length fc', .bool r'.ch, .slice ba' r'.body.length bc', .slice ta' r'.ts.length tc'] 58) = W at *
    have hA0 := HA.out; have hB0 := HB.out
    have q0 := hA0.c 0 _ rfl; have y0 := hB0.c 0 _ rfl; have q1 := hA0.c 1 _ rfl; have y1 := hB0.c 1 _ rfl; have q2 := hA0.c 2 _ rfl; have y2 := hB0.c 2 _ rfl; have q3 := hA0.c 3 _ rfl; have y3 := hB0.c 3 _ rfl; have q4 := hA0.c 4 _ rfl; have y4 := hB0.c 4 _ rfl; have q5 := hA0.c 5 _ rfl; have y5 := hB0.c 5 _ rfl; have q6 := hA0.c 6 _ rfl; have y6 := hB0.c 6 _ rfl
    clear hA0 hB0
    go_wp2_with (go_at_call 76; with_reducible refine (HF1.out _ HB0.out).mono ?_; rintro e w1 ⟨rfl, n1, hw1⟩
                 have hb1 : Below W.heap.size W w1 := by rw [hw1]; exact Base.below_drewN (Below.refl _ _) n1
                 have HB1 := Lib.hid (Base.below_step HB0.out hb1); have hA1 := HA.out.below hb1; have hB1 := HB.out.below hb1; have q3 := hA1.c 3 _ rfl; have y3 := hB1.c 3 _ rfl; have q4 := hA1.c 4 _ rfl; have y4 := hB1.c 4 _ rfl; have q5 := hA1.c 5 _ rfl; have y5 := hB1.c 5 _ rfl; have q6 := hA1.c 6 _ rfl; have y6 := hB1.c 6 _ rfl; have cv := conv_str w1 _ _ bc _ (H2.out.below HB1.out); have cv' := conv_str w1 _ _ bc' _ (H2'.out.below HB1.out); clear hA1 hB1 hb1 hw1)
    go_ret
    exact ⟨rfl, HB1.out⟩
  by_cases g5 : r.body = r'.body
  rotate_left
  · have e : same r r' = false := by unfold same; simp [g0, g1, g2, g3, g4, g5]
    rw [e]
    clear e
    have t0 : (r.m.toList == r'.m.toList) = true := by rw [ba_beq]; exact decide_eq_true g0
    have s0 : r.m.toList = r'.m.toList := (toList_iff _ _).2 g0
    have t1 : (r.x.toList == r'.x.toList) = true := by rw [ba_beq]; exact decide_eq_true g1
    have s1 : r.x.toList = r'.x.toList := (toList_iff _ _).2 g1
    have t2 : (r.k == r'.k) = true := beq_iff_eq.2 g2
    rw [decide_eq_true g3] at HF1
    have t4 : (r.ch == r'.ch) = true := beq_iff_eq.2 g4
    have t5 : ((Txt.ba r.body).toList == (Txt.ba r'.body).toList) = false := by rw [ba_beq]; exact decide_eq_false (fun h => g5 (ba_list_inj.1 h))
    have s5 : ¬ (Txt.ba r.body).toList = (Txt.ba r'.body).toList := fun h => g5 (ba_list_inj.1 ((toList_iff _ _).1 h))
    clear g0 g1 g2 g3 g4 g5
    go_enter Tryz.func39, Tryz.ntmps39
    go_upto_region 1 with fail
    generalize (w.alloc (.cells #[.string r.m, .string r.x, .int .i64 r.k, .slice fa r.fs.length fc, .bool r.ch, .slice ba r.body.length bc, .slice ta r.ts.length tc] 58)).alloc (.cells #[.string r'.m, .string r'.x, .int .i64 r'.k, .slice fa' r'.fs.length fc', .bool r'.ch, .slice ba' r'.body.length bc', .slice ta' r'.ts.length tc'] 58) = W at *
    have hA0 := HA.out; have hB0 := HB.out
    have q0 := hA0.c 0 _ rfl; have y0 := hB0.c 0 _ rfl; have q1 := hA0.c 1 _ rfl; have y1 := hB0.c 1 _ rfl; have q2 := hA0.c 2 _ rfl; have y2 := hB0.c 2 _ rfl; have q3 := hA0.c 3 _ rfl; have y3 := hB0.c 3 _ rfl; have q4 := hA0.c 4 _ rfl; have y4 := hB0.c 4 _ rfl; have q5 := hA0.c 5 _ rfl; have y5 := hB0.c 5 _ rfl; have q6 := hA0.c 6 _ rfl; have y6 := hB0.c 6 _ rfl
    clear hA0 hB0
    go_wp2_with (go_at_call 76; with_reducible refine (HF1.out _ HB0.out).mono ?_; rintro e w1 ⟨rfl, n1, hw1⟩
                 have hb1 : Below W.heap.size W w1 := by rw [hw1]; exact Base.below_drewN (Below.refl _ _) n1
                 have HB1 := Lib.hid (Base.below_step HB0.out hb1); have hA1 := HA.out.below hb1; have hB1 := HB.out.below hb1; have q3 := hA1.c 3 _ rfl; have y3 := hB1.c 3 _ rfl; have q4 := hA1.c 4 _ rfl; have y4 := hB1.c 4 _ rfl; have q5 := hA1.c 5 _ rfl; have y5 := hB1.c 5 _ rfl; have q6 := hA1.c 6 _ rfl; have y6 := hB1.c 6 _ rfl; have cv := conv_str w1 _ _ bc _ (H2.out.below HB1.out); have cv' := conv_str w1 _ _ bc' _ (H2'.out.below HB1.out); clear hA1 hB1 hb1 hw1)
    go_ret
    exact ⟨rfl, HB1.out⟩
  by_cases g6 : r.ts = r'.ts
  rotate_left
  · have e : same r r' = false := by unfold same; simp [g0, g1, g2, g3, g4, g5, g6]
    rw [e]
    clear e
    have t0 : (r.m.toList == r'.m.toList) = true := by rw [ba_beq]; exact decide_eq_true g0
    have s0 : r.m.toList = r'.m.toList := (toList_iff _ _).2 g0
    have t1 : (r.x.toList == r'.x.toList) = true := by rw [ba_beq]; exact decide_eq_true g1
    have s1 : r.x.toList = r'.x.toList := (toList_iff _ _).2 g1
    have t2 : (r.k == r'.k) = true := beq_iff_eq.2 g2
    rw [decide_eq_true g3] at HF1
    have t4 : (r.ch == r'.ch) = true := beq_iff_eq.2 g4
    have t5 : ((Txt.ba r.body).toList == (Txt.ba r'.body).toList) = true := by rw [ba_beq]; exact decide_eq_true (by rw [g5])
    have s5 : (Txt.ba r.body).toList = (Txt.ba r'.body).toList := (toList_iff _ _).2 (by rw [g5])
    rw [decide_eq_false g6] at HF2
    clear g0 g1 g2 g3 g4 g5 g6
    go_enter Tryz.func39, Tryz.ntmps39
    go_upto_region 1 with fail
    generalize (w.alloc (.cells #[.string r.m, .string r.x, .int .i64 r.k, .slice fa r.fs.length fc, .bool r.ch, .slice ba r.body.length bc, .slice ta r.ts.length tc] 58)).alloc (.cells #[.string r'.m, .string r'.x, .int .i64 r'.k, .slice fa' r'.fs.length fc', .bool r'.ch, .slice ba' r'.body.length bc', .slice ta' r'.ts.length tc'] 58) = W at *
    have hA0 := HA.out; have hB0 := HB.out
    have q0 := hA0.c 0 _ rfl; have y0 := hB0.c 0 _ rfl; have q1 := hA0.c 1 _ rfl; have y1 := hB0.c 1 _ rfl; have q2 := hA0.c 2 _ rfl; have y2 := hB0.c 2 _ rfl; have q3 := hA0.c 3 _ rfl; have y3 := hB0.c 3 _ rfl; have q4 := hA0.c 4 _ rfl; have y4 := hB0.c 4 _ rfl; have q5 := hA0.c 5 _ rfl; have y5 := hB0.c 5 _ rfl; have q6 := hA0.c 6 _ rfl; have y6 := hB0.c 6 _ rfl
    clear hA0 hB0
    go_wp2_with (first
      | (go_at_call 76; with_reducible refine (HF2.out _ HB1.out).mono ?_; rintro e w2 ⟨rfl, n2, hw2⟩
         have hb2 : Below w1.heap.size w1 w2 := by rw [hw2]; exact Base.below_drewN (Below.refl _ _) n2
         have HB2 := Lib.hid (Base.below_step HB1.out hb2); clear hb2 hw2)
      | (go_at_call 76; with_reducible refine (HF1.out _ HB0.out).mono ?_; rintro e w1 ⟨rfl, n1, hw1⟩
         have hb1 : Below W.heap.size W w1 := by rw [hw1]; exact Base.below_drewN (Below.refl _ _) n1
         have HB1 := Lib.hid (Base.below_step HB0.out hb1); have hA1 := HA.out.below hb1; have hB1 := HB.out.below hb1; have q3 := hA1.c 3 _ rfl; have y3 := hB1.c 3 _ rfl; have q4 := hA1.c 4 _ rfl; have y4 := hB1.c 4 _ rfl; have q5 := hA1.c 5 _ rfl; have y5 := hB1.c 5 _ rfl; have q6 := hA1.c 6 _ rfl; have y6 := hB1.c 6 _ rfl; have cv := conv_str w1 _ _ bc _ (H2.out.below HB1.out); have cv' := conv_str w1 _ _ bc' _ (H2'.out.below HB1.out); clear hA1 hB1 hb1 hw1))
    go_ret
    exact ⟨rfl, HB2.out⟩
  have e : same r r' = true := by unfold same; simp [g0, g1, g2, g3, g4, g5, g6]
  rw [e]
  clear e
  have t0 : (r.m.toList == r'.m.toList) = true := by rw [ba_beq]; exact decide_eq_true g0
  have s0 : r.m.toList = r'.m.toList := (toList_iff _ _).2 g0
  have t1 : (r.x.toList == r'.x.toList) = true := by rw [ba_beq]; exact decide_eq_true g1
  have s1 : r.x.toList = r'.x.toList := (toList_iff _ _).2 g1
  have t2 : (r.k == r'.k) = true := beq_iff_eq.2 g2
  rw [decide_eq_true g3] at HF1
  have t4 : (r.ch == r'.ch) = true := beq_iff_eq.2 g4
  have t5 : ((Txt.ba r.body).toList == (Txt.ba r'.body).toList) = true := by rw [ba_beq]; exact decide_eq_true (by rw [g5])
  have s5 : (Txt.ba r.body).toList = (Txt.ba r'.body).toList := (toList_iff _ _).2 (by rw [g5])
  rw [decide_eq_true g6] at HF2
  clear g0 g1 g2 g3 g4 g5 g6
  go_enter Tryz.func39, Tryz.ntmps39
  go_upto_region 1 with fail
  generalize (w.alloc (.cells #[.string r.m, .string r.x, .int .i64 r.k, .slice fa r.fs.length fc, .bool r.ch, .slice ba r.body.length bc, .slice ta r.ts.length tc] 58)).alloc (.cells #[.string r'.m, .string r'.x, .int .i64 r'.k, .slice fa' r'.fs.length fc', .bool r'.ch, .slice ba' r'.body.length bc', .slice ta' r'.ts.length tc'] 58) = W at *
  have hA0 := HA.out; have hB0 := HB.out
  have q0 := hA0.c 0 _ rfl; have y0 := hB0.c 0 _ rfl; have q1 := hA0.c 1 _ rfl; have y1 := hB0.c 1 _ rfl; have q2 := hA0.c 2 _ rfl; have y2 := hB0.c 2 _ rfl; have q3 := hA0.c 3 _ rfl; have y3 := hB0.c 3 _ rfl; have q4 := hA0.c 4 _ rfl; have y4 := hB0.c 4 _ rfl; have q5 := hA0.c 5 _ rfl; have y5 := hB0.c 5 _ rfl; have q6 := hA0.c 6 _ rfl; have y6 := hB0.c 6 _ rfl
  clear hA0 hB0
  go_wp2_with (first
    | (go_at_call 76; with_reducible refine (HF2.out _ HB1.out).mono ?_; rintro e w2 ⟨rfl, n2, hw2⟩
       have hb2 : Below w1.heap.size w1 w2 := by rw [hw2]; exact Base.below_drewN (Below.refl _ _) n2
       have HB2 := Lib.hid (Base.below_step HB1.out hb2); clear hb2 hw2)
    | (go_at_call 76; with_reducible refine (HF1.out _ HB0.out).mono ?_; rintro e w1 ⟨rfl, n1, hw1⟩
       have hb1 : Below W.heap.size W w1 := by rw [hw1]; exact Base.below_drewN (Below.refl _ _) n1
       have HB1 := Lib.hid (Base.below_step HB0.out hb1); have hA1 := HA.out.below hb1; have hB1 := HB.out.below hb1; have q3 := hA1.c 3 _ rfl; have y3 := hB1.c 3 _ rfl; have q4 := hA1.c 4 _ rfl; have y4 := hB1.c 4 _ rfl; have q5 := hA1.c 5 _ rfl; have y5 := hB1.c 5 _ rfl; have q6 := hA1.c 6 _ rfl; have y6 := hB1.c 6 _ rfl; have cv := conv_str w1 _ _ bc _ (H2.out.below HB1.out); have cv' := conv_str w1 _ _ bc' _ (H2'.out.below HB1.out); clear hA1 hB1 hb1 hw1))
  go_ret
  exact ⟨rfl, HB2.out⟩
end code
end Go.Proofs.YtbineebnhjifiaaGreatDoor.Rec
/- RecAll -/
namespace Go.Proofs.YtbineebnhjifiaaGreatDoor.Rec
open Go.RowKit Base Txt

/-- A record in memory, from a cell on. -/
def RecAt (w : World) (b o : Nat) (r : R) : Prop :=
  ∃ (fa : Option Addr) (fc : Nat) (ba : Option Addr) (bc : Nat) (ta : Option Addr) (tc : Nat),
    (w.cell? ⟨b, o, none⟩ = some (.string r.m) ∧ w.cell? ⟨b, o + 1, none⟩ = some (.string r.x) ∧ w.cell? ⟨b, o + 2, none⟩ = some (.int .i64 r.k) ∧ w.cell? ⟨b, o + 3, none⟩ = some (.slice fa r.fs.length fc) ∧
     w.cell? ⟨b, o + 4, none⟩ = some (.bool r.ch) ∧ w.cell? ⟨b, o + 5, none⟩ = some (.slice ba r.body.length bc) ∧ w.cell? ⟨b, o + 6, none⟩ = some (.slice ta r.ts.length tc)) ∧
    Reads w (.agg #[.string r.m, .string r.x, .int .i64 r.k, .slice fa r.fs.length fc, .bool r.ch, .slice ba r.body.length bc, .slice ta r.ts.length tc]) r
theorem RecAt.below {w w' : World} {b o : Nat} {r : R} (h : RecAt w b o r) (hlt : b < w.heap.size) (hb : Below w.heap.size w w') : RecAt w' b o r := by
  obtain ⟨fa, fc, ba, bc, ta, tc, ⟨c0, c1, c2, c3, c4, c5, c6⟩, hr⟩ := h
  exact ⟨fa, fc, ba, bc, ta, tc, ⟨(hb.cell (p := ⟨b, o, none⟩) hlt).trans c0, (hb.cell (p := ⟨b, o + 1, none⟩) hlt).trans c1, (hb.cell (p := ⟨b, o + 2, none⟩) hlt).trans c2, (hb.cell (p := ⟨b, o + 3, none⟩) hlt).trans c3,
    (hb.cell (p := ⟨b, o + 4, none⟩) hlt).trans c4, (hb.cell (p := ⟨b, o + 5, none⟩) hlt).trans c5, (hb.cell (p := ⟨b, o + 6, none⟩) hlt).trans c6⟩, hr.below hb⟩
def r0 : R := ⟨ByteArray.empty, ByteArray.empty, 0, [], false, [], []⟩
/-- A slice of records. -/
def Recs (w : World) (a : Option Addr) (n : Nat) (rs : List R) : Prop :=
  rs.length = n ∧ (0 < n → ∃ b off, a = some ⟨b, off, none⟩ ∧ b < w.heap.size ∧ ∀ k, k < n → RecAt w b (off + k * 7) (rs[k]?.getD r0))
theorem Recs.below {w w' : World} {a : Option Addr} {n : Nat} {rs : List R} (h : Recs w a n rs) (hb : Below w.heap.size w w') : Recs w' a n rs := by
  refine ⟨h.1, fun hn => ?_⟩
  obtain ⟨b, off, e, hlt, hc⟩ := h.2 hn
  exact ⟨b, off, e, Nat.lt_of_lt_of_le hlt hb.size, fun k hk => (hc k hk).below hlt hb⟩
theorem all_iff : ∀ a b : List R, all a b = true ↔ a = b
  | [], [] => by simp [all]
  | [], _ :: _ => by simp [all]
  | _ :: _, [] => by simp [all]
  | x :: a, y :: b => by rw [all, Bool.and_eq_true, same_iff, all_iff a b, List.cons.injEq]
theorem all_len (a b : List R) (h : ¬ a.length = b.length) : all a b = false := by
  rw [Bool.eq_false_iff]
  exact fun e => h (by rw [(all_iff a b).1 e])
theorem take_eq (xs ys : List R) (k : Nat) (hx : k < xs.length) (hy : k < ys.length) (h : xs.take k = ys.take k) (e : xs[k]?.getD r0 = ys[k]?.getD r0) : xs.take (k + 1) = ys.take (k + 1) := by
  rw [List.take_succ_eq_append_getElem hx, List.take_succ_eq_append_getElem hy, h]
  rw [List.getElem?_eq_getElem hx, List.getElem?_eq_getElem hy] at e
  congr 2
theorem fit_at {rs : List R} (h : ∀ r ∈ rs, Fit r) (k : Nat) (hk : k < rs.length) : Fit (rs[k]?.getD r0) := by
  rw [List.getElem?_eq_getElem hk]; exact h _ (List.getElem_mem hk)

section code
set_option maxHeartbeats 2000000
theorem rall_any (a : Option Addr) (n cap : Nat) (rs : List R) (b : Option Addr) (m cap2 : Nat) (qs : List R) (w : World) (hv : Recs w a n rs) (hu : Recs w b m qs) (hn : n ≤ 1000000000) (hm : m ≤ 1000000000) (hf : ∀ r ∈ rs, Fit r) (hg : ∀ r ∈ qs, Fit r) :
    Calls Tryz.prog 24 #[.slice a n cap, .slice b m cap2] w fun e w' => e = .returned (.bool (all rs qs)) ∧ Below w.heap.size w w' := by
  have HV := Lib.hid hv; have HU := Lib.hid hu; have HF := Lib.hid hf; have HG := Lib.hid hg
  have HL := Lib.hid hv.1; have HM := Lib.hid hu.1
  by_cases hnm : n = m
  · subst hnm
    clear hv hu hf hg
    obtain ⟨B, hB⟩ : ∃ B, all rs qs = B := ⟨_, rfl⟩
    rw [hB]
    have HB := Lib.hid hB
    clear hB
    go_enter Tryz.func24, Tryz.ntmps24
    go_wp2
    go_loopw [5] (fun i wr => ∃ k : Nat, k ≤ n ∧ i = .int .i64 k ∧ Hid (rs.take k = qs.take k) ∧ Hid (Below w.heap.size w wr)) (fun i _ => n - (intOf i).toNat)
    case atStart => exact ⟨0, Nat.zero_le _, rfl, Lib.hid rfl, Lib.hid (Below.refl _ _)⟩
    case round =>
      obtain ⟨k, hk, rfl, hpre, hbr⟩ := hrel
      rcases Nat.lt_or_ge k n with hlt | hge
      · obtain ⟨bl, off, rfl, hbl, hc⟩ := (HV.out.below hbr.out).2 (by omega)
        obtain ⟨bl', off', rfl, hbl', hc'⟩ := (HU.out.below hbr.out).2 (by omega)
        have hkr : k < rs.length := by rw [HL.out]; exact hlt
        have hkq : k < qs.length := by rw [HM.out]; exact hlt
        have h1 := hc k hlt
        have h2 := hc' k hlt
        have f1 := fit_at HF.out k hkr
        have f2 := fit_at HG.out k hkq
        have HN := Lib.hid (take_eq rs qs k hkr hkq hpre.out)
        have HX := Lib.hid (show rs = qs → rs[k]?.getD r0 = qs[k]?.getD r0 from fun e => by rw [e])
        clear hc hc' hkr hkq
        generalize rs[k]?.getD r0 = x at *
        generalize qs[k]?.getD r0 = y at *
        obtain ⟨fa, fc, ba, bc, ta, tc, ⟨c0, c1, c2, c3, c4, c5, c6⟩, hr1⟩ := h1
        obtain ⟨fa', fc', ba', bc', ta', tc', ⟨d0, d1, d2, d3, d4, d5, d6⟩, hr2⟩ := h2
        have HC := Lib.hid (fun w2 (hb : Below wr.heap.size wr w2) => rsame_any _ _ _ _ w2 (hr1.below hb) (hr2.below hb) f1 f2)
        have HCE := Lib.hid (show ∀ w1, Below wr.heap.size wr w1 → (w1.cell? ⟨bl, off + k * 7, none⟩ = some (.string x.m) ∧ w1.cell? ⟨bl, off + k * 7 + 1, none⟩ = some (.string x.x) ∧ w1.cell? ⟨bl, off + k * 7 + 2, none⟩ = some (.int .i64 x.k) ∧ w1.cell? ⟨bl, off + k * 7 + 3, none⟩ = some (.slice fa x.fs.length fc) ∧ w1.cell? ⟨bl, off + k * 7 + 4, none⟩ = some (.bool x.ch) ∧ w1.cell? ⟨bl, off + k * 7 + 5, none⟩ = some (.slice ba x.body.length bc) ∧ w1.cell? ⟨bl, off + k * 7 + 6, none⟩ = some (.slice ta x.ts.length tc)) from
          fun w1 hb => ⟨(hb.cell (p := ⟨bl, off + k * 7, none⟩) hbl).trans c0, (hb.cell (p := ⟨bl, off + k * 7 + 1, none⟩) hbl).trans c1, (hb.cell (p := ⟨bl, off + k * 7 + 2, none⟩) hbl).trans c2, (hb.cell (p := ⟨bl, off + k * 7 + 3, none⟩) hbl).trans c3, (hb.cell (p := ⟨bl, off + k * 7 + 4, none⟩) hbl).trans c4, (hb.cell (p := ⟨bl, off + k * 7 + 5, none⟩) hbl).trans c5, (hb.cell (p := ⟨bl, off + k * 7 + 6, none⟩) hbl).trans c6⟩)
        have HCD := Lib.hid (show ∀ w1, Below wr.heap.size wr w1 → (w1.cell? ⟨bl', off' + k * 7, none⟩ = some (.string y.m) ∧ w1.cell? ⟨bl', off' + k * 7 + 1, none⟩ = some (.string y.x) ∧ w1.cell? ⟨bl', off' + k * 7 + 2, none⟩ = some (.int .i64 y.k) ∧ w1.cell? ⟨bl', off' + k * 7 + 3, none⟩ = some (.slice fa' y.fs.length fc') ∧ w1.cell? ⟨bl', off' + k * 7 + 4, none⟩ = some (.bool y.ch) ∧ w1.cell? ⟨bl', off' + k * 7 + 5, none⟩ = some (.slice ba' y.body.length bc') ∧ w1.cell? ⟨bl', off' + k * 7 + 6, none⟩ = some (.slice ta' y.ts.length tc')) from
          fun w1 hb => ⟨(hb.cell (p := ⟨bl', off' + k * 7, none⟩) hbl').trans d0, (hb.cell (p := ⟨bl', off' + k * 7 + 1, none⟩) hbl').trans d1, (hb.cell (p := ⟨bl', off' + k * 7 + 2, none⟩) hbl').trans d2, (hb.cell (p := ⟨bl', off' + k * 7 + 3, none⟩) hbl').trans d3, (hb.cell (p := ⟨bl', off' + k * 7 + 4, none⟩) hbl').trans d4, (hb.cell (p := ⟨bl', off' + k * 7 + 5, none⟩) hbl').trans d5, (hb.cell (p := ⟨bl', off' + k * 7 + 6, none⟩) hbl').trans d6⟩)
        have i1 : (k : Int) < (n : Int) := by omega
        clear hr1 hr2 f1 f2 c0 c1 c2 c3 c4 c5 c6 d0 d1 d2 d3 d4 d5 d6
        have hdr := Lib.hid (Base.below_drewN (Below.refl wr.heap.size wr) 1)
        obtain ⟨z, hz⟩ : ∃ z, same x y = z := ⟨_, rfl⟩
        rw [hz] at HC
        have HZ := Lib.hid hz
        clear hz
        go_wp2_with fail
        refine Each.region_all 10 [17, 18, 19, 20, 21, 22, 23, 24, 25, 26]
            [fun v _ => v = .slice (some ⟨bl, off, none⟩) n cap,
              fun v _ => v = .int .i64 ((k : Nat) : Int),
              fun v _ => v = .pointer (some ⟨bl, off + k * 7, none⟩),
              fun v _ => v = .agg #[.string x.m, .string x.x, .int .i64 x.k, .slice fa x.fs.length fc, .bool x.ch, .slice ba x.body.length bc, .slice ta x.ts.length tc],
              fun v _ => v = (.slice (some ⟨bl', off', none⟩) n cap2),
              fun v _ => v = .int .i64 ((k : Nat) : Int),
              fun v _ => v = .pointer (some ⟨bl', off' + k * 7, none⟩),
              fun v _ => v = .agg #[.string y.m, .string y.x, .int .i64 y.k, .slice fa' y.fs.length fc', .bool y.ch, .slice ba' y.body.length bc', .slice ta' y.ts.length tc'],
              fun v _ => v = .bool z,
              fun v _ => v = .bool (!z)]
             (by kernel_rfl) (by kernel_rfl) (by kernel_rfl) (by kernel_rfl) (fun _ _ d _ _ h => by cases d <;> exact h) (by rfl) (by rfl)
            ⟨Each.Lasts.eq _, Each.Lasts.eq _, Each.Lasts.eq _, Each.Lasts.eq _, Each.Lasts.eq _, Each.Lasts.eq _, Each.Lasts.eq _, Each.Lasts.eq _, Each.Lasts.eq _, Each.Lasts.eq _, trivial⟩ ?_ ?_
        · refine ⟨?_, ?_, ?_, ?_, ?_, ?_, ?_, ?_, ?_, ?_, trivial⟩
          · refine Each.fine rfl (fun ev w1 hR hb hh => ?_)
            clear hh
            have e0 := hR.old 0 rfl
            simp only [Array.getD_eq_getD_getElem?, List.getElem?_toArray, List.getElem?_cons_zero, Option.getD_some] at e0
            refine Each.Goes.same ?_
            go_simp
            try with_reducible rfl
          · refine Each.fine rfl (fun ev w1 hR hb hh => ?_)
            clear hh
            have e5 := hR.old 5 rfl
            simp only [Array.getD_eq_getD_getElem?, List.getElem?_toArray, List.getElem?_cons_succ, List.getElem?_cons_zero, Option.getD_some] at e5
            refine Each.Goes.same ?_
            go_simp
            try with_reducible rfl
          · refine Each.fine rfl (fun ev w1 hR hb hh => ?_)
            have e17 : (ev (.tmp 17) = .slice (some ⟨bl, off, none⟩) n cap) := hh.at 0
            have e18 : (ev (.tmp 18) = .int .i64 ((k : Nat) : Int)) := hh.at 1
            clear hh
            refine Each.Goes.same ?_
            go_simp
            try with_reducible rfl
          · refine Each.fine rfl (fun ev w1 hR hb hh => ?_)
            have e19 : (ev (.tmp 19) = .pointer (some ⟨bl, off + k * 7, none⟩)) := hh.at 0
            clear hh
            obtain ⟨q0, q1, q2, q3, q4, q5, q6⟩ := HCE.out w1 (hdr.out.trans (hb.mono (Nat.le_refl _)))
            refine Each.Goes.same ?_
            go_simp
            try with_reducible rfl
          · refine Each.fine rfl (fun ev w1 hR hb hh => ?_)
            clear hh
            have e1 := hR.old 1 rfl
            simp only [Array.getD_eq_getD_getElem?, List.getElem?_toArray, List.getElem?_cons_succ, List.getElem?_cons_zero, Option.getD_some] at e1
            refine Each.Goes.same ?_
            go_simp
            try with_reducible rfl
          · refine Each.fine rfl (fun ev w1 hR hb hh => ?_)
            clear hh
            have e5 := hR.old 5 rfl
            simp only [Array.getD_eq_getD_getElem?, List.getElem?_toArray, List.getElem?_cons_succ, List.getElem?_cons_zero, Option.getD_some] at e5
            refine Each.Goes.same ?_
            go_simp
            try with_reducible rfl
          · refine Each.fine rfl (fun ev w1 hR hb hh => ?_)
            have e21 : (ev (.tmp 21) = (.slice (some ⟨bl', off', none⟩) n cap2)) := hh.at 0
            have e22 : (ev (.tmp 22) = .int .i64 ((k : Nat) : Int)) := hh.at 1
            clear hh
            refine Each.Goes.same ?_
            go_simp
            try with_reducible rfl
          · refine Each.fine rfl (fun ev w1 hR hb hh => ?_)
            have e23 : (ev (.tmp 23) = .pointer (some ⟨bl', off' + k * 7, none⟩)) := hh.at 0
            clear hh
            obtain ⟨q0, q1, q2, q3, q4, q5, q6⟩ := HCD.out w1 (hdr.out.trans (hb.mono (Nat.le_refl _)))
            refine Each.Goes.same ?_
            go_simp
            try with_reducible rfl
          · refine Each.fine rfl (fun ev w1 hR hb hh => ?_)
            have e20 : (ev (.tmp 20) = .agg #[.string x.m, .string x.x, .int .i64 x.k, .slice fa x.fs.length fc, .bool x.ch, .slice ba x.body.length bc, .slice ta x.ts.length tc]) := hh.at 0
            have e24 : (ev (.tmp 24) = .agg #[.string y.m, .string y.x, .int .i64 y.k, .slice fa' y.fs.length fc', .bool y.ch, .slice ba' y.body.length bc', .slice ta' y.ts.length tc']) := hh.at 1
            clear hh
            have ef := hR.func
            refine Each.Goes.enter 39 #[.agg #[.string x.m, .string x.x, .int .i64 x.k, .slice fa x.fs.length fc, .bool x.ch, .slice ba x.body.length bc, .slice ta x.ts.length tc], .agg #[.string y.m, .string y.x, .int .i64 y.k, .slice fa' y.fs.length fc', .bool y.ch, .slice ba' y.body.length bc', .slice ta' y.ts.length tc']] (by go_simp) ((HC.out w1 (hdr.out.trans (hb.mono (Nat.le_refl _)))).mono ?_)
            rintro e w2 ⟨rfl, hb2⟩
            exact ⟨_, rfl, hb2, rfl⟩
          · refine Each.fine rfl (fun ev w1 hR hb hh => ?_)
            have e25 : (ev (.tmp 25) = .bool z) := hh.at 0
            clear hh
            refine Each.Goes.same ?_
            go_simp
            try with_reducible rfl
        intro g1 w2 hb hf
        have z26 : (g1 26 = .bool (!z)) := hf.at 9
        clear hf
        simp only [Each.putg, Act.put, List.setIfInBounds_toArray, List.set_cons_zero, List.set_cons_succ]
        rw [z26]
        have H3 := Lib.hid (Base.below_step hbr.out hb)
        clear hb
        cases z with
        | true =>
          have HE := Lib.hid (HN.out ((same_iff _ _).1 HZ.out))
          clear HN HX HZ
          go_wp2
          go_roundw
          case rel => exact ⟨k + 1, by omega, by go_num, HE, H3⟩
          case measure => simp [intOf]; omega
        | false =>
          have HE := Lib.hid (show B = false by
            rw [← HB.out, Bool.eq_false_iff]
            intro e
            have := (same_iff _ _).2 (HX.out ((all_iff _ _).1 e))
            rw [HZ.out] at this; cases this)
          clear HN HX HZ
          go_wp2
          go_ret
          exact ⟨by first | rfl | (rw [HE.out]; rfl), H3.out⟩
      · obtain rfl : k = n := by omega
        have HE := Lib.hid (show B = true by
          rw [← HB.out, all_iff]
          have := hpre.out
          rwa [List.take_of_length_le (by rw [HL.out]; omega), List.take_of_length_le (by rw [HM.out]; omega)] at this)
        clear hpre
        go_wp2
        go_ret
        exact ⟨by first | rfl | (rw [HE.out]; rfl), hbr.out⟩
  · have e : all rs qs = false := all_len rs qs (by rw [hv.1, hu.1]; exact hnm)
    have t0 : ((n : Int) == (m : Int)) = false := by rw [beq_eq_false_iff_ne]; omega
    have t1 : ¬ (n : Int) = (m : Int) := by omega
    rw [e]
    clear hv hu hf hg e hnm
    go_enter Tryz.func24, Tryz.ntmps24
    go_wp2
    go_ret
    exact ⟨rfl, Below.refl _ _⟩
end code
end Go.Proofs.YtbineebnhjifiaaGreatDoor.Rec
/- FltW -/
namespace Go.Proofs.YtbineebnhjifiaaGreatDoor.Flt
open Go.RowKit Base Txt Par Pg

/-- The strict reader, the lenient one, the error (none: it passes), and whether the two part. -/
structure F where
  x : Q
  y : Q
  code : Nat
  parted : Bool
def F.judge (f : F) (s l : Nat) (alike : Bool) : F :=
  if s ≠ 0 then { f with code := s, parted := l == 0 } else if (!(l == 0) || !alike) = true then { f with code := 400, parted := true } else f
section
variable (p : Nat) (b : Bd)
/-- A byte, looked at; what both tell. -/
def F.look (f : F) (c : UInt8) : F × List Rec.R :=
  let x := f.x.byte 0 b c
  let y := f.y.byte p b c
  (F.judge ⟨x.told, y.told, f.code, f.parted⟩ x.err y.err (Rec.all x.out y.out), if Rec.all x.out y.out = true then x.out else [])
def F.byte (f : F) (c : UInt8) : F × List Rec.R := if f.code = 0 then f.look p b c else (f, [])
def F.feed : F → List UInt8 → F × List Rec.R
  | f, [] => (f, [])
  | f, c :: l => ((F.feed (f.byte p b c).1 l).1, (f.byte p b c).2 ++ (F.feed (f.byte p b c).1 l).2)
def F.new : F := ⟨Q.new 0 b, Q.new p b, (Q.new p b).err, false⟩
def F.held (f : F) : Nat := max f.x.held f.y.held
end
section
variable {p : Nat} {b : Bd}
theorem told_out (x : Q) : x.told.out = [] := by cases x <;> rfl
/-- What holds behind any bytes: it passes, and both readers are where the strict one is; or it blocks with the strict one's error. -/
def F.Just (p : Nat) (b : Bd) (f : F) : Prop :=
  (f.code = 0 ∧ f.parted = false ∧ ∃ t, f.x = .live t ∧ t.Strict ∧ t.out = [] ∧ f.y = .live (t.wide p) ∧ t.Ok ∧ b.right = true ∧ ∃ s, RR 0 b t s) ∨ (f.code ≠ 0 ∧ ∃ o, f.x = .dead f.code o)
theorem all_self (l : List Rec.R) : Rec.all l l = true := (Rec.all_iff l l).2 rfl
theorem Ok.fit {t : T} (h : t.Ok) : Rec.Fit t.r :=
  ⟨by have := h.m; omega, by have := h.x; omega, by have := h.fsl; have := h.hl; omega, fun y hy => by have := h.fss y hy; have := h.hl; omega, by have := h.body; omega, by have := h.tsl; have := h.bl; omega, fun y hy => by have := h.tss y hy; have := h.bl; omega⟩
theorem line_told (t : T) (s : List UInt8) : (t.line p b s).2.out = t.out ∨ (t.line p b s).2.out = t.out ++ [t.r] := by
  unfold T.line
  split
  · unfold T.first
    split
    · exact .inl rfl
    · simp only
      split <;> exact .inl rfl
  · split
    · unfold T.fields
      split
      · unfold T.endHead
        simp only
        split
        · exact .inl rfl
        · split
          · exact .inl rfl
          · split
            · exact .inr rfl
            · exact .inl rfl
      · exact .inl rfl
    · split
      · unfold T.chunk
        simp only
        split
        · exact .inl rfl
        · split
          · exact .inl rfl
          · split <;> exact .inl rfl
      · split
        · unfold T.trail
          split
          · exact .inr rfl
          · exact .inl rfl
        · exact .inl rfl
theorem ends_out (x : Nat × T) : (ends x).out = x.2.out := by unfold ends; split <;> rfl
def Fits (o : List Rec.R) : Prop := ∀ r ∈ o, Rec.Fit r
theorem inLine_fits {t : T} (h : Fits t.out) (ok : t.Ok) (c : UInt8) : Fits (t.inLine p b c).1.out := by
  unfold T.inLine
  simp only
  split
  · exact h
  · split
    · exact h
    · split
      · split
        · exact h
        · exact h
      · show Fits (ends _).out
        rw [ends_out]
        have hf : Rec.Fit t.r := Ok.fit ok
        rcases line_told (p := p) (b := b) { t with rd := t.rd.byte c } (t.rd.byte c).line with e | e
        · rw [e]; exact h
        · rw [e]
          intro r hr
          rcases List.mem_append.1 hr with hr | hr
          · exact h r hr
          · rw [List.mem_singleton.1 hr]; exact hf
theorem look_fits {t : T} (h : Fits t.out) (ok : t.Ok) (hb : b.right = true) (c : UInt8) : Fits (t.look p b c).1.out := by
  unfold T.look
  split
  · rename_i hs
    have hk : Rec.Fit (t.keep c).r := by
      have h1 := Ok.fit ok
      have h2 := ok.left hs
      exact ⟨h1.m, h1.x, h1.fs, h1.f, by have := ok.body; show (t.r.body ++ [c]).length ≤ _; rw [List.length_append, List.length_singleton]; omega, h1.ts, h1.t⟩
    show Fits (if t.left = 1 then (t.keep c).endData p else t.keep c).out
    split
    · unfold T.endData
      split
      · exact h
      · intro r hr
        rcases List.mem_append.1 hr with hr | hr
        · exact h r hr
        · rw [List.mem_singleton.1 hr]; exact hk
    · exact h
  · split
    · rename_i hh
      split
      · show Fits t.out
        exact h
      · rename_i hx
        exact inLine_fits (by rw [counted_out]; exact h) (ok.counted hb hx) c
    · exact inLine_fits h ok c
theorem byte_fits {x : Q} (h : Fits x.out) (ok : x.Fine b) (c : UInt8) : Fits (x.byte p b c).out := by
  cases x with
  | dead e o => exact h
  | live t =>
    obtain ⟨h1, h2⟩ := ok
    show Fits (t.take p b c).out
    unfold T.take
    have k1 := look_fits (p := p) (b := b) (t := { t with cnt := false }) h h1.cleared h2 c
    rcases hq : T.look p b { t with cnt := false } c with ⟨q, u⟩
    rw [hq] at k1
    cases q with
    | dead e o => cases u <;> exact k1
    | live t1 =>
      cases u with
      | true => exact k1
      | false => exact look_fits k1 (h1.cleared.look h2 c (by rw [hq])) h2 c
end
end Go.Proofs.YtbineebnhjifiaaGreatDoor.Flt
/- Two -/
namespace Go.Proofs.YtbineebnhjifiaaGreatDoor.Each
open Go.RowKit Base Mem Par

/-- What lies in blocks of its own, ahead of a call and behind it. -/
structure Thing (A A' : World → List (Option Nat) → Prop) : Prop where
  keeps : ∀ {w w' : World} {L M : List (Option Nat)}, A w L → Keeps M w w' → (∀ k, some k ∈ L → some k ∉ M) → A w' L
  keeps' : ∀ {w w' : World} {L M : List (Option Nat)}, A' w L → Keeps M w w' → (∀ k, some k ∈ L → some k ∉ M) → A' w' L
  inn : ∀ {w : World} {L : List (Option Nat)}, A w L → In w L
  inn' : ∀ {w : World} {L : List (Option Nat)}, A' w L → In w L
  uniq : ∀ {w : World} {L L' : List (Option Nat)}, (A w L ∨ A' w L) → (A w L' ∨ A' w L') → L = L'
theorem Thing.now {A A' : World → List (Option Nat) → Prop} (h : Thing A A') {w w' : World} {L M : List (Option Nat)} (hA : A w L ∨ A' w L) (hk : Keeps M w w') (hd : ∀ k, some k ∈ L → some k ∉ M) : A w' L ∨ A' w' L :=
  hA.imp (fun h1 => h.keeps h1 hk hd) (fun h1 => h.keeps' h1 hk hd)
theorem Thing.in {A A' : World → List (Option Nat) → Prop} (h : Thing A A') {w : World} {L : List (Option Nat)} (hA : A w L ∨ A' w L) : In w L := hA.elim h.inn h.inn'
def Dis (L M : List (Option Nat)) : Prop := ∀ k, some k ∈ L → some k ∉ M
theorem Dis.symm {L M : List (Option Nat)} (h : Dis L M) : Dis M L := fun k hM hL => h k hL hM
theorem Dis.of {W : World} {L M M' : List (Option Nat)} (h : Dis L M) (hin : In W L) (ho : Of W M M') : Dis L M' := fun k hL hM => by
  rcases ho k hM with e | e
  · exact h k hL e
  · have := hin k hL; omega
section
variable {P : Program} {l : List Oper} {Q : Exit → Act → World → Prop} {fs : List Fact} {a0 : Act} {ds : List Nat}
variable (A A' C C' : World → List (Option Nat) → Prop) (L1 L2 : List (Option Nat)) (i1 i2 : Nat) (W : World)
structure Two (b : Array Bool) (w : World) : Prop where
  keeps : Keeps (L1 ++ L2) W w
  both : ∃ M1 M2, (A' w M1 ∧ b.getD i1 false = true ∨ A w M1 ∧ M1 = L1) ∧ (C' w M2 ∧ b.getD i2 false = true ∨ C w M2 ∧ M2 = L2) ∧ Dis M1 M2 ∧ Of W L1 M1 ∧ Of W L2 M2
def RTwo (k : Nat) (w w' : World) : Prop :=
  if k = i1 then w' = w ∨ ∃ M1, A' w' M1 ∧ Step L1 M1 w w' else if k = i2 then w' = w ∨ ∃ M2, C' w' M2 ∧ Step L2 M2 w w' else Below w.heap.size w w'
variable {A A' C C' L1 L2 i1 i2 W}
theorem Two.step (hA : Thing A A') (hC : Thing C C') (h12 : i1 ≠ i2) {b : Array Bool} {k : Nat} {w w' : World} (hks : k < b.size) (hbk : b.getD k false = false) (h : Two A A' C C' L1 L2 i1 i2 W b w) (hR : RTwo A' C' L1 L2 i1 i2 k w w') : Two A A' C C' L1 L2 i1 i2 W (b.setIfInBounds k true) w' := by
  obtain ⟨hk, M1, M2, h1, h2, h3, h4, h5⟩ := h
  have hin1 : In w M1 := h1.elim (fun h => hA.inn' h.1) (fun h => hA.inn h.1)
  have hin2 : In w M2 := h2.elim (fun h => hC.inn' h.1) (fun h => hC.inn h.1)
  have g1 : (b.setIfInBounds k true).getD i1 false = if i1 = k then true else b.getD i1 false := get_set b k i1 hks
  have g2 : (b.setIfInBounds k true).getD i2 false = if i2 = k then true else b.getD i2 false := get_set b k i2 hks
  have up1 : b.getD i1 false = true → (b.setIfInBounds k true).getD i1 false = true := fun e => by rw [g1, e]; split <;> rfl
  have up2 : b.getD i2 false = true → (b.setIfInBounds k true).getD i2 false = true := fun e => by rw [g2, e]; split <;> rfl
  unfold RTwo at hR
  by_cases e1 : k = i1
  · rw [if_pos e1] at hR
    subst e1
    have h1' : A w M1 ∧ M1 = L1 := by
      rcases h1 with ⟨-, h⟩ | h
      · rw [hbk] at h; cases h
      · exact h
    rcases hR with rfl | ⟨M1', hA', hs⟩
    · exact ⟨hk, M1, M2, .inr h1', h2.imp (fun h => ⟨h.1, up2 h.2⟩) id, h3, h4, h5⟩
    · have e := h1'.2; subst e
      have hd : Dis M2 M1' := h3.symm.of hin2 hs.of
      exact ⟨hk.trans (hs.keeps.mono fun k hk => List.mem_append_left _ hk) Of.refl, M1', M2, .inl ⟨hA', by rw [g1, if_pos rfl]⟩,
        h2.imp (fun h => ⟨hC.keeps' h.1 hs.keeps h3.symm, up2 h.2⟩) (fun h => ⟨hC.keeps h.1 hs.keeps h3.symm, h.2⟩), hd.symm, h4.trans hs.of hk.size, h5⟩
  · rw [if_neg e1] at hR
    by_cases e2 : k = i2
    · rw [if_pos e2] at hR
      subst e2
      have h2' : C w M2 ∧ M2 = L2 := by
        rcases h2 with ⟨-, h⟩ | h
        · rw [hbk] at h; cases h
        · exact h
      rcases hR with rfl | ⟨M2', hC', hs⟩
      · exact ⟨hk, M1, M2, h1.imp (fun h => ⟨h.1, up1 h.2⟩) id, .inr h2', h3, h4, h5⟩
      · have e := h2'.2; subst e
        have hd : Dis M1 M2' := h3.of hin1 hs.of
        exact ⟨hk.trans (hs.keeps.mono fun k hk => List.mem_append_right _ hk) Of.refl, M1, M2', h1.imp (fun h => ⟨hA.keeps' h.1 hs.keeps h3, up1 h.2⟩) (fun h => ⟨hA.keeps h.1 hs.keeps h3, h.2⟩),
          .inl ⟨hC', by rw [g2, if_pos rfl]⟩, hd, h4, h5.trans hs.of hk.size⟩
    · rw [if_neg e2] at hR
      have hkb : Keeps [] w w' := Keeps.of_below hR
      exact ⟨hk.trans hkb (fun k hk => by cases hk), M1, M2, h1.imp (fun h => ⟨hA.keeps' h.1 hkb (by simp), up1 h.2⟩) (fun h => ⟨hA.keeps h.1 hkb (by simp), h.2⟩),
        h2.imp (fun h => ⟨hC.keeps' h.1 hkb (by simp), up2 h.2⟩) (fun h => ⟨hC.keeps h.1 hkb (by simp), h.2⟩), h3, h4, h5⟩
/-- An operation that changes neither. -/
theorem fine_two {k : Nat} {o : Oper} {f : Fact} (h1 : k ≠ i1) (h2 : k ≠ i2) (hg : o.guard = none) (h : ∀ (ev : Operand → Value) (w : World), Reads a0 ds ev → Keeps (L1 ++ L2) W w → has l fs ev w o.after.toList → Goes P o ev f w) :
    FineR P l fs (RTwo A' C' L1 L2 i1 i2) (Two A A' C C' L1 L2 i1 i2 W) a0 ds k o f :=
  fun ev _ w hr hK _ hh => ⟨fun _ => (h ev w hr hK.keeps hh).gen fun w' hb => by unfold RTwo; rw [if_neg h1, if_neg h2]; exact hb, fun hw => by simp [Region.wanted, hg] at hw⟩
/-- The call on the first. -/
theorem fine_first {o : Oper} {f : Fact} (hg : o.guard = none) (h : ∀ (ev : Operand → Value) (w : World) (M2 : List (Option Nat)), Reads a0 ds ev → Keeps (L1 ++ L2) W w → A w L1 → (C w M2 ∨ C' w M2) → Dis L1 M2 → has l fs ev w o.after.toList →
      GoesR P o ev f (fun w w' => ∃ M1, A' w' M1 ∧ Step L1 M1 w w') w) :
    FineR P l fs (RTwo A' C' L1 L2 i1 i2) (Two A A' C C' L1 L2 i1 i2 W) a0 ds i1 o f := by
  intro ev b w hr hK hb hh
  refine ⟨fun _ => ?_, fun hw => by simp [Region.wanted, hg] at hw⟩
  obtain ⟨hk, M1, M2, h1, h2, h3, h4, h5⟩ := hK
  have h1' : A w M1 ∧ M1 = L1 := by
    rcases h1 with ⟨-, h⟩ | h
    · rw [hb] at h; cases h
    · exact h
  have e := h1'.2; subst e
  have hR : RTwo A' C' M1 L2 i1 i2 i1 = fun w w' => w' = w ∨ ∃ M1', A' w' M1' ∧ Step M1 M1' w w' := by funext w w'; unfold RTwo; rw [if_pos rfl]
  rw [hR]
  cases h ev w M2 hr hk h1'.1 (h2.elim (fun h => .inr h.1) (fun h => .inl h.1)) h3 hh with
  | value v w' hrun hb hf => exact .value v w' hrun (.inr hb) hf
  | enter g args hrun hc =>
    refine .enter g args hrun (hc.mono ?_)
    rintro e w' ⟨v, rfl, hb, hfv⟩
    exact ⟨v, rfl, .inr hb, hfv⟩
/-- The call on the second. -/
theorem fine_second {o : Oper} {f : Fact} (h12 : i1 ≠ i2) (hg : o.guard = none) (h : ∀ (ev : Operand → Value) (w : World) (M1 : List (Option Nat)), Reads a0 ds ev → Keeps (L1 ++ L2) W w → C w L2 → (A w M1 ∨ A' w M1) → Dis L2 M1 → has l fs ev w o.after.toList →
      GoesR P o ev f (fun w w' => ∃ M2, C' w' M2 ∧ Step L2 M2 w w') w) :
    FineR P l fs (RTwo A' C' L1 L2 i1 i2) (Two A A' C C' L1 L2 i1 i2 W) a0 ds i2 o f := by
  intro ev b w hr hK hb hh
  refine ⟨fun _ => ?_, fun hw => by simp [Region.wanted, hg] at hw⟩
  obtain ⟨hk, M1, M2, h1, h2, h3, h4, h5⟩ := hK
  have h2' : C w M2 ∧ M2 = L2 := by
    rcases h2 with ⟨-, h⟩ | h
    · rw [hb] at h; cases h
    · exact h
  have e := h2'.2; subst e
  have hR : RTwo A' C' L1 M2 i1 i2 i2 = fun w w' => w' = w ∨ ∃ M2', C' w' M2' ∧ Step M2 M2' w w' := by funext w w'; unfold RTwo; rw [if_neg h12.symm, if_pos rfl]
  rw [hR]
  cases h ev w M1 hr hk h2'.1 (h1.elim (fun h => .inr h.1) (fun h => .inl h.1)) h3.symm hh with
  | value v w' hrun hb hf => exact .value v w' hrun (.inr hb) hf
  | enter g args hrun hc =>
    refine .enter g args hrun (hc.mono ?_)
    rintro e w' ⟨v, rfl, hb, hfv⟩
    exact ⟨v, rfl, .inr hb, hfv⟩
/-- Operation k waits for operation j itself. -/
def waits (l : List Oper) (k j : Nat) : Bool := match l[k]? with
  | some o => o.after.toList.any fun e => Region.binds .any e && e.on == j
  | none => false
/-- The fact of operation k lasts behind the others. -/
def LastsTwo (l : List Oper) (A' C' : World → List (Option Nat) → Prop) (L1 L2 : List (Option Nat)) (i1 i2 k : Nat) (f : Fact) : Prop :=
  (∀ v w w', Below w.heap.size w w' → f v w → f v w') ∧ (k ≠ i1 → waits l k i1 = false → ∀ v w w' M1, A' w' M1 → Step L1 M1 w w' → f v w → f v w') ∧ (k ≠ i2 → waits l k i2 = false → ∀ v w w' M2, C' w' M2 → Step L2 M2 w w' → f v w → f v w')
theorem LastsTwo.pure (k : Nat) (p : Value → Prop) : LastsTwo l A' C' L1 L2 i1 i2 k (fun v _ => p v) := ⟨fun _ _ _ _ h => h, fun _ _ _ _ _ _ _ _ h => h, fun _ _ _ _ _ _ _ _ h => h⟩
/-- What lasts while all but L1 and L2 stays. -/
theorem LastsTwo.keeps {k : Nat} {f : Fact} (h : ∀ v w w' M, (∀ k, some k ∈ M → some k ∈ L1 ++ L2) → Keeps M w w' → f v w → f v w') : LastsTwo l A' C' L1 L2 i1 i2 k f :=
  ⟨fun v w w' hb hf => h v w w' [] (by intro k hk; cases hk) (Keeps.of_below hb) hf, fun _ _ v w w' _ _ hs hf => h v w w' L1 (fun _ hk => List.mem_append_left _ hk) hs.keeps hf, fun _ _ v w w' _ _ hs hf => h v w w' L2 (fun _ hk => List.mem_append_right _ hk) hs.keeps hf⟩
def EveryTwo (l : List Oper) (A' C' : World → List (Option Nat) → Prop) (L1 L2 : List (Option Nat)) (i1 i2 : Nat) : Nat → List Fact → Prop
  | _, [] => True
  | k, f :: fs => LastsTwo l A' C' L1 L2 i1 i2 k f ∧ EveryTwo l A' C' L1 L2 i1 i2 (k + 1) fs
theorem everyTwo_at : ∀ {fs : List Fact} {n : Nat}, EveryTwo l A' C' L1 L2 i1 i2 n fs → ∀ (k : Nat) (f : Fact), fs[k]? = some f → LastsTwo l A' C' L1 L2 i1 i2 (n + k) f
  | [], _, _, k, f, hf => by simp at hf
  | g :: fs, n, h, 0, f, hf => by simp at hf; subst hf; exact h.1
  | g :: fs, n, h, k + 1, f, hf => by
    have := everyTwo_at h.2 k f (by simpa using hf)
    rw [show n + (k + 1) = n + 1 + k by omega]
    exact this
def AllTwo (P : Program) (l : List Oper) (fs : List Fact) (R : Nat → World → World → Prop) (K : Array Bool → World → Prop) (a0 : Act) (ds : List Nat) : Nat → List Oper → List Fact → Prop
  | k, o :: os, f :: gs => FineR P l fs R K a0 ds k o f ∧ AllTwo P l fs R K a0 ds (k + 1) os gs
  | _, _, _ => True
theorem allTwo_at {R : Nat → World → World → Prop} {K : Array Bool → World → Prop} : ∀ {os : List Oper} {gs : List Fact} {n : Nat}, AllTwo P l fs R K a0 ds n os gs → ∀ (k : Nat) (o : Oper) (f : Fact), os[k]? = some o → gs[k]? = some f → FineR P l fs R K a0 ds (n + k) o f
  | [], _, _, _, k, o, f, ho, hf => by simp at ho
  | _ :: _, [], _, _, k, o, f, ho, hf => by simp at hf
  | _ :: _, _ :: _, _, h, 0, o, f, ho, hf => by simp at ho hf; subst ho hf; exact h.1
  | _ :: _, _ :: _, n, h, k + 1, o, f, ho, hf => by
    have := allTwo_at h.2 k o f (by simpa using ho) (by simpa using hf)
    rw [show n + (k + 1) = n + 1 + k by omega]
    exact this
/-- The region. -/
theorem region_two (m : Nat) (ds : List Nat) (fs : List Fact) (i1 i2 : Nat) {id : Nat} {a0 : Act} {w : World} (hA : Thing A A') (hC : Thing C C') (hA0 : A w L1) (hC0 : C w L2) (hd : Dis L1 L2)
    (hmo : P.follows .mixedOrders = true) (hg : good l m ds [] (l.length - m) = true) (hns : Region.noSelect l.toArray = true)
    (hp : Tree.fits l.toArray .done (l.length - m) (fill l.length m []) = true) (hQ : ∀ c a d v w, Q (.panic c) (Act.put a d v) w → Q (.panic c) a w)
    (hsz : ds.all (fun d => decide (d < a0.tmps.size)) = true) (hlen : fs.length = m) (hi : (decide (i1 < m) && (decide (i2 < m) && decide (i1 ≠ i2))) = true) (hlast : EveryTwo l A' C' L1 L2 i1 i2 0 fs)
    (hfine : AllTwo P l fs (RTwo A' C' L1 L2 i1 i2) (Two A A' C C' L1 L2 i1 i2 (w.drewN 1)) a0 ds 0 l fs)
    (hrest : ∀ (g : Nat → Value) (w' : World) (M1 M2 : List (Option Nat)), (A w' M1 ∨ A' w' M1) → (C w' M2 ∨ C' w' M2) → Dis M1 M2 → Of w L1 M1 → Of w L2 M2 → Keeps (L1 ++ L2) w w' → facts g w' ds fs → Q .normal (putg g ds a0) w') : (Code.region id l.toArray true).wp P Q a0 w := by
  simp only [Bool.and_eq_true, decide_eq_true_eq] at hi
  obtain ⟨hi1, hi2, h12⟩ := hi
  have hbd : Keeps [] w (w.drewN 1) := Keeps.of_below (Base.below_drewN (Below.refl w.heap.size w) 1)
  have hml : m ≤ l.length := by
    simp only [good, Bool.and_eq_true, decide_eq_true_eq] at hg
    exact hg.1
  refine region_gen (K := fun b w' => b.size = l.length ∧ Two A A' C C' L1 L2 i1 i2 (w.drewN 1) b w') (R := RTwo A' C' L1 L2 i1 i2) m ds fs [] (l.length - m) .done hmo hg hns hp hQ hsz hlen
    ⟨by simp, Keeps.refl, L1, L2, .inr ⟨hA.keeps hA0 hbd (by simp), rfl⟩, .inr ⟨hC.keeps hC0 hbd (by simp), rfl⟩, hd, Of.refl, Of.refl⟩
    (fun b k w1 w2 hk hbk hK hR => ⟨by simp [hK.1], hK.2.step hA hC h12 (by rw [hK.1]; omega) hbk hR⟩) (fun k w => ?_) (fun k j f hf hjk hwt v w1 w2 hR hv => ?_) trivial (fun k o f ho hf _ ev b w1 hr hK hb hh => ?_) (fun g w' hK hf => ?_)
  · unfold RTwo
    split
    · exact .inl rfl
    · split
      · exact .inl rfl
      · exact Below.refl _ _
  · have := everyTwo_at hlast k f hf
    rw [Nat.zero_add] at this
    obtain ⟨l1, l2, l3⟩ := this
    have hw0 : ∀ i, j = i → waits l k i = false := by
      intro i hi
      unfold waits
      cases ho : l[k]? with
      | none => rfl
      | some o =>
        rw [Bool.eq_false_iff]
        intro hh
        obtain ⟨e, he, h2⟩ := List.any_eq_true.1 hh
        rw [Bool.and_eq_true, beq_iff_eq] at h2
        exact hwt o ho e he h2.1 (h2.2.trans hi.symm)
    unfold RTwo at hR
    split at hR
    · rename_i e
      rcases hR with rfl | ⟨M1, h1, h2⟩
      · exact hv
      · exact l2 (by omega) (hw0 _ e) v w1 w2 M1 h1 h2 hv
    · split at hR
      · rename_i e
        rcases hR with rfl | ⟨M2, h1, h2⟩
        · exact hv
        · exact l3 (by omega) (hw0 _ e) v w1 w2 M2 h1 h2 hv
      · exact l1 v w1 w2 hR hv
  · have := allTwo_at hfine k o f ho hf
    rw [Nat.zero_add] at this
    exact this ev b w1 hr hK.2 hb hh
  · obtain ⟨-, hk, M1, M2, h1, h2, h3, h4, h5⟩ := hK
    rw [Tree.grow]
    have hof : ∀ {L M : List (Option Nat)}, Of (w.drewN 1) L M → Of w L M := fun h k hk => h k hk
    exact Tree.done (hrest g w' M1 M2 (h1.elim (fun h => .inr h.1) (fun h => .inl h.1)) (h2.elim (fun h => .inr h.1) (fun h => .inl h.1)) h3 (hof h4) (hof h5) (Keeps.trans (hbd.mono fun k hk => by cases hk) hk Of.refl) hf)
end
end Go.Proofs.YtbineebnhjifiaaGreatDoor.Each
/- PgPair -/
namespace Go.Proofs.YtbineebnhjifiaaGreatDoor.Pg
open Go.RowKit Base Txt Mem Par Each

section
variable {w w' : World} {B : Zone} {g q : Nat} {v f bd t o : Value} {p : Nat} {b : Bd} {L M : List (Option Nat)} {x : Q} {rd : Ln.M} {fs ts : List Fld} {body : List UInt8}
theorem outs_nil (h : Outs L B w o []) : w.ownsRow B 58 7 o 0 [] := by
  obtain ⟨ps, h1, h2, h3⟩ := h
  have hps : ps = [] := List.map_eq_nil_iff.1 h1
  subst hps
  exact h3
theorem outs_of {L' : List (Option Nat)} {B' : Zone} (h : w.ownsRow B'.b 58 7 o 0 []) : Outs L' B' w o [] := ⟨[], rfl, (by intro x hx; cases hx), h⟩
theorem Own.keeps (h : Own w B g q v f bd t o rd fs body ts []) (hk : Keeps M w w') (hd : Dis (blks g q v f bd t o) M) : Own w' B g q v f bd t o rd fs body ts [] :=
  ⟨⟨hk.row h.R.row (hd q (by simp)), hk.own h.R.own fun k e => hd k (by simp [← e]), h.R.ge, h.R.ne⟩, hk.own h.F fun k e => hd k (by simp [← e]), hk.own h.D fun k e => hd k (by simp [← e]), hk.own h.TR fun k e => hd k (by simp [← e]),
    outs_of (hk.own (outs_nil h.O) fun k e => hd k (by simp [← e])), h.lone, h.ge, Nat.lt_of_lt_of_le h.lt hk.size, h.zone.of hk.size Of.refl⟩
theorem Own.rezone (h : Own w B g q v f bd t o rd fs body ts []) {Z : List (Option Nat)} (hz : Clear w Z (blks g q v f bd t o)) : Own w ⟨B.b, Z⟩ g q v f bd t o rd fs body ts [] :=
  ⟨h.R, h.F, h.D, h.TR, outs_of (outs_nil (B := B) h.O), h.lone, h.ge, h.lt, hz⟩
theorem At.keeps (h : At w B g p b L x) (ho : x.out = []) (hk : Keeps M w w') (hd : Dis L M) : At w' B g p b L x := by
  cases x with
  | live s =>
    obtain ⟨q, v, f, bd, t, o, rfl, h1, h2⟩ := h
    have ho : s.out = [] := ho
    rw [ho] at h2
    refine ⟨q, v, f, bd, t, o, rfl, hk.row h1 (hd g (by simp)), ?_⟩
    rw [ho]
    exact h2.keeps hk hd
  | dead e out =>
    obtain ⟨o, rfl, h⟩ := h
    have ho : out = [] := ho
    subst ho
    exact ⟨o, rfl, hk.row h.row (hd g (by simp)), outs_of (hk.own (outs_nil h.O) fun k e => hd k (by simp [← e])), h.ne, h.ge, Nat.lt_of_lt_of_le h.lt hk.size, h.bad, h.zone.of hk.size Of.refl⟩
theorem At.rezone (h : At w B g p b L x) (ho : x.out = []) {Z : List (Option Nat)} (hz : Clear w Z L) : At w ⟨B.b, Z⟩ g p b L x := by
  cases x with
  | live s =>
    obtain ⟨q, v, f, bd, t, o, rfl, h1, h2⟩ := h
    have ho : s.out = [] := ho
    rw [ho] at h2
    refine ⟨q, v, f, bd, t, o, rfl, h1, ?_⟩
    rw [ho]
    exact h2.rezone hz
  | dead e out =>
    obtain ⟨o, rfl, h⟩ := h
    have ho : out = [] := ho
    subst ho
    exact ⟨o, rfl, h.row, outs_of (outs_nil (B := B) h.O), h.ne, h.ge, h.lt, h.bad, hz⟩
theorem cells_inj {a c : List Value} {ty : TypeId} {fr : Nat × Nat} (h1 : w.heap[g]? = some (.cells a.toArray ty fr)) (h2 : w.heap[g]? = some (.cells c.toArray ty fr)) : a = c := by
  have h3 := h1.symm.trans h2
  simp only [Option.some.injEq, Obj.cells.injEq, and_true] at h3
  simpa using h3
theorem At.uniq {B' : Zone} {p' : Nat} {b' : Bd} {x' : Q} {L' : List (Option Nat)} (h : At w B g p b L x) (h' : At w B' g p' b' L' x') : L = L' := by
  cases x with
  | live s =>
    obtain ⟨q, v, f, bd, t, o, rfl, h1, h2⟩ := h
    cases x' with
    | live s' =>
      obtain ⟨q', v', f', bd', t', o', rfl, h1', h2'⟩ := h'
      have e := cells_inj h1 h1'
      have e2 : f = f' := (List.cons.inj (List.cons.inj (List.cons.inj e).2).2).1
      have e9 : t = t' := Option.some.inj (congrArg (fun l : List Value => l[9]?) e)
      have e11 : bd = bd' := Option.some.inj (congrArg (fun l : List Value => l[11]?) e)
      have e25 : ptr q = ptr q' := Option.some.inj (congrArg (fun l : List Value => l[25]?) e)
      have e26 : o = o' := Option.some.inj (congrArg (fun l : List Value => l[26]?) e)
      have eq : q = q' := by simpa using e25
      subst eq e2 e9 e11 e26
      have hr := h2.R.row.symm.trans h2'.R.row
      have ev : v = v' := by
        simp only [Option.some.injEq, Obj.cells.injEq, and_true] at hr
        have h9 := congrArg (fun a : Array Value => a.toList) hr
        simp at h9
        exact h9.2.2.2.1
      rw [ev]
    | dead e' out' =>
      obtain ⟨o', rfl, h'⟩ := h'
      have e := cells_inj h1 h'.row
      have e25 : ptr q = .pointer none := Option.some.inj (congrArg (fun l : List Value => l[25]?) e)
      cases e25
  | dead e out =>
    obtain ⟨o, rfl, h⟩ := h
    cases x' with
    | live s' =>
      obtain ⟨q', v', f', bd', t', o', rfl, h1', h2'⟩ := h'
      have e := cells_inj h.row h1'
      have e25 : Value.pointer none = ptr q' := Option.some.inj (congrArg (fun l : List Value => l[25]?) e)
      cases e25
    | dead e' out' =>
      obtain ⟨o', rfl, h'⟩ := h'
      have e := cells_inj h.row h'.row
      have e26 : o = o' := Option.some.inj (congrArg (fun l : List Value => l[26]?) e)
      rw [e26]
/-- A parser as an object: ahead of a call and behind it. -/
theorem obj_at {B : Zone} {g p p' : Nat} {b b' : Bd} {x x' : Q} (hx : x.out = []) (hx' : x'.out = []) : Thing (fun w L => ∃ Z, At w ⟨B.b, Z⟩ g p b L x) (fun w L => ∃ Z, At w ⟨B.b, Z⟩ g p' b' L x') where
  keeps := fun ⟨Z, h⟩ hk hd => ⟨Z, h.keeps hx hk hd⟩
  keeps' := fun ⟨Z, h⟩ hk hd => ⟨Z, h.keeps hx' hk hd⟩
  inn := fun ⟨_, h⟩ => h.in
  inn' := fun ⟨_, h⟩ => h.in
  uniq := fun h h' => by
    rcases h with ⟨_, h⟩ | ⟨_, h⟩ <;> rcases h' with ⟨_, h'⟩ | ⟨_, h'⟩ <;> exact h.uniq h'
/-- What was told stays where only blocks of its zone change. -/
theorem Told.keeps {out : List Rec.R} (h : Told L B w o out) (hk : Keeps M w w') (hM : ∀ k, some k ∈ M → some k ∈ B.z) : Told L B w' o out := by
  obtain ⟨ps, h1, h2, h3⟩ := h.outs
  refine ⟨⟨ps, h1, fun x hx => ⟨(h2 x hx).1, ?_⟩, hk.own h3 fun k e hm => h.off k e (hM k hm)⟩, fun k e => ⟨(h.far k e).1, Nat.lt_of_lt_of_le (h.far k e).2 hk.size⟩, h.off⟩
  have hf := (h2 x hx).2
  have hf2 : Far M B.z w (.agg x.1) x.2 := ⟨hf.reads, fun k hb => ⟨fun hm => hf.off k hb (hM k hm), (hf.far k hb).2⟩, hf.off⟩
  have := hf2.keeps hk
  exact ⟨this.reads, fun k hb => ⟨(hf.far k hb).1, (this.far k hb).2⟩, hf.off⟩
theorem Told.rezone {out : List Rec.R} (h : Told L B w o out) {Z : List (Option Nat)} (hZ : ∀ k, some k ∈ Z → some k ∈ B.z ∨ w.heap.size ≤ k) : Told L ⟨B.b, Z⟩ w o out := by
  obtain ⟨ps, h1, h2, h3⟩ := h.outs
  refine ⟨⟨ps, h1, fun x hx => ⟨(h2 x hx).1, (h2 x hx).2.reads, (h2 x hx).2.far, fun k hb hz => ?_⟩, h3⟩, h.far, fun k e hz => ?_⟩
  · rcases hZ k hz with e | e
    · exact (h2 x hx).2.off k hb e
    · have := ((h2 x hx).2.far k hb).2; omega
  · rcases hZ k hz with e1 | e1
    · exact h.off k e e1
    · have := (h.far k e).2; omega
end
end Go.Proofs.YtbineebnhjifiaaGreatDoor.Pg
/- FltMem -/
namespace Go.Proofs.YtbineebnhjifiaaGreatDoor.Flt
open Go.RowKit Base Txt Mem Par Pg Each

/-- The cells of a filter. -/
abbrev fcells (g1 g2 : Nat) (code : Nat) (pt : Bool) : List Value := [ptr g1, ptr g2, .int .i64 (code : Int), .bool pt]
/-- A filter: its block, its readers' blocks. -/
structure FAt (w : World) (B g g1 g2 p : Nat) (b : Bd) (L1 L2 : List (Option Nat)) (f : F) : Prop where
  row : w.heap[g]? = some (.cells (fcells g1 g2 f.code f.parted).toArray 95 (0, 0))
  x : ∃ Z, At w ⟨B, Z⟩ g1 0 b L1 f.x
  y : ∃ Z, At w ⟨B, Z⟩ g2 p b L2 f.y
  dis : Dis L1 L2
  n1 : some g ∉ L1
  n2 : some g ∉ L2
  ge : B ≤ g
  xo : f.x.out = []
  yo : f.y.out = []
  xk : f.x.Ok b
  yk : f.y.Ok b
abbrev fblks (g : Nat) (L1 L2 : List (Option Nat)) : List (Option Nat) := some g :: (L1 ++ L2)
section
variable {w w' : World} {B g g1 g2 p : Nat} {b : Bd} {L1 L2 M : List (Option Nat)} {f : F}
/-- Cells of a block that none of M is. -/
structure Fix (M : List (Option Nat)) (w : World) (g : Nat) (cs : List Value) : Prop where
  row : ∃ ty, w.heap[g]? = some (.cells cs.toArray ty (0, 0))
  off : some g ∉ M
/-- A slice of one slice, made in between. -/
def OneBy (M : List (Option Nat)) (a : Option Addr) (c : Nat) : Fact := fun v w => ∃ k, v = .slice (some ⟨k, 0, none⟩) 1 1 ∧ k < w.heap.size ∧ some k ∉ M ∧ w.cell? ⟨k, 0, none⟩ = some (.slice a 1 c)
theorem OneBy.lasts {l : List Oper} {A' C' : World → List (Option Nat) → Prop} {i1 i2 k : Nat} {a : Option Addr} {c : Nat} : LastsTwo l A' C' L1 L2 i1 i2 k (OneBy (L1 ++ L2) a c) :=
  LastsTwo.keeps fun _ _ _ _ hM hk ⟨j, e, h1, h2, h3⟩ => ⟨j, e, Nat.lt_of_lt_of_le h1 hk.size, h2, (hk.cell (p := ⟨j, 0, none⟩) h1 fun hm => h2 (hM j hm)).trans h3⟩
/-- What the one tells, apart from the other one's blocks. -/
def ToldBy (A' C C' : World → List (Option Nat) → Prop) (L2 Z : List (Option Nat)) (B : Nat) (out : List Rec.R) : Fact := fun v w =>
  ∃ M1 M2, A' w M1 ∧ (C w M2 ∨ C' w M2) ∧ Dis M1 L2 ∧ Pg.Told M1 ⟨B, L2 ++ (M2 ++ Z)⟩ w v out
variable {A A' C C' : World → List (Option Nat) → Prop} {Z : List (Option Nat)} {out : List Rec.R} {i1 i2 k : Nat} {l : List Oper}
theorem ToldBy.below (hA : Thing A A') (hC : Thing C C') {v : Value} (h : ToldBy A' C C' L2 Z B out v w) (hb : Below w.heap.size w w') : ToldBy A' C C' L2 Z B out v w' := by
  obtain ⟨M1, M2, h1, h2, h3, h4⟩ := h
  have hk : Keeps [] w w' := Keeps.of_below hb
  exact ⟨M1, M2, hA.keeps' h1 hk (by simp), hC.now h2 hk (by simp), h3, h4.keeps hk (by simp)⟩
theorem ToldBy.step (hA : Thing A A') {v : Value} (h : ToldBy A' C C' L2 Z B out v w) {M : List (Option Nat)} (hM : C' w' M) (hs : Step L2 M w w') : ToldBy A' C C' L2 Z B out v w' := by
  obtain ⟨M1, M2, h1, h2, h3, h4⟩ := h
  have h5 : Pg.Told M1 ⟨B, L2 ++ (M ++ Z)⟩ w v out := h4.rezone fun k hk => by
    rw [List.mem_append, List.mem_append] at hk
    show some k ∈ L2 ++ (M2 ++ Z) ∨ _
    rw [List.mem_append, List.mem_append]
    rcases hk with hk | hk | hk
    · exact .inl (.inl hk)
    · exact (hs.of k hk).imp .inl id
    · exact .inl (.inr (.inr hk))
  exact ⟨M1, M, hA.keeps' h1 hs.keeps h3, .inr hM, h3, h5.keeps hs.keeps fun k hk => List.mem_append_left _ hk⟩
theorem ToldBy.first (hA : Thing A A') (hC : Thing C C') (hk : k = i1 ∨ waits l k i1 = true) : LastsTwo l A' C' L1 L2 i1 i2 k (ToldBy A' C C' L2 Z B out) :=
  ⟨fun _ _ _ hb h => h.below hA hC hb, fun h1 h2 => absurd hk (by rw [h2]; simpa using h1), fun _ _ _ _ _ _ hM hs h => h.step hA hM hs⟩
theorem ToldBy.second (hA : Thing A A') (hC : Thing C C') (hk : k = i2 ∨ waits l k i2 = true) : LastsTwo l A' C' L1 L2 i1 i2 k (ToldBy C' A A' L1 Z B out) :=
  ⟨fun _ _ _ hb h => h.below hC hA hb, fun _ _ _ _ _ _ hM hs h => h.step hC hM hs, fun h1 h2 => absurd hk (by rw [h2]; simpa using h1)⟩
theorem told_recs {B : Zone} {L : List (Option Nat)} {v : Value} (h : Pg.Told L B w v out) : ∃ a c, v = .slice a out.length c ∧ Rec.Recs w a out.length out := by
  obtain ⟨a, c, e, hc⟩ := h.at
  refine ⟨a, c, e, rfl, fun h0 => ?_⟩
  obtain ⟨bk, e1, hlt, h1⟩ := hc h0
  refine ⟨bk, 0, e1, hlt, fun k hk => ?_⟩
  obtain ⟨fa, fc, ba, bc, ta, tc, f1, f2, f3, c0, c1, c2, c3, c4, c5, c6⟩ := h1 k hk
  have e2 : out[k]?.getD Rec.r0 = out[k] := by rw [List.getElem?_eq_getElem hk]; rfl
  rw [e2, Nat.zero_add]
  exact ⟨fa, fc, ba, bc, ta, tc, ⟨c0, c1, c2, c3, c4, c5, c6⟩, fa, fc, ba, bc, ta, tc, rfl, f1, f2, f3⟩
theorem OneBy.made {W w1 : World} (hin : ∀ k, some k ∈ M → k < W.heap.size) (hk : Keeps M W w1) (a : Option Addr) (c : Nat) (ty : TypeId) : OneBy M a c (.slice (some ⟨w1.heap.size, 0, none⟩) 1 1) (w1.alloc (.cells #[.slice a 1 c] ty)) := by
  refine ⟨w1.heap.size, rfl, by simp, fun hm => ?_, ?_⟩
  · have := hin _ hm; have := hk.size; omega
  · exact (cell_of_row (w1.alloc (.cells #[.slice a 1 c] ty)) w1.heap.size 0 _ ty (0, 0) (heap_alloc_new w1 _)).trans rfl
theorem clear_app {Z Z' L : List (Option Nat)} (h : Clear w Z L) (h' : Clear w Z' L) : Clear w (Z ++ Z') L :=
  ⟨fun k hk => (List.mem_append.1 hk).elim (h.inz k) (h'.inz k), fun k hk hz => (List.mem_append.1 hz).elim (h.off k hk) (h'.off k hk)⟩
theorem clear_cons {Z L : List (Option Nat)} (hg : g < w.heap.size) (hn : some g ∉ L) (h : Clear w Z L) : Clear w (some g :: Z) L :=
  ⟨fun k hk => by
    rcases List.mem_cons.1 hk with e | e
    · cases e; exact hg
    · exact h.inz k e, fun k hk hz => by
    rcases List.mem_cons.1 hz with e | e
    · cases e; exact hn hk
    · exact h.off k hk e⟩
theorem clear_dis {Z L : List (Option Nat)} (hin : In w Z) (hd : Dis L Z) : Clear w Z L := ⟨hin, hd⟩
theorem bts_sub {L L' : List (Option Nat)} {a : Option Addr} {s : List UInt8} (h : Bts L w a s) (hs : ∀ k, some k ∈ L' → some k ∈ L) : Bts L' w a s := ⟨h.nums, fun ad e => ⟨fun hm => (h.far ad e).1 (hs _ hm), (h.far ad e).2⟩⟩
theorem bts_keeps {L : List (Option Nat)} {a : Option Addr} {s : List UInt8} (h : Bts L w a s) (hk : Keeps L w w') : Bts L w' a s := h.step ⟨hk, Of.refl⟩
/-- A byte fed in a slice of one. -/
theorem feed_one {X : Q} {Z : List (Option Nat)} {L : List (Option Nat)} (hp : p < 4294967296) (hA : At w ⟨B, Z⟩ g p b L X) (xo : X.out = []) (xk : X.Ok b) (k : Nat) {a : Option Addr} {c : Nat} {ch : UInt8} (hc : w.cell? ⟨k, 0, none⟩ = some (.slice a 1 c)) (hk : k < w.heap.size) (hkL : some k ∉ L)
    (hbt : Bts L w a [ch]) (Z' : List (Option Nat)) (hz : Clear w Z' L) : Calls Tryz.prog 22 #[ptr g, .slice (some ⟨k, 0, none⟩) 1 1] w fun r w' => ∃ v L', r = .returned v ∧ At w' ⟨B, Z'⟩ g p b L' (X.byte p b ch).told ∧ Pg.Told L' ⟨B, Z'⟩ w' v (X.byte p b ch).out ∧ Step L L' w w' := by
  have hpa : Parts L w (some ⟨k, 0, none⟩) [[ch]] := ⟨fun _ => ⟨k, 0, rfl, hk, hkL, fun j hj => by
    obtain rfl : j = 0 := by
      have : j < 1 := hj
      omega
    exact ⟨a, c, hc, hbt⟩⟩⟩
  have := feed_any hp X (hA.rezone xo hz) xk (some ⟨k, 0, none⟩) 1 [[ch]] hpa (by simp) (by rw [xo]; simp)
  exact this
end
end Go.Proofs.YtbineebnhjifiaaGreatDoor.Flt
/- FltA -/
namespace Go.Proofs.YtbineebnhjifiaaGreatDoor.Flt
open Go.RowKit Base Txt Mem Par Pg Each

section code
set_option maxHeartbeats 4000000
set_option maxRecDepth 20000
attribute [local go_sem] Base.some_undef
variable {w : World} {B g g1 g2 p : Nat} {b : Bd} {L1 L2 : List (Option Nat)} {f : F}
abbrev Has (B g p : Nat) (b : Bd) (X : Q) : World → List (Option Nat) → Prop := fun w L => ∃ Z, At w ⟨B, Z⟩ g p b L X
end code
end Go.Proofs.YtbineebnhjifiaaGreatDoor.Flt
/- FltB -/
namespace Go.Proofs.YtbineebnhjifiaaGreatDoor.Flt
open Go.RowKit Base Txt Mem Par Pg Each

section
variable {w w' w0 w1 : World} {B g g1 g2 p : Nat} {b : Bd} {L L' L1 L2 N1 N2 M1 M2 Z : List (Option Nat)} {f f' : F} {V U : Value} {out out2 : List Rec.R}
/-- Where Feed is. -/
structure FS (w0 : World) (B g g1 g2 p : Nat) (b : Bd) (Z L1 L2 : List (Option Nat)) (f : F) (V : Value) (out : List Rec.R) (N1 N2 : List (Option Nat)) (w : World) : Prop where
  fat : FAt w B g g1 g2 p b N1 N2 f
  outs : Outs (V.ownBlock :: fblks g N1 N2) ⟨w0.heap.size, Z⟩ w V out
  far : ∀ k, V.ownBlock = some k → some k ∉ fblks g N1 N2
  zone : Clear w Z (V.ownBlock :: fblks g N1 N2)
  keeps : Keeps (fblks g L1 L2) w0 w
  of : Of w0 (fblks g L1 L2) (fblks g N1 N2)
end
end Go.Proofs.YtbineebnhjifiaaGreatDoor.Flt
/- FltC -/
namespace Go.Proofs.YtbineebnhjifiaaGreatDoor.Flt
open Go.RowKit Base Txt Mem Par Pg Each

/-- A slice of slices of bytes, none with less room than it is long. -/
structure PartsC (L : List (Option Nat)) (w : World) (a : Option Addr) (ls : List (List UInt8)) : Prop where
  cells : 0 < ls.length → ∃ bk off, a = some ⟨bk, off, none⟩ ∧ bk < w.heap.size ∧ some bk ∉ L ∧ ∀ k (hk : k < ls.length), ∃ ak ck, w.cell? ⟨bk, off + k, none⟩ = some (.slice ak ls[k].length ck) ∧ ls[k].length ≤ ck ∧ (ls[k] ≠ [] → Bts L w ak ls[k])
section code
set_option maxHeartbeats 4000000
set_option maxRecDepth 20000
attribute [local go_sem] Base.some_undef
variable {w : World} {B g g1 g2 p : Nat} {b : Bd} {L1 L2 : List (Option Nat)} {f : F}
end code
end Go.Proofs.YtbineebnhjifiaaGreatDoor.Flt
/- FltD -/
namespace Go.Proofs.YtbineebnhjifiaaGreatDoor.Flt
open Go.RowKit Base Txt Mem Par Pg Each

section code
set_option maxHeartbeats 8000000
set_option maxRecDepth 20000
attribute [local go_sem] Base.some_undef
variable {p : Nat} {b : Bd}
abbrev bdL (b : Bd) : List Value := [.int .i64 b.x0, .int .i64 b.x1, .int .i64 b.x2, .int .i64 b.x3, .int .i64 b.x4, .int .i64 b.x5, .int .i64 b.x6, .int .i64 b.x7, .bool b.ch, .bool b.od]
theorem own_lower {w : World} {B B' : Nat} {e : TypeId} {size n : Nat} {v : Value} {xs : List Value} (h : w.ownsRow B e size v n xs) (hB : B' ≤ B) : w.ownsRow B' e size v n xs := by
  refine ⟨h.1, ?_⟩
  rcases h.2 with h0 | ⟨b, cap, cur, rfl, hb, rest⟩
  · exact .inl h0
  · exact .inr ⟨b, cap, cur, rfl, Nat.le_trans hB hb, rest⟩
theorem at_lower {w : World} {B B' g p : Nat} {b : Bd} {L Z : List (Option Nat)} {x : Q} (h : At w ⟨B, Z⟩ g p b L x) (ho : x.out = []) (hB : B' ≤ B) : At w ⟨B', Z⟩ g p b L x := by
  cases x with
  | live s =>
    obtain ⟨q, v, f, bd, t, o, rfl, h1, h2⟩ := h
    have ho : s.out = [] := ho
    rw [ho] at h2
    refine ⟨q, v, f, bd, t, o, rfl, h1, ?_⟩
    rw [ho]
    exact ⟨⟨h2.R.row, own_lower h2.R.own hB, Nat.le_trans hB h2.R.ge, h2.R.ne⟩, own_lower h2.F hB, own_lower h2.D hB, own_lower h2.TR hB, outs_of (own_lower (outs_nil (B := ⟨B, Z⟩) h2.O) hB), h2.lone, Nat.le_trans hB h2.ge, h2.lt, h2.zone⟩
  | dead e out =>
    obtain ⟨o, rfl, h⟩ := h
    have ho : out = [] := ho
    subst ho
    exact ⟨o, rfl, h.row, outs_of (own_lower (outs_nil (B := ⟨B, Z⟩) h.O) hB), h.ne, Nat.le_trans hB h.ge, h.lt, h.bad, h.zone⟩
/-- Two new parsers, apart. -/
structure Pair (w0 w : World) (g1 g2 p : Nat) (b : Bd) (L1 L2 : List (Option Nat)) : Prop where
  x : At w ⟨w0.heap.size, []⟩ g1 0 b L1 (Q.new 0 b)
  y : At w ⟨w0.heap.size, []⟩ g2 p b L2 (Q.new p b)
  dis : Dis L1 L2
  bel : Below w0.heap.size w0 w
theorem Pair.first {w0 w1 w2 : World} {g1 g2 p : Nat} {b : Bd} {L1 L2 : List (Option Nat)} {B : Nat} (hB : w0.heap.size ≤ B) (h1 : At w1 ⟨B, []⟩ g1 0 b L1 (Q.new 0 b)) (h2 : At w2 ⟨w1.heap.size, []⟩ g2 p b L2 (Q.new p b)) (o1 : (Q.new 0 b).out = []) (o2 : (Q.new p b).out = []) (hb1 : Below w0.heap.size w0 w1) (hb2 : Below w1.heap.size w1 w2) : Pair w0 w2 g1 g2 p b L1 L2 :=
  ⟨(at_lower h1 o1 hB).below hb2, at_lower h2 o2 hb1.size, fun k hk hk' => by
    have := h1.in k hk
    have : w1.heap.size ≤ k := h2.low k hk'
    omega, Base.below_step hb1 hb2⟩
theorem new_out : (Q.new p b).out = [] := by unfold Q.new; split <;> rfl
end code
end Go.Proofs.YtbineebnhjifiaaGreatDoor.Flt
/- ReqSeat -/
namespace Go.Proofs.YtbineebnhjifiaaGreatDoor.Rq
open Go.RowKit Base Txt

theorem strs_at (w : World) (t : TypeId) (ss : List ByteArray) (k : Nat) (hk : k < ss.length) : (w.alloc (.cells ((ss.map Value.string).toArray) t)).cell? ⟨w.heap.size, k, none⟩ = some (.string (ss[k]?.getD ByteArray.empty)) := by
  rw [cell_of_row (w.alloc _) w.heap.size k _ t (0, 0) (heap_alloc_new w _)]
  simp [List.getElem?_eq_getElem hk]
theorem val_at (ss : List ByteArray) (k : Nat) (hk : k < ss.length) : (ss.map Value.string)[k]'(by rw [List.length_map]; exact hk) = .string (ss[k]?.getD ByteArray.empty) := by
  simp [List.getElem?_eq_getElem hk]
theorem size_at (ss : List ByteArray) (m : Nat) (h : ss.all (fun x => decide (x.size ≤ m)) = true) (k : Nat) (hk : k < ss.length) : (ss[k]?.getD ByteArray.empty).size ≤ m := by
  rw [List.all_eq_true] at h
  rw [List.getElem?_eq_getElem hk, Option.getD_some]
  simpa using h _ (List.getElem_mem hk)
theorem tgts_at (k : Nat) (hk : k < 12) : ∃ X : ByteArray, X.size ≤ 17 ∧ (∀ w : World, (w.alloc (.cells #[.string ⟨#[47]⟩, .string ⟨#[47, 97]⟩, .string ⟨#[47, 97, 47, 98, 63, 120, 61, 49]⟩, .string ⟨#[47, 97, 47, 46, 46, 47, 98]⟩, .string ⟨#[47, 37, 52, 49, 47, 99]⟩, .string ⟨#[42]⟩, .string ⟨#[104, 116, 116, 112, 58, 47, 47, 104, 46, 111, 114, 103, 47, 113, 63]⟩, .string ⟨#[47, 118, 49, 47, 105, 116, 101, 109, 47, 55]⟩, .string ⟨#[47, 120, 32, 121]⟩, .string ⟨#[47, 113, 1]⟩, .string ⟨#[47, 115, 116, 97, 116, 105, 99, 47, 99, 115, 115, 47, 109, 46, 99, 115, 115]⟩, .string ⟨#[104, 116, 116, 112, 58, 47, 47, 97]⟩] 9)).cell? ⟨w.heap.size, k, none⟩ = some (.string X)) ∧ ∀ hh, ([.string ⟨#[47]⟩, .string ⟨#[47, 97]⟩, .string ⟨#[47, 97, 47, 98, 63, 120, 61, 49]⟩, .string ⟨#[47, 97, 47, 46, 46, 47, 98]⟩, .string ⟨#[47, 37, 52, 49, 47, 99]⟩, .string ⟨#[42]⟩, .string ⟨#[104, 116, 116, 112, 58, 47, 47, 104, 46, 111, 114, 103, 47, 113, 63]⟩, .string ⟨#[47, 118, 49, 47, 105, 116, 101, 109, 47, 55]⟩, .string ⟨#[47, 120, 32, 121]⟩, .string ⟨#[47, 113, 1]⟩, .string ⟨#[47, 115, 116, 97, 116, 105, 99, 47, 99, 115, 115, 47, 109, 46, 99, 115, 115]⟩, .string ⟨#[104, 116, 116, 112, 58, 47, 47, 97]⟩] : List Value)[k]'hh = .string X :=
  ⟨_, size_at [⟨#[47]⟩, ⟨#[47, 97]⟩, ⟨#[47, 97, 47, 98, 63, 120, 61, 49]⟩, ⟨#[47, 97, 47, 46, 46, 47, 98]⟩, ⟨#[47, 37, 52, 49, 47, 99]⟩, ⟨#[42]⟩, ⟨#[104, 116, 116, 112, 58, 47, 47, 104, 46, 111, 114, 103, 47, 113, 63]⟩, ⟨#[47, 118, 49, 47, 105, 116, 101, 109, 47, 55]⟩, ⟨#[47, 120, 32, 121]⟩, ⟨#[47, 113, 1]⟩, ⟨#[47, 115, 116, 97, 116, 105, 99, 47, 99, 115, 115, 47, 109, 46, 99, 115, 115]⟩, ⟨#[104, 116, 116, 112, 58, 47, 47, 97]⟩] 17 (by decide) k hk, fun w => strs_at w 9 [⟨#[47]⟩, ⟨#[47, 97]⟩, ⟨#[47, 97, 47, 98, 63, 120, 61, 49]⟩, ⟨#[47, 97, 47, 46, 46, 47, 98]⟩, ⟨#[47, 37, 52, 49, 47, 99]⟩, ⟨#[42]⟩, ⟨#[104, 116, 116, 112, 58, 47, 47, 104, 46, 111, 114, 103, 47, 113, 63]⟩, ⟨#[47, 118, 49, 47, 105, 116, 101, 109, 47, 55]⟩, ⟨#[47, 120, 32, 121]⟩, ⟨#[47, 113, 1]⟩, ⟨#[47, 115, 116, 97, 116, 105, 99, 47, 99, 115, 115, 47, 109, 46, 99, 115, 115]⟩, ⟨#[104, 116, 116, 112, 58, 47, 47, 97]⟩] k hk, fun hh => by
    have h2 := val_at [⟨#[47]⟩, ⟨#[47, 97]⟩, ⟨#[47, 97, 47, 98, 63, 120, 61, 49]⟩, ⟨#[47, 97, 47, 46, 46, 47, 98]⟩, ⟨#[47, 37, 52, 49, 47, 99]⟩, ⟨#[42]⟩, ⟨#[104, 116, 116, 112, 58, 47, 47, 104, 46, 111, 114, 103, 47, 113, 63]⟩, ⟨#[47, 118, 49, 47, 105, 116, 101, 109, 47, 55]⟩, ⟨#[47, 120, 32, 121]⟩, ⟨#[47, 113, 1]⟩, ⟨#[47, 115, 116, 97, 116, 105, 99, 47, 99, 115, 115, 47, 109, 46, 99, 115, 115]⟩, ⟨#[104, 116, 116, 112, 58, 47, 47, 97]⟩] k hk
    exact h2⟩
theorem meths_at (k : Nat) (hk : k < 8) : ∃ X : ByteArray, X.size ≤ 7 ∧ (∀ w : World, (w.alloc (.cells #[.string ⟨#[71, 69, 84]⟩, .string ⟨#[80, 79, 83, 84]⟩, .string ⟨#[79, 80, 84, 73, 79, 78, 83]⟩, .string ⟨#[72, 69, 65, 68]⟩, .string ⟨#[80, 85, 84]⟩, .string ⟨#[68, 69, 76, 69, 84, 69]⟩, .string ⟨#[71, 40, 84]⟩, .string ⟨#[67, 79, 78, 78, 69, 67, 84]⟩] 9)).cell? ⟨w.heap.size, k, none⟩ = some (.string X)) ∧ ∀ hh, ([.string ⟨#[71, 69, 84]⟩, .string ⟨#[80, 79, 83, 84]⟩, .string ⟨#[79, 80, 84, 73, 79, 78, 83]⟩, .string ⟨#[72, 69, 65, 68]⟩, .string ⟨#[80, 85, 84]⟩, .string ⟨#[68, 69, 76, 69, 84, 69]⟩, .string ⟨#[71, 40, 84]⟩, .string ⟨#[67, 79, 78, 78, 69, 67, 84]⟩] : List Value)[k]'hh = .string X :=
  ⟨_, size_at [⟨#[71, 69, 84]⟩, ⟨#[80, 79, 83, 84]⟩, ⟨#[79, 80, 84, 73, 79, 78, 83]⟩, ⟨#[72, 69, 65, 68]⟩, ⟨#[80, 85, 84]⟩, ⟨#[68, 69, 76, 69, 84, 69]⟩, ⟨#[71, 40, 84]⟩, ⟨#[67, 79, 78, 78, 69, 67, 84]⟩] 7 (by decide) k hk, fun w => strs_at w 9 [⟨#[71, 69, 84]⟩, ⟨#[80, 79, 83, 84]⟩, ⟨#[79, 80, 84, 73, 79, 78, 83]⟩, ⟨#[72, 69, 65, 68]⟩, ⟨#[80, 85, 84]⟩, ⟨#[68, 69, 76, 69, 84, 69]⟩, ⟨#[71, 40, 84]⟩, ⟨#[67, 79, 78, 78, 69, 67, 84]⟩] k hk, fun hh => by
    have h2 := val_at [⟨#[71, 69, 84]⟩, ⟨#[80, 79, 83, 84]⟩, ⟨#[79, 80, 84, 73, 79, 78, 83]⟩, ⟨#[72, 69, 65, 68]⟩, ⟨#[80, 85, 84]⟩, ⟨#[68, 69, 76, 69, 84, 69]⟩, ⟨#[71, 40, 84]⟩, ⟨#[67, 79, 78, 78, 69, 67, 84]⟩] k hk
    exact h2⟩
theorem gaps_at (k : Nat) (hk : k < 4) : ∃ X : ByteArray, X.size ≤ 3 ∧ (∀ w : World, (w.alloc (.cells #[.string ⟨#[32]⟩, .string ⟨#[32, 32]⟩, .string ⟨#[9]⟩, .string ⟨#[32, 9, 32]⟩] 9)).cell? ⟨w.heap.size, k, none⟩ = some (.string X)) ∧ ∀ hh, ([.string ⟨#[32]⟩, .string ⟨#[32, 32]⟩, .string ⟨#[9]⟩, .string ⟨#[32, 9, 32]⟩] : List Value)[k]'hh = .string X :=
  ⟨_, size_at [⟨#[32]⟩, ⟨#[32, 32]⟩, ⟨#[9]⟩, ⟨#[32, 9, 32]⟩] 3 (by decide) k hk, fun w => strs_at w 9 [⟨#[32]⟩, ⟨#[32, 32]⟩, ⟨#[9]⟩, ⟨#[32, 9, 32]⟩] k hk, fun hh => by
    have h2 := val_at [⟨#[32]⟩, ⟨#[32, 32]⟩, ⟨#[9]⟩, ⟨#[32, 9, 32]⟩] k hk
    exact h2⟩
theorem vers_at (k : Nat) (hk : k < 6) : ∃ X : ByteArray, X.size ≤ 8 ∧ (∀ w : World, (w.alloc (.cells #[.string ⟨#[72, 84, 84, 80, 47, 49, 46, 49]⟩, .string ⟨#[72, 84, 84, 80, 47, 49, 46, 48]⟩, .string ⟨#[72, 84, 84, 80, 47, 49, 46, 55]⟩, .string ⟨#[104, 116, 116, 112, 47, 49, 46, 49]⟩, .string ⟨#[72, 84, 84, 80, 47, 50, 46, 48]⟩, .string ⟨#[72, 84, 84, 80, 47, 49, 46, 49]⟩] 9)).cell? ⟨w.heap.size, k, none⟩ = some (.string X)) ∧ ∀ hh, ([.string ⟨#[72, 84, 84, 80, 47, 49, 46, 49]⟩, .string ⟨#[72, 84, 84, 80, 47, 49, 46, 48]⟩, .string ⟨#[72, 84, 84, 80, 47, 49, 46, 55]⟩, .string ⟨#[104, 116, 116, 112, 47, 49, 46, 49]⟩, .string ⟨#[72, 84, 84, 80, 47, 50, 46, 48]⟩, .string ⟨#[72, 84, 84, 80, 47, 49, 46, 49]⟩] : List Value)[k]'hh = .string X :=
  ⟨_, size_at [⟨#[72, 84, 84, 80, 47, 49, 46, 49]⟩, ⟨#[72, 84, 84, 80, 47, 49, 46, 48]⟩, ⟨#[72, 84, 84, 80, 47, 49, 46, 55]⟩, ⟨#[104, 116, 116, 112, 47, 49, 46, 49]⟩, ⟨#[72, 84, 84, 80, 47, 50, 46, 48]⟩, ⟨#[72, 84, 84, 80, 47, 49, 46, 49]⟩] 8 (by decide) k hk, fun w => strs_at w 9 [⟨#[72, 84, 84, 80, 47, 49, 46, 49]⟩, ⟨#[72, 84, 84, 80, 47, 49, 46, 48]⟩, ⟨#[72, 84, 84, 80, 47, 49, 46, 55]⟩, ⟨#[104, 116, 116, 112, 47, 49, 46, 49]⟩, ⟨#[72, 84, 84, 80, 47, 50, 46, 48]⟩, ⟨#[72, 84, 84, 80, 47, 49, 46, 49]⟩] k hk, fun hh => by
    have h2 := val_at [⟨#[72, 84, 84, 80, 47, 49, 46, 49]⟩, ⟨#[72, 84, 84, 80, 47, 49, 46, 48]⟩, ⟨#[72, 84, 84, 80, 47, 49, 46, 55]⟩, ⟨#[104, 116, 116, 112, 47, 49, 46, 49]⟩, ⟨#[72, 84, 84, 80, 47, 50, 46, 48]⟩, ⟨#[72, 84, 84, 80, 47, 49, 46, 49]⟩] k hk
    exact h2⟩

section code
set_option maxHeartbeats 1000000
attribute [local go_sem] Base.some_undef
set_option maxHeartbeats 16000000 in
set_option maxRecDepth 10000 in
theorem line_any (a b : Nat) (ha : a < 256) (hb : b < 256) (w : World) : Calls Tryz.prog 85 #[.int .u8 a, .int .u8 b] w fun e w' => (∃ L : ByteArray, e = .returned (.string L) ∧ L.size ≤ 60) ∧ Below w.heap.size w w' := by
  obtain ⟨u, hu⟩ : ∃ u, b % 12 = u := ⟨_, rfl⟩
  obtain ⟨v, hv⟩ : ∃ v, a % 8 = v := ⟨_, rfl⟩
  obtain ⟨z, hz⟩ : ∃ z, b % 4 = z := ⟨_, rfl⟩
  obtain ⟨y, hy⟩ : ∃ y, a % 6 = y := ⟨_, rfl⟩
  have iu : (b : Int) % 12 = (u : Int) := by omega
  have iv : (a : Int) % 8 = (v : Int) := by omega
  have iz : (b : Int) % 4 = (z : Int) := by omega
  have iy : (a : Int) % 6 = (y : Int) := by omega
  have lu : u < 12 := by omega
  have lv : v < 8 := by omega
  have lz : z < 4 := by omega
  have ly : y < 6 := by omega
  clear hu hv hz hy
  obtain ⟨X1, z1, c1, d1⟩ := tgts_at u lu
  obtain ⟨X2, z2, c2, d2⟩ := meths_at v lv
  obtain ⟨X3, z3, c3, d3⟩ := gaps_at z lz
  obtain ⟨X4, z4, c4, d4⟩ := vers_at y ly
  have hA : 200 ≤ a ∨ (a < 200 ∧ 5 < v ∧ 7 < u ∧ ¬ u = 10) ∨ (a < 200 ∧ 5 < v ∧ u = 10) ∨ (a < 200 ∧ 5 < v ∧ u ≤ 7) ∨ (a < 200 ∧ v ≤ 5 ∧ 7 < u ∧ ¬ u = 10 ∧ ¬ u = 5) ∨ (a < 200 ∧ v ≤ 5 ∧ u = 10) ∨ (a < 200 ∧ v ≤ 5 ∧ u = 5) ∨ (a < 200 ∧ v ≤ 5 ∧ u ≤ 7 ∧ ¬ u = 5) := by omega
  have hB : 200 < b ∨ b = 199 ∨ (b ≤ 200 ∧ ¬ b = 199) := by omega
  rcases hA with h | ⟨h, h1, h2, h3⟩ | ⟨h, h1, rfl⟩ | ⟨h, h1, h2⟩ | ⟨h, h1, h2, h3, h4⟩ | ⟨h, h1, rfl⟩ | ⟨h, h1, rfl⟩ | ⟨h, h1, h2, h3⟩
  all_goals
    rcases hB with k1 | rfl | ⟨k1, k2⟩
    all_goals try (exfalso; omega)
    all_goals
      go_enter Tryz.func85, Tryz.ntmps85
      go_wp2_with fail
      all_goals
       go_ret
       refine ⟨⟨_, rfl, ?_⟩, ?_⟩
       · simp only [ByteArray.size_append, len_mk, List.length_cons, List.length_nil]; omega
       · repeat (first | exact Below.refl _ _ | with_reducible refine Below.alloc ?_ ?_ _)
         all_goals (simp; try omega)
end code
end Go.Proofs.YtbineebnhjifiaaGreatDoor.Rq
