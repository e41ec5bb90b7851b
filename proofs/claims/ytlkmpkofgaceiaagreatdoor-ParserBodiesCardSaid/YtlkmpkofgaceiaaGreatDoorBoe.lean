/-
  What the proof reaches, part 5.
-/
import Derived.Test.YtlkmpkofgaceiaaGreatDoorBod
/- PgByte -/
namespace Go.Proofs.YtlkmpkofgaceiaaGreatDoor.Pg
open Go.RowKit Base Txt Mem Par

/-- A parser, that goes on or has failed, by its blocks. -/
def At (w : World) (B : Zone) (g : Nat) (p : Nat) (b : Bd) (L : List (Option Nat)) : Q → Prop
  | .live s => ∃ q v f bd t o, L = blks g q v f bd t o ∧ PR w B g q v f bd t o p b s
  | .dead e out => ∃ o, L = [some g, o.ownBlock] ∧ Dead w B g e o out
theorem ba_list (l : List UInt8) : (ba l).data.toList = l := rfl
section
variable {w w' : World} {B : Zone} {g q : Nat} {v f bd t o : Value} {p : Nat} {rd : Ln.M} {fs ts : List Fld} {body : List UInt8} {out : List Rec.R}
/-- Its line has gone on. -/
theorem Own.reader (h : Own w B g q v f bd t o rd fs body ts out) {v' : Value} {rd' : Ln.M} (hk : Ln.Kept q v.ownBlock w w') (hm : Ln.Moved w v.ownBlock v'.ownBlock) (hr : Ln.Rd w' B q v' rd') :
    Own w' B g q v' f bd t o rd' fs body ts out ∧ Step (blks g q v f bd t o) (blks g q v' f bd t o) w w' ∧ Keeps [some q, v.ownBlock] w w' := by
  have hk2 : Keeps [some q, v.ownBlock] w w' := Keeps.of_kept hk (by simp) fun k e => by simp [e]
  have hn : ∀ i j, i ≠ 1 → i ≠ 2 → (blks g q v f bd t o)[i]? = some (some j) → some j ∉ [some q, v.ownBlock] := fun i j h1 h2 hj hm => by
    rcases (by simpa using hm : j = q ∨ some j = v.ownBlock) with e | e
    · exact h1 (h.lone i 1 j hj (by rw [e]; rfl))
    · exact h2 (h.lone i 2 j hj (by rw [e]; rfl))
  have e : blks g q v' f bd t o = (blks g q v f bd t o).set 2 v'.ownBlock := rfl
  have ho : v'.ownBlock = none ∨ (blks g q v f bd t o)[2]? = some v'.ownBlock ∨ ∃ k, v'.ownBlock = some k ∧ w.heap.size ≤ k := by
    rcases hm with e | e | e
    · exact .inr (.inl (by rw [e]; rfl))
    · exact .inl e
    · exact .inr (.inr e)
  have hof : Of w (blks g q v f bd t o) (blks g q v' f bd t o) := by rw [e]; exact Of.set 2 _ ho
  have hkL : Keeps (blks g q v f bd t o) w w' := hk2.mono fun k hk => by
    rcases (by simpa using hk : k = q ∨ some k = v.ownBlock) with e | e
    · simp [e]
    · simp [e]
  obtain ⟨ps, h1, h2, h3⟩ := h.O
  refine ⟨⟨hr, hk2.own h.F fun j e => hn 3 j (by decide) (by decide) (by rw [← e]; rfl), hk2.own h.D fun j e => hn 4 j (by decide) (by decide) (by rw [← e]; rfl), hk2.own h.TR fun j e => hn 5 j (by decide) (by decide) (by rw [← e]; rfl),
    ⟨ps, h1, fun x hx => ⟨(h2 x hx).1, by
      have hx2 := (h2 x hx).2.keeps hkL
      exact ⟨hx2.reads, fun k hb => ⟨fun hm => by
        rcases hof k hm with e | e
        · exact (hx2.far k hb).1 e
        · exact absurd ((h2 x hx).2.far k hb).2 (by omega), (hx2.far k hb).2⟩, hx2.off⟩⟩, hk2.own h3 fun j e => hn 6 j (by decide) (by decide) (by rw [← e]; rfl)⟩, ?_, h.ge, Nat.lt_of_lt_of_le h.lt hk2.size, h.zone.of hk2.size hof⟩, ⟨hkL, hof⟩, hk2⟩
  rw [e]
  exact h.lone.set h.in 2 _ ho
theorem PR.reader {b : Bd} {s : T} (h : PR w B g q v f bd t o p b s) {v' : Value} {rd' : Ln.M} (hk : Ln.Kept q v.ownBlock w w') (hm : Ln.Moved w v.ownBlock v'.ownBlock) (hr : Ln.Rd w' B q v' rd') :
    PR w' B g q v' f bd t o p b { s with rd := rd' } ∧ Step (blks g q v f bd t o) (blks g q v' f bd t o) w w' := by
  obtain ⟨h1, h2, h3⟩ := h.own.reader hk hm hr
  refine ⟨⟨h3.row h.row fun hm => ?_, h1⟩, h2⟩
  rcases (by simpa using hm : g = q ∨ some g = v.ownBlock) with e | e
  · exact absurd (h.own.lone 0 1 g rfl (by rw [e]; rfl)) (by decide)
  · exact absurd (h.own.lone 0 2 g rfl (by rw [e]; rfl)) (by decide)
end
section code
set_option maxHeartbeats 4000000
set_option maxRecDepth 20000
attribute [local go_sem] Base.some_undef
variable {w : World} {B : Zone} {g q : Nat} {v f bd t o : Value} {p : Nat} {b : Bd} {s : T}
/-- Its line goes on by a byte. -/
theorem reader_any (c : UInt8) (hm : s.rd.Ok) (h : PR w B g q v f bd t o p b s) : Calls Tryz.prog 153 #[ptr q, .int .u8 (c.toNat : Int)] w fun r w' =>
    ∃ v1, r = .returned (.int .i64 (s.rd.clear.next c)) ∧ PR w' B g q v1 f bd t o p b { s with rd := s.rd.byte c } ∧ Step (blks g q v f bd t o) (blks g q v1 f bd t o) w w' := by
  refine (Ln.byte_any c s.rd hm w B q v h.own.R).mono ?_
  rintro r w' ⟨v1, rfl, h1, h2, h3⟩
  obtain ⟨h4, h5⟩ := h.reader h2 h3 h1
  exact ⟨v1, rfl, h4, h5⟩
theorem inLine_any (hp : p < 4294967296) (hb0 : b.right = true) (c : UInt8) (h : PR w B g q v f bd t o p b s) (ok : s.Ok) (hout : s.out.length ≤ 1000000000) : Calls Tryz.prog 133 #[ptr g, .int .u8 (c.toNat : Int)] w fun r w' =>
    r = .returned (.bool (s.inLine p b c).2) ∧ ∃ L1, At w' B g p b L1 (s.inLine p b c).1 ∧ Step (blks g q v f bd t o) L1 w w' := by
  have hby := reader_any c ok.rd h
  rcases Ln.M.next_is s.rd.clear c with hhow | hhow | hhow | hhow | hhow
  · have HBY := Lib.hid (show Calls Tryz.prog 153 #[ptr q, .int .u8 (c.toNat : Int)] w fun r w' => ∃ v1, r = .returned (.int .i64 0) ∧ PR w' B g q v1 f bd t o p b { s with rd := s.rd.byte c } ∧ Step (blks g q v f bd t o) (blks g q v1 f bd t o) w w' from by rw [← hhow]; exact hby)
    have e0 : s.inLine p b c = (.live { s with rd := s.rd.byte c }, true) := by
      unfold T.inLine
      dsimp only
      rw [hhow, if_pos rfl]
    rw [e0]
    have c25 := h.cs.c25
    clear h hby ok hout e0 hhow
    go_enter Tryz.func133, Tryz.ntmps133
    go_wp2_with
      (go_at_call 153; with_reducible refine HBY.out.mono ?_; rintro r w2 ⟨v1, rfl, h2, hS2⟩
       have HP := Lib.hid h2; have HS := Lib.hid hS2
       clear h2 hS2 c25)
    go_ret
    exact ⟨rfl, _, ⟨_, _, _, _, _, _, rfl, HP.out⟩, HS.out⟩
  · have HBY := Lib.hid (show Calls Tryz.prog 153 #[ptr q, .int .u8 (c.toNat : Int)] w fun r w' => ∃ v1, r = .returned (.int .i64 1) ∧ PR w' B g q v1 f bd t o p b { s with rd := s.rd.byte c } ∧ Step (blks g q v f bd t o) (blks g q v1 f bd t o) w w' from by rw [← hhow]; exact hby)
    have ok2 : ({ s with rd := s.rd.byte c } : T).Ok := ok.byteR c (by rw [hhow]; rfl)
    have hln := line_len ok c
    obtain ⟨ln, hl⟩ : ∃ ln, (s.rd.byte c).line = ln := ⟨_, rfl⟩
    rw [hl] at hln
    obtain ⟨⟨e, t2⟩, hx⟩ : ∃ x, T.line p b { s with rd := s.rd.byte c } ln = x := ⟨_, rfl⟩
    have e0 : s.inLine p b c = (ends (e, t2), true) := by
      unfold T.inLine
      dsimp only
      rw [hhow, if_neg (by decide), if_neg (by decide), if_neg (by decide), hl, hx]
      rfl
    rw [e0]
    have HEN := Lib.hid (fun (w2 : World) (v1 : Value) (h2 : PR w2 B g q v1 f bd t o p b { s with rd := s.rd.byte c }) => endLine_any hp hb0 (ba ln) (by rw [size_ba]; exact hln) h2 ok2 hout)
    have HLI := Lib.hid (fun (w2 : World) (v1 : Value) (h2 : PR w2 B g q v1 f bd t o p b { s with rd := s.rd.byte c }) => Ln.line_any h2.own.R.row h2.own.R.own)
    have HLN := Lib.hid hl; have HX := Lib.hid hx
    have c25 := h.cs.c25
    clear h hby ok2 hln hl hx e0 hhow ok
    rcases Nat.eq_zero_or_pos e with he | he
    · subst he
      go_enter Tryz.func133, Tryz.ntmps133
      go_wp2_with (first
        | (go_at_call 132; with_reducible refine (HFZ.out).mono ?_; rintro r w5 ⟨rfl, hw⟩; rw [hw]; clear hw)
        | (go_at_call 154; with_reducible refine HEN2.out.mono ?_; rintro r w4 ⟨rfl, q1, v2, f1, bd1, t1, o1, hP, hS⟩
           have HP := Lib.hid hP; have HS := Lib.hid (HS2.out.trans hS); have HFZ := Lib.hid (fail_zero w4 g)
           clear hP hS)
        | (go_at_call 155; with_reducible refine HLI2.out.mono ?_; rintro r w3 ⟨rfl, hw⟩; rw [hw]; clear hw)
        | (go_at_call 153; with_reducible refine HBY.out.mono ?_; rintro r w2 ⟨v1, rfl, h2, hS2⟩
           have d25 := h2.cs.c25
           have HS2 := Lib.hid hS2
           have HEN2 := HEN.out w2 v1 h2; have HLI2 := HLI.out w2 v1 h2
           replace HEN2 := Lib.hid (show Calls Tryz.prog 154 #[ptr g, .string (Ln.ba ln)] w2 fun r w' => r = .returned (.int .i64 0) ∧ ∃ q1 v2 f1 bd1 t1 o1, PR w' B g q1 v2 f1 bd1 t1 o1 p b t2 ∧ Step (blks g q v1 f bd t o) (blks g q1 v2 f1 bd1 t1 o1) w2 w' from by rw [ba_list, HX.out] at HEN2; exact HEN2)
           rw [HLN.out] at HLI2
           replace HLI2 := Lib.hid HLI2
           clear h2 hS2 c25))
      go_ret
      exact ⟨rfl, _, ⟨_, _, _, _, _, _, rfl, HP.out⟩, HS.out⟩
    · have hne : e ≠ 0 := by omega
      have e1 : ends (e, t2) = .dead e t2.out := by unfold ends; rw [if_neg hne]
      rw [e1]
      have HNE := Lib.hid hne
      clear he hne e1
      go_enter Tryz.func133, Tryz.ntmps133
      go_wp2_with (first
        | (go_at_call 132; with_reducible refine HFA.out.mono ?_; rintro r w5 ⟨rfl, hD, hS5⟩)
        | (go_at_call 154; with_reducible refine HEN2.out.mono ?_; rintro r w4 ⟨rfl, q1, v2, f1, bd1, t1, o1, hP, hS⟩
           have HS := Lib.hid (HS2.out.trans hS); have HFA := Lib.hid (fail_any hP e HNE.out _ rfl)
           clear hP hS)
        | (go_at_call 155; with_reducible refine HLI2.out.mono ?_; rintro r w3 ⟨rfl, hw⟩; rw [hw]; clear hw)
        | (go_at_call 153; with_reducible refine HBY.out.mono ?_; rintro r w2 ⟨v1, rfl, h2, hS2⟩
           have d25 := h2.cs.c25
           have HS2 := Lib.hid hS2
           have HEN2 := HEN.out w2 v1 h2; have HLI2 := HLI.out w2 v1 h2
           replace HEN2 := Lib.hid (show Calls Tryz.prog 154 #[ptr g, .string (Ln.ba ln)] w2 fun r w' => r = .returned (.int .i64 (e : Int)) ∧ ∃ q1 v2 f1 bd1 t1 o1, PR w' B g q1 v2 f1 bd1 t1 o1 p b t2 ∧ Step (blks g q v1 f bd t o) (blks g q1 v2 f1 bd1 t1 o1) w2 w' from by rw [ba_list, HX.out] at HEN2; exact HEN2)
           rw [HLN.out] at HLI2
           replace HLI2 := Lib.hid HLI2
           clear h2 hS2 c25))
      go_ret
      exact ⟨rfl, _, ⟨_, rfl, hD⟩, HS.out.trans hS5⟩
  · have HBY := Lib.hid (show Calls Tryz.prog 153 #[ptr q, .int .u8 (c.toNat : Int)] w fun r w' => ∃ v1, r = .returned (.int .i64 2) ∧ PR w' B g q v1 f bd t o p b { s with rd := s.rd.byte c } ∧ Step (blks g q v f bd t o) (blks g q v1 f bd t o) w w' from by rw [← hhow]; exact hby)
    have ok2 : ({ s with rd := s.rd.byte c } : T).Ok := ok.byteR c (by rw [hhow]; rfl)
    have hln := line_len ok c
    obtain ⟨ln, hl⟩ : ∃ ln, (s.rd.byte c).line = ln := ⟨_, rfl⟩
    rw [hl] at hln
    obtain ⟨⟨e, t2⟩, hx⟩ : ∃ x, T.line p b { s with rd := s.rd.byte c } ln = x := ⟨_, rfl⟩
    have e0 : s.inLine p b c = (ends (e, t2), false) := by
      unfold T.inLine
      dsimp only
      rw [hhow, if_neg (by decide), if_neg (by decide), if_neg (by decide), hl, hx]
      rfl
    rw [e0]
    have HEN := Lib.hid (fun (w2 : World) (v1 : Value) (h2 : PR w2 B g q v1 f bd t o p b { s with rd := s.rd.byte c }) => endLine_any hp hb0 (ba ln) (by rw [size_ba]; exact hln) h2 ok2 hout)
    have HLI := Lib.hid (fun (w2 : World) (v1 : Value) (h2 : PR w2 B g q v1 f bd t o p b { s with rd := s.rd.byte c }) => Ln.line_any h2.own.R.row h2.own.R.own)
    have HLN := Lib.hid hl; have HX := Lib.hid hx
    have c25 := h.cs.c25
    clear h hby ok2 hln hl hx e0 hhow ok
    rcases Nat.eq_zero_or_pos e with he | he
    · subst he
      go_enter Tryz.func133, Tryz.ntmps133
      go_wp2_with (first
        | (go_at_call 132; with_reducible refine (HFZ.out).mono ?_; rintro r w5 ⟨rfl, hw⟩; rw [hw]; clear hw)
        | (go_at_call 154; with_reducible refine HEN2.out.mono ?_; rintro r w4 ⟨rfl, q1, v2, f1, bd1, t1, o1, hP, hS⟩
           have HP := Lib.hid hP; have HS := Lib.hid (HS2.out.trans hS); have HFZ := Lib.hid (fail_zero w4 g)
           clear hP hS)
        | (go_at_call 155; with_reducible refine HLI2.out.mono ?_; rintro r w3 ⟨rfl, hw⟩; rw [hw]; clear hw)
        | (go_at_call 153; with_reducible refine HBY.out.mono ?_; rintro r w2 ⟨v1, rfl, h2, hS2⟩
           have d25 := h2.cs.c25
           have HS2 := Lib.hid hS2
           have HEN2 := HEN.out w2 v1 h2; have HLI2 := HLI.out w2 v1 h2
           replace HEN2 := Lib.hid (show Calls Tryz.prog 154 #[ptr g, .string (Ln.ba ln)] w2 fun r w' => r = .returned (.int .i64 0) ∧ ∃ q1 v2 f1 bd1 t1 o1, PR w' B g q1 v2 f1 bd1 t1 o1 p b t2 ∧ Step (blks g q v1 f bd t o) (blks g q1 v2 f1 bd1 t1 o1) w2 w' from by rw [ba_list, HX.out] at HEN2; exact HEN2)
           rw [HLN.out] at HLI2
           replace HLI2 := Lib.hid HLI2
           clear h2 hS2 c25))
      go_ret
      exact ⟨rfl, _, ⟨_, _, _, _, _, _, rfl, HP.out⟩, HS.out⟩
    · have hne : e ≠ 0 := by omega
      have e1 : ends (e, t2) = .dead e t2.out := by unfold ends; rw [if_neg hne]
      rw [e1]
      have HNE := Lib.hid hne
      clear he hne e1
      go_enter Tryz.func133, Tryz.ntmps133
      go_wp2_with (first
        | (go_at_call 132; with_reducible refine HFA.out.mono ?_; rintro r w5 ⟨rfl, hD, hS5⟩)
        | (go_at_call 154; with_reducible refine HEN2.out.mono ?_; rintro r w4 ⟨rfl, q1, v2, f1, bd1, t1, o1, hP, hS⟩
           have HS := Lib.hid (HS2.out.trans hS); have HFA := Lib.hid (fail_any hP e HNE.out _ rfl)
           clear hP hS)
        | (go_at_call 155; with_reducible refine HLI2.out.mono ?_; rintro r w3 ⟨rfl, hw⟩; rw [hw]; clear hw)
        | (go_at_call 153; with_reducible refine HBY.out.mono ?_; rintro r w2 ⟨v1, rfl, h2, hS2⟩
           have d25 := h2.cs.c25
           have HS2 := Lib.hid hS2
           have HEN2 := HEN.out w2 v1 h2; have HLI2 := HLI.out w2 v1 h2
           replace HEN2 := Lib.hid (show Calls Tryz.prog 154 #[ptr g, .string (Ln.ba ln)] w2 fun r w' => r = .returned (.int .i64 (e : Int)) ∧ ∃ q1 v2 f1 bd1 t1 o1, PR w' B g q1 v2 f1 bd1 t1 o1 p b t2 ∧ Step (blks g q v1 f bd t o) (blks g q1 v2 f1 bd1 t1 o1) w2 w' from by rw [ba_list, HX.out] at HEN2; exact HEN2)
           rw [HLN.out] at HLI2
           replace HLI2 := Lib.hid HLI2
           clear h2 hS2 c25))
      go_ret
      exact ⟨rfl, _, ⟨_, rfl, hD⟩, HS.out.trans hS5⟩
  · have HBY := Lib.hid (show Calls Tryz.prog 153 #[ptr q, .int .u8 (c.toNat : Int)] w fun r w' => ∃ v1, r = .returned (.int .i64 3) ∧ PR w' B g q v1 f bd t o p b { s with rd := s.rd.byte c } ∧ Step (blks g q v f bd t o) (blks g q v1 f bd t o) w w' from by rw [← hhow]; exact hby)
    have e0 : s.inLine p b c = (.dead 400 s.out, true) := by
      unfold T.inLine
      dsimp only
      rw [hhow, if_neg (by decide), if_pos rfl]
    rw [e0]
    have c25 := h.cs.c25
    clear h hby ok hout e0 hhow
    go_enter Tryz.func133, Tryz.ntmps133
    go_wp2_with (first
      | (go_at_call 132; with_reducible refine HFA.out.mono ?_; rintro r w5 ⟨rfl, hD, hS5⟩)
      | (go_at_call 153; with_reducible refine HBY.out.mono ?_; rintro r w2 ⟨v1, rfl, h2, hS2⟩
         have HS2 := Lib.hid hS2; have HFA := Lib.hid (fail_any h2 400 (by decide) 400 rfl)
         clear h2 hS2 c25))
    go_ret
    exact ⟨rfl, _, ⟨_, rfl, hD⟩, HS2.out.trans hS5⟩
  · have HBY := Lib.hid (show Calls Tryz.prog 153 #[ptr q, .int .u8 (c.toNat : Int)] w fun r w' => ∃ v1, r = .returned (.int .i64 4) ∧ PR w' B g q v1 f bd t o p b { s with rd := s.rd.byte c } ∧ Step (blks g q v f bd t o) (blks g q v1 f bd t o) w w' from by rw [← hhow]; exact hby)
    have HH0 := fun w => Qk.has_any p hp 29 w
    have c25 := h.cs.c25
    have e0 : s.inLine p b c = (if (s.st == 6 && Qk.has p 29) = true then (.live (({ s with rd := s.rd.byte c } : T).enter p 4 b.x0), false) else (.dead (longE s.st) s.out, true)) := by
      unfold T.inLine
      dsimp only
      rw [hhow, if_neg (by decide), if_neg (by decide), if_pos rfl]
    rw [e0]
    have HEN := Lib.hid (fun (w2 : World) (v1 : Value) (h2 : PR w2 B g q v1 f bd t o p b { s with rd := s.rd.byte c }) => enter_any hp h2 4 4 rfl b.x0)
    have HTL := Lib.hid (fun (w2 : World) (v1 : Value) (h2 : PR w2 B g q v1 f bd t o p b { s with rd := s.rd.byte c }) => tooLong_any h2.cs.c24)
    have hlong : longE s.st ≠ 0 := by unfold longE; split <;> first | decide | (split <;> decide)
    have HLE := Lib.hid hlong
    clear h hby ok hout e0 hhow hlong
    by_cases h6 : s.st = 6
    · cases hh : Qk.has p 29 with
      | true =>
        rw [hh] at HH0
        have HH := Lib.hid HH0
        have H6 := Lib.hid h6
        rw [h6, if_pos (by decide)]
        clear HH0 hh h6
        go_enter Tryz.func133, Tryz.ntmps133
        go_wp2_with (first
          | (go_at_call 64; with_reducible refine HE2.out.mono ?_; rintro r w5 ⟨rfl, q1, hP, hS5⟩)
          | (go_at_call 89; with_reducible refine (HH.out _).mono ?_; rintro r w4 ⟨rfl, hw⟩; rw [hw]; clear hw)
          | (go_at_call 153; with_reducible refine HBY.out.mono ?_; rintro r w2 ⟨v1, rfl, h2, hS2⟩
             have HS2 := Lib.hid hS2; have HE2 := Lib.hid (HEN.out w2 v1 h2)
             have c24 : w2.cell? ⟨g, 24, none⟩ = some (.int .i64 6) := by have := h2.cs.c24; rw [show ({ s with rd := s.rd.byte c } : T).st = 6 from H6.out] at this; exact this
             have c13 := h2.cs.c13; have c14 := h2.cs.c14
             clear h2 hS2 c25))
        go_ret
        exact ⟨rfl, _, ⟨_, _, _, _, _, _, rfl, hP⟩, HS2.out.trans hS5⟩
      | false =>
        rw [hh] at HH0
        have HH := Lib.hid HH0
        have H6 := Lib.hid h6
        have e1 : (s.st == 6 && false) = false := Bool.and_false _
        rw [e1, if_neg (by decide)]
        clear HH0 hh h6 e1
        go_enter Tryz.func133, Tryz.ntmps133
        go_wp2_with (first
          | (go_at_call 132; with_reducible refine HFA.out.mono ?_; rintro r w5 ⟨rfl, hD, hS5⟩)
          | (go_at_call 156; with_reducible refine HT2.out.mono ?_; rintro r w4 ⟨rfl, hw⟩; rw [hw]; clear hw)
          | (go_at_call 89; with_reducible refine (HH.out _).mono ?_; rintro r w4 ⟨rfl, hw⟩; rw [hw]; clear hw)
          | (go_at_call 153; with_reducible refine HBY.out.mono ?_; rintro r w2 ⟨v1, rfl, h2, hS2⟩
             have HS2 := Lib.hid hS2; have HT2 := Lib.hid (HTL.out w2 v1 h2); have HFA := Lib.hid (fail_any h2 (longE s.st) HLE.out _ rfl)
             have c24 : w2.cell? ⟨g, 24, none⟩ = some (.int .i64 6) := by have := h2.cs.c24; rw [show ({ s with rd := s.rd.byte c } : T).st = 6 from H6.out] at this; exact this
             have c13 := h2.cs.c13
             clear h2 hS2 c25))
        go_ret
        exact ⟨rfl, _, ⟨_, rfl, hD⟩, HS2.out.trans hS5⟩
    · have t6 : ((s.st : Int) == 6) = false := beq_eq_false_iff_ne.2 (by omega)
      have m6 : ¬ (s.st : Int) = 6 := by omega
      have m6n : ¬ s.st = 6 := h6
      rw [beq_eq_false_iff_ne.2 h6, Bool.false_and, if_neg (by decide)]
      clear HH0 h6
      go_enter Tryz.func133, Tryz.ntmps133
      go_wp2_with (first
        | (go_at_call 132; with_reducible refine HFA.out.mono ?_; rintro r w5 ⟨rfl, hD, hS5⟩)
        | (go_at_call 156; with_reducible refine HT2.out.mono ?_; rintro r w4 ⟨rfl, hw⟩; rw [hw]; clear hw)
        | (go_at_call 153; with_reducible refine HBY.out.mono ?_; rintro r w2 ⟨v1, rfl, h2, hS2⟩
           have HS2 := Lib.hid hS2; have HT2 := Lib.hid (HTL.out w2 v1 h2); have HFA := Lib.hid (fail_any h2 (longE s.st) HLE.out _ rfl)
           have c24 : w2.cell? ⟨g, 24, none⟩ = some (.int .i64 (s.st : Int)) := h2.cs.c24
           clear h2 hS2 c25))
      go_ret
      exact ⟨rfl, _, ⟨_, rfl, hD⟩, HS2.out.trans hS5⟩
theorem look_any (hp : p < 4294967296) (hb0 : b.right = true) (c : UInt8) (h : PR w B g q v f bd t o p b s) (ok : s.Ok) (hout : s.out.length ≤ 1000000000) : Calls Tryz.prog 101 #[ptr g, .int .u8 (c.toNat : Int)] w fun r w' =>
    r = .returned (.bool (s.look p b c).2) ∧ ∃ L1, At w' B g p b L1 (s.look p b c).1 ∧ Step (blks g q v f bd t o) L1 w w' := by
  have H := Lib.hid h
  have c24 := h.cs.c24
  by_cases hbd : bodied s.st = true
  · have hl := ok.left hbd
    have hbl := ok.body
    have HK0 := keep_any c h ⟨hl, by omega⟩ (by omega)
    have HK9 := Lib.hid (fun (w2 : World) (bd1 : Value) (h2 : PR w2 B g q v f bd1 t o p b (s.keep c)) => endData_any hp h2 hout)
    have hst : s.st = 3 ∨ s.st = 5 := by
      unfold bodied at hbd
      simpa using hbd
    unfold T.look
    rw [if_pos hbd]
    clear h hb0 hbl hout ok hbd
    by_cases h1 : s.left = 1
    · rw [decide_eq_true h1] at HK0
      have HK := Lib.hid HK0
      rw [if_pos h1]
      clear HK0 h1 hl
      rcases hst with hst | hst
      · rw [hst] at c24
        clear hst
        go_enter Tryz.func101, Tryz.ntmps101
        go_wp2_with (first
          | (go_at_call 130; with_reducible refine HED.out.mono ?_; rintro r w5 ⟨rfl, q1, v1, f1, bd2, t1, o1, hP, hS5⟩)
          | (go_at_call 129; with_reducible refine HK.out.mono ?_; rintro r w4 ⟨rfl, bd1, h2, hS2⟩
             have HS2 := Lib.hid hS2; have HED := Lib.hid (HK9.out w4 bd1 h2)
             clear h2 hS2))
        go_ret
        exact ⟨rfl, _, ⟨_, _, _, _, _, _, rfl, hP⟩, HS2.out.trans hS5⟩
      · rw [hst] at c24
        clear hst
        go_enter Tryz.func101, Tryz.ntmps101
        go_wp2_with (first
          | (go_at_call 130; with_reducible refine HED.out.mono ?_; rintro r w5 ⟨rfl, q1, v1, f1, bd2, t1, o1, hP, hS5⟩)
          | (go_at_call 129; with_reducible refine HK.out.mono ?_; rintro r w4 ⟨rfl, bd1, h2, hS2⟩
             have HS2 := Lib.hid hS2; have HED := Lib.hid (HK9.out w4 bd1 h2)
             clear h2 hS2))
        go_ret
        exact ⟨rfl, _, ⟨_, _, _, _, _, _, rfl, hP⟩, HS2.out.trans hS5⟩
    · rw [decide_eq_false h1] at HK0
      have HK := Lib.hid HK0
      rw [if_neg h1]
      clear HK0 h1 hl
      rcases hst with hst | hst
      · rw [hst] at c24
        clear hst
        go_enter Tryz.func101, Tryz.ntmps101
        go_wp2_with (go_at_call 129; with_reducible refine HK.out.mono ?_; rintro r w4 ⟨rfl, bd1, h2, hS2⟩)
        go_ret
        exact ⟨rfl, _, ⟨_, _, _, _, _, _, rfl, h2⟩, hS2⟩
      · rw [hst] at c24
        clear hst
        go_enter Tryz.func101, Tryz.ntmps101
        go_wp2_with (go_at_call 129; with_reducible refine HK.out.mono ?_; rintro r w4 ⟨rfl, bd1, h2, hS2⟩)
        go_ret
        exact ⟨rfl, _, ⟨_, _, _, _, _, _, rfl, h2⟩, hS2⟩
  · have hbd : bodied s.st = false := by simpa using hbd
    unfold T.look
    rw [if_neg (by rw [hbd]; decide)]
    have hn : ¬ s.st = 3 ∧ ¬ s.st = 5 := by
      unfold bodied at hbd
      simpa using hbd
    by_cases hhd : headed s.st = true
    · rw [if_pos hhd]
      have hst : s.st = 1 ∨ s.st = 2 ∨ s.st = 7 := by
        unfold headed at hhd
        simp only [Bool.or_eq_true, beq_iff_eq] at hhd
        omega
      have hsz : s.size ≤ 1000000 := Nat.le_trans ok.size (by decide)
      have HQ := Lib.hid ((h.drew 1).bk)
      clear hhd hn
      by_cases hov : b.x2 < (s.counted.size : Int)
      · rw [if_pos hov]
        have HTR := Lib.hid (show (!decide (b.x2 < (s.counted.size : Int))) = false by rw [decide_eq_true hov]; rfl)
        clear hov h hbd hout hb0 ok
        rcases hst with hst | hst | hst
        · rw [hst] at c24
          go_enter Tryz.func101, Tryz.ntmps101
          go_upto_region 10 with fail
          refine Each.region 8 [23, 24, 25, 26, 27, 28, 29, 30]
              [fun v _ => v = .pointer (some ⟨g, 0, none⟩),
                fun v _ => v = .pointer (some ⟨g, 0, none⟩),
                fun v _ => v = .pointer (some ⟨g, 1, none⟩),
                fun v _ => v = .pointer (some ⟨g, 0, none⟩),
                fun v _ => v = .pointer (some ⟨g, 0, none⟩),
                fun v _ => v = .pointer (some ⟨g, 14, none⟩),
                fun v _ => v = .pointer (some ⟨g, 16, none⟩),
                fun v _ => v = .int .i64 b.x2]
              (.act 8 (.quiet 9 .done)) (by kernel_rfl) (by kernel_rfl) (by kernel_rfl) (by kernel_rfl) (fun _ _ d _ _ h => by cases d <;> exact h) (by rfl) (by rfl)
              ⟨Each.Lasts.eq _, Each.Lasts.eq _, Each.Lasts.eq _, Each.Lasts.eq _, Each.Lasts.eq _, Each.Lasts.eq _, Each.Lasts.eq _, Each.Lasts.eq _, trivial⟩ ?_ ?_
          · refine ⟨?_, ?_, ?_, ?_, ?_, ?_, ?_, ?_, trivial⟩
            · refine Each.fine rfl (fun ev w1 hR hb hh => ?_)
              clear hh
              have e0 := hR.old 0 rfl
              simp only [Array.getD_eq_getD_getElem?, List.getElem?_toArray, List.getElem?_cons_zero, Option.getD_some] at e0
              refine Each.Goes.same ?_
              go_simp
              try with_reducible rfl
            · refine Each.fine rfl (fun ev w1 hR hb hh => ?_)
              have e23 : (ev (.tmp 23) = .pointer (some ⟨g, 0, none⟩)) := hh.at 0
              clear hh
              refine Each.Goes.same ?_
              go_simp
              try with_reducible rfl
            · refine Each.fine rfl (fun ev w1 hR hb hh => ?_)
              have e24 : (ev (.tmp 24) = .pointer (some ⟨g, 0, none⟩)) := hh.at 0
              clear hh
              refine Each.Goes.same ?_
              go_simp
              try with_reducible rfl
            · refine Each.fine rfl (fun ev w1 hR hb hh => ?_)
              clear hh
              have e0 := hR.old 0 rfl
              simp only [Array.getD_eq_getD_getElem?, List.getElem?_toArray, List.getElem?_cons_zero, Option.getD_some] at e0
              refine Each.Goes.same ?_
              go_simp
              try with_reducible rfl
            · refine Each.fine rfl (fun ev w1 hR hb hh => ?_)
              have e26 : (ev (.tmp 26) = .pointer (some ⟨g, 0, none⟩)) := hh.at 0
              clear hh
              refine Each.Goes.same ?_
              go_simp
              try with_reducible rfl
            · refine Each.fine rfl (fun ev w1 hR hb hh => ?_)
              have e27 : (ev (.tmp 27) = .pointer (some ⟨g, 0, none⟩)) := hh.at 0
              clear hh
              refine Each.Goes.same ?_
              go_simp
              try with_reducible rfl
            · refine Each.fine rfl (fun ev w1 hR hb hh => ?_)
              have e28 : (ev (.tmp 28) = .pointer (some ⟨g, 14, none⟩)) := hh.at 0
              clear hh
              refine Each.Goes.same ?_
              go_simp
              try with_reducible rfl
            · refine Each.fine rfl (fun ev w1 hR hb hh => ?_)
              have e29 : (ev (.tmp 29) = .pointer (some ⟨g, 16, none⟩)) := hh.at 0
              clear hh
              have q16 := (HQ.out.below hb).c 16 _ rfl
              refine Each.Goes.same ?_
              go_simp
              try with_reducible rfl
          intro g1 w2 hb hf
          have z25 : (g1 25 = .pointer (some ⟨g, 1, none⟩)) := hf.at 2
          have z30 : (g1 30 = .int .i64 b.x2) := hf.at 7
          clear hf
          simp only [Each.putg, Act.put, List.setIfInBounds_toArray, List.set_cons_zero, List.set_cons_succ]
          rw [z25, z30]
          simp only [Tree.grow, Tree.put1, List.getElem?_cons_zero, List.getElem?_cons_succ]
          have HS1 := Lib.hid (Step.of_below hb (L := blks g q v f bd t o))
          have HFI := Lib.hid (count_any b.x2 (H.out.below hb) hsz)
          clear hb HQ
          rw [HTR.out] at HFI
          refine Tree.change (by rfl) (fun K hK => ?_)
          refine Each.oper_enter (g := 131) (args := #[.pointer (some ⟨g, 1, none⟩), .int .i64 b.x2]) (by go_simp) (HFI.out.mono ?_)
          rintro r w3 ⟨rfl, hP, hS⟩
          refine ⟨_, rfl, ?_⟩
          refine hK _ _ trivial ?_
          clear hK K
          simp only [Act.put, List.setIfInBounds_toArray, List.set_cons_zero, List.set_cons_succ]
          refine Tree.quiet (by rfl) (.bool true) (fun _ _ => by go_simp) ?_
          simp only [Act.put, List.setIfInBounds_toArray, List.set_cons_zero, List.set_cons_succ]
          refine Tree.done ?_
          have HP2 := Lib.hid hP; have HS2 := Lib.hid (HS1.out.trans hS)
          clear HFI HS1 hS
          have HF := Lib.hid (fail_any hP 431 (by decide) 431 rfl)
          clear hP
          go_wp2_with (go_at_call 132; with_reducible refine HF.out.mono ?_; rintro r w4 ⟨rfl, hD, hS4⟩)
          go_ret
          exact ⟨rfl, _, ⟨_, rfl, by rw [counted_out] at hD; exact hD⟩, HS2.out.trans hS4⟩
        · rw [hst] at c24
          go_enter Tryz.func101, Tryz.ntmps101
          go_upto_region 10 with fail
          refine Each.region 8 [23, 24, 25, 26, 27, 28, 29, 30]
              [fun v _ => v = .pointer (some ⟨g, 0, none⟩),
                fun v _ => v = .pointer (some ⟨g, 0, none⟩),
                fun v _ => v = .pointer (some ⟨g, 1, none⟩),
                fun v _ => v = .pointer (some ⟨g, 0, none⟩),
                fun v _ => v = .pointer (some ⟨g, 0, none⟩),
                fun v _ => v = .pointer (some ⟨g, 14, none⟩),
                fun v _ => v = .pointer (some ⟨g, 16, none⟩),
                fun v _ => v = .int .i64 b.x2]
              (.act 8 (.quiet 9 .done)) (by kernel_rfl) (by kernel_rfl) (by kernel_rfl) (by kernel_rfl) (fun _ _ d _ _ h => by cases d <;> exact h) (by rfl) (by rfl)
              ⟨Each.Lasts.eq _, Each.Lasts.eq _, Each.Lasts.eq _, Each.Lasts.eq _, Each.Lasts.eq _, Each.Lasts.eq _, Each.Lasts.eq _, Each.Lasts.eq _, trivial⟩ ?_ ?_
          · refine ⟨?_, ?_, ?_, ?_, ?_, ?_, ?_, ?_, trivial⟩
            · refine Each.fine rfl (fun ev w1 hR hb hh => ?_)
              clear hh
              have e0 := hR.old 0 rfl
              simp only [Array.getD_eq_getD_getElem?, List.getElem?_toArray, List.getElem?_cons_zero, Option.getD_some] at e0
              refine Each.Goes.same ?_
              go_simp
              try with_reducible rfl
            · refine Each.fine rfl (fun ev w1 hR hb hh => ?_)
              have e23 : (ev (.tmp 23) = .pointer (some ⟨g, 0, none⟩)) := hh.at 0
              clear hh
              refine Each.Goes.same ?_
              go_simp
              try with_reducible rfl
            · refine Each.fine rfl (fun ev w1 hR hb hh => ?_)
              have e24 : (ev (.tmp 24) = .pointer (some ⟨g, 0, none⟩)) := hh.at 0
              clear hh
              refine Each.Goes.same ?_
              go_simp
              try with_reducible rfl
            · refine Each.fine rfl (fun ev w1 hR hb hh => ?_)
              clear hh
              have e0 := hR.old 0 rfl
              simp only [Array.getD_eq_getD_getElem?, List.getElem?_toArray, List.getElem?_cons_zero, Option.getD_some] at e0
              refine Each.Goes.same ?_
              go_simp
              try with_reducible rfl
            · refine Each.fine rfl (fun ev w1 hR hb hh => ?_)
              have e26 : (ev (.tmp 26) = .pointer (some ⟨g, 0, none⟩)) := hh.at 0
              clear hh
              refine Each.Goes.same ?_
              go_simp
              try with_reducible rfl
            · refine Each.fine rfl (fun ev w1 hR hb hh => ?_)
              have e27 : (ev (.tmp 27) = .pointer (some ⟨g, 0, none⟩)) := hh.at 0
              clear hh
              refine Each.Goes.same ?_
              go_simp
              try with_reducible rfl
            · refine Each.fine rfl (fun ev w1 hR hb hh => ?_)
              have e28 : (ev (.tmp 28) = .pointer (some ⟨g, 14, none⟩)) := hh.at 0
              clear hh
              refine Each.Goes.same ?_
              go_simp
              try with_reducible rfl
            · refine Each.fine rfl (fun ev w1 hR hb hh => ?_)
              have e29 : (ev (.tmp 29) = .pointer (some ⟨g, 16, none⟩)) := hh.at 0
              clear hh
              have q16 := (HQ.out.below hb).c 16 _ rfl
              refine Each.Goes.same ?_
              go_simp
              try with_reducible rfl
          intro g1 w2 hb hf
          have z25 : (g1 25 = .pointer (some ⟨g, 1, none⟩)) := hf.at 2
          have z30 : (g1 30 = .int .i64 b.x2) := hf.at 7
          clear hf
          simp only [Each.putg, Act.put, List.setIfInBounds_toArray, List.set_cons_zero, List.set_cons_succ]
          rw [z25, z30]
          simp only [Tree.grow, Tree.put1, List.getElem?_cons_zero, List.getElem?_cons_succ]
          have HS1 := Lib.hid (Step.of_below hb (L := blks g q v f bd t o))
          have HFI := Lib.hid (count_any b.x2 (H.out.below hb) hsz)
          clear hb HQ
          rw [HTR.out] at HFI
          refine Tree.change (by rfl) (fun K hK => ?_)
          refine Each.oper_enter (g := 131) (args := #[.pointer (some ⟨g, 1, none⟩), .int .i64 b.x2]) (by go_simp) (HFI.out.mono ?_)
          rintro r w3 ⟨rfl, hP, hS⟩
          refine ⟨_, rfl, ?_⟩
          refine hK _ _ trivial ?_
          clear hK K
          simp only [Act.put, List.setIfInBounds_toArray, List.set_cons_zero, List.set_cons_succ]
          refine Tree.quiet (by rfl) (.bool true) (fun _ _ => by go_simp) ?_
          simp only [Act.put, List.setIfInBounds_toArray, List.set_cons_zero, List.set_cons_succ]
          refine Tree.done ?_
          have HP2 := Lib.hid hP; have HS2 := Lib.hid (HS1.out.trans hS)
          clear HFI HS1 hS
          have HF := Lib.hid (fail_any hP 431 (by decide) 431 rfl)
          clear hP
          go_wp2_with (go_at_call 132; with_reducible refine HF.out.mono ?_; rintro r w4 ⟨rfl, hD, hS4⟩)
          go_ret
          exact ⟨rfl, _, ⟨_, rfl, by rw [counted_out] at hD; exact hD⟩, HS2.out.trans hS4⟩
        · rw [hst] at c24
          go_enter Tryz.func101, Tryz.ntmps101
          go_upto_region 10 with fail
          refine Each.region 8 [23, 24, 25, 26, 27, 28, 29, 30]
              [fun v _ => v = .pointer (some ⟨g, 0, none⟩),
                fun v _ => v = .pointer (some ⟨g, 0, none⟩),
                fun v _ => v = .pointer (some ⟨g, 1, none⟩),
                fun v _ => v = .pointer (some ⟨g, 0, none⟩),
                fun v _ => v = .pointer (some ⟨g, 0, none⟩),
                fun v _ => v = .pointer (some ⟨g, 14, none⟩),
                fun v _ => v = .pointer (some ⟨g, 16, none⟩),
                fun v _ => v = .int .i64 b.x2]
              (.act 8 (.quiet 9 .done)) (by kernel_rfl) (by kernel_rfl) (by kernel_rfl) (by kernel_rfl) (fun _ _ d _ _ h => by cases d <;> exact h) (by rfl) (by rfl)
              ⟨Each.Lasts.eq _, Each.Lasts.eq _, Each.Lasts.eq _, Each.Lasts.eq _, Each.Lasts.eq _, Each.Lasts.eq _, Each.Lasts.eq _, Each.Lasts.eq _, trivial⟩ ?_ ?_
          · refine ⟨?_, ?_, ?_, ?_, ?_, ?_, ?_, ?_, trivial⟩
            · refine Each.fine rfl (fun ev w1 hR hb hh => ?_)
              clear hh
              have e0 := hR.old 0 rfl
              simp only [Array.getD_eq_getD_getElem?, List.getElem?_toArray, List.getElem?_cons_zero, Option.getD_some] at e0
              refine Each.Goes.same ?_
              go_simp
              try with_reducible rfl
            · refine Each.fine rfl (fun ev w1 hR hb hh => ?_)
              have e23 : (ev (.tmp 23) = .pointer (some ⟨g, 0, none⟩)) := hh.at 0
              clear hh
              refine Each.Goes.same ?_
              go_simp
              try with_reducible rfl
            · refine Each.fine rfl (fun ev w1 hR hb hh => ?_)
              have e24 : (ev (.tmp 24) = .pointer (some ⟨g, 0, none⟩)) := hh.at 0
              clear hh
              refine Each.Goes.same ?_
              go_simp
              try with_reducible rfl
            · refine Each.fine rfl (fun ev w1 hR hb hh => ?_)
              clear hh
              have e0 := hR.old 0 rfl
              simp only [Array.getD_eq_getD_getElem?, List.getElem?_toArray, List.getElem?_cons_zero, Option.getD_some] at e0
              refine Each.Goes.same ?_
              go_simp
              try with_reducible rfl
            · refine Each.fine rfl (fun ev w1 hR hb hh => ?_)
              have e26 : (ev (.tmp 26) = .pointer (some ⟨g, 0, none⟩)) := hh.at 0
              clear hh
              refine Each.Goes.same ?_
              go_simp
              try with_reducible rfl
            · refine Each.fine rfl (fun ev w1 hR hb hh => ?_)
              have e27 : (ev (.tmp 27) = .pointer (some ⟨g, 0, none⟩)) := hh.at 0
              clear hh
              refine Each.Goes.same ?_
              go_simp
              try with_reducible rfl
            · refine Each.fine rfl (fun ev w1 hR hb hh => ?_)
              have e28 : (ev (.tmp 28) = .pointer (some ⟨g, 14, none⟩)) := hh.at 0
              clear hh
              refine Each.Goes.same ?_
              go_simp
              try with_reducible rfl
            · refine Each.fine rfl (fun ev w1 hR hb hh => ?_)
              have e29 : (ev (.tmp 29) = .pointer (some ⟨g, 16, none⟩)) := hh.at 0
              clear hh
              have q16 := (HQ.out.below hb).c 16 _ rfl
              refine Each.Goes.same ?_
              go_simp
              try with_reducible rfl
          intro g1 w2 hb hf
          have z25 : (g1 25 = .pointer (some ⟨g, 1, none⟩)) := hf.at 2
          have z30 : (g1 30 = .int .i64 b.x2) := hf.at 7
          clear hf
          simp only [Each.putg, Act.put, List.setIfInBounds_toArray, List.set_cons_zero, List.set_cons_succ]
          rw [z25, z30]
          simp only [Tree.grow, Tree.put1, List.getElem?_cons_zero, List.getElem?_cons_succ]
          have HS1 := Lib.hid (Step.of_below hb (L := blks g q v f bd t o))
          have HFI := Lib.hid (count_any b.x2 (H.out.below hb) hsz)
          clear hb HQ
          rw [HTR.out] at HFI
          refine Tree.change (by rfl) (fun K hK => ?_)
          refine Each.oper_enter (g := 131) (args := #[.pointer (some ⟨g, 1, none⟩), .int .i64 b.x2]) (by go_simp) (HFI.out.mono ?_)
          rintro r w3 ⟨rfl, hP, hS⟩
          refine ⟨_, rfl, ?_⟩
          refine hK _ _ trivial ?_
          clear hK K
          simp only [Act.put, List.setIfInBounds_toArray, List.set_cons_zero, List.set_cons_succ]
          refine Tree.quiet (by rfl) (.bool true) (fun _ _ => by go_simp) ?_
          simp only [Act.put, List.setIfInBounds_toArray, List.set_cons_zero, List.set_cons_succ]
          refine Tree.done ?_
          have HP2 := Lib.hid hP; have HS2 := Lib.hid (HS1.out.trans hS)
          clear HFI HS1 hS
          have HF := Lib.hid (fail_any hP 431 (by decide) 431 rfl)
          clear hP
          go_wp2_with (go_at_call 132; with_reducible refine HF.out.mono ?_; rintro r w4 ⟨rfl, hD, hS4⟩)
          go_ret
          exact ⟨rfl, _, ⟨_, rfl, by rw [counted_out] at hD; exact hD⟩, HS2.out.trans hS4⟩
      · rw [if_neg hov]
        have HTR := Lib.hid (show (!decide (b.x2 < (s.counted.size : Int))) = true by rw [decide_eq_false hov]; rfl)
        clear h hbd
        rcases hst with hst | hst | hst
        · rw [hst] at c24
          go_enter Tryz.func101, Tryz.ntmps101
          go_upto_region 10 with fail
          refine Each.region 8 [23, 24, 25, 26, 27, 28, 29, 30]
              [fun v _ => v = .pointer (some ⟨g, 0, none⟩),
                fun v _ => v = .pointer (some ⟨g, 0, none⟩),
                fun v _ => v = .pointer (some ⟨g, 1, none⟩),
                fun v _ => v = .pointer (some ⟨g, 0, none⟩),
                fun v _ => v = .pointer (some ⟨g, 0, none⟩),
                fun v _ => v = .pointer (some ⟨g, 14, none⟩),
                fun v _ => v = .pointer (some ⟨g, 16, none⟩),
                fun v _ => v = .int .i64 b.x2]
              (.act 8 (.quiet 9 .done)) (by kernel_rfl) (by kernel_rfl) (by kernel_rfl) (by kernel_rfl) (fun _ _ d _ _ h => by cases d <;> exact h) (by rfl) (by rfl)
              ⟨Each.Lasts.eq _, Each.Lasts.eq _, Each.Lasts.eq _, Each.Lasts.eq _, Each.Lasts.eq _, Each.Lasts.eq _, Each.Lasts.eq _, Each.Lasts.eq _, trivial⟩ ?_ ?_
          · refine ⟨?_, ?_, ?_, ?_, ?_, ?_, ?_, ?_, trivial⟩
            · refine Each.fine rfl (fun ev w1 hR hb hh => ?_)
              clear hh
              have e0 := hR.old 0 rfl
              simp only [Array.getD_eq_getD_getElem?, List.getElem?_toArray, List.getElem?_cons_zero, Option.getD_some] at e0
              refine Each.Goes.same ?_
              go_simp
              try with_reducible rfl
            · refine Each.fine rfl (fun ev w1 hR hb hh => ?_)
              have e23 : (ev (.tmp 23) = .pointer (some ⟨g, 0, none⟩)) := hh.at 0
              clear hh
              refine Each.Goes.same ?_
              go_simp
              try with_reducible rfl
            · refine Each.fine rfl (fun ev w1 hR hb hh => ?_)
              have e24 : (ev (.tmp 24) = .pointer (some ⟨g, 0, none⟩)) := hh.at 0
              clear hh
              refine Each.Goes.same ?_
              go_simp
              try with_reducible rfl
            · refine Each.fine rfl (fun ev w1 hR hb hh => ?_)
              clear hh
              have e0 := hR.old 0 rfl
              simp only [Array.getD_eq_getD_getElem?, List.getElem?_toArray, List.getElem?_cons_zero, Option.getD_some] at e0
              refine Each.Goes.same ?_
              go_simp
              try with_reducible rfl
            · refine Each.fine rfl (fun ev w1 hR hb hh => ?_)
              have e26 : (ev (.tmp 26) = .pointer (some ⟨g, 0, none⟩)) := hh.at 0
              clear hh
              refine Each.Goes.same ?_
              go_simp
              try with_reducible rfl
            · refine Each.fine rfl (fun ev w1 hR hb hh => ?_)
              have e27 : (ev (.tmp 27) = .pointer (some ⟨g, 0, none⟩)) := hh.at 0
              clear hh
              refine Each.Goes.same ?_
              go_simp
              try with_reducible rfl
            · refine Each.fine rfl (fun ev w1 hR hb hh => ?_)
              have e28 : (ev (.tmp 28) = .pointer (some ⟨g, 14, none⟩)) := hh.at 0
              clear hh
              refine Each.Goes.same ?_
              go_simp
              try with_reducible rfl
            · refine Each.fine rfl (fun ev w1 hR hb hh => ?_)
              have e29 : (ev (.tmp 29) = .pointer (some ⟨g, 16, none⟩)) := hh.at 0
              clear hh
              have q16 := (HQ.out.below hb).c 16 _ rfl
              refine Each.Goes.same ?_
              go_simp
              try with_reducible rfl
          intro g1 w2 hb hf
          have z25 : (g1 25 = .pointer (some ⟨g, 1, none⟩)) := hf.at 2
          have z30 : (g1 30 = .int .i64 b.x2) := hf.at 7
          clear hf
          simp only [Each.putg, Act.put, List.setIfInBounds_toArray, List.set_cons_zero, List.set_cons_succ]
          rw [z25, z30]
          simp only [Tree.grow, Tree.put1, List.getElem?_cons_zero, List.getElem?_cons_succ]
          have HS1 := Lib.hid (Step.of_below hb (L := blks g q v f bd t o))
          have HFI := Lib.hid (count_any b.x2 (H.out.below hb) hsz)
          clear hb HQ
          rw [HTR.out] at HFI
          refine Tree.change (by rfl) (fun K hK => ?_)
          refine Each.oper_enter (g := 131) (args := #[.pointer (some ⟨g, 1, none⟩), .int .i64 b.x2]) (by go_simp) (HFI.out.mono ?_)
          rintro r w3 ⟨rfl, hP, hS⟩
          refine ⟨_, rfl, ?_⟩
          refine hK _ _ trivial ?_
          clear hK K
          simp only [Act.put, List.setIfInBounds_toArray, List.set_cons_zero, List.set_cons_succ]
          refine Tree.quiet (by rfl) (.bool false) (fun _ _ => by go_simp) ?_
          simp only [Act.put, List.setIfInBounds_toArray, List.set_cons_zero, List.set_cons_succ]
          refine Tree.done ?_
          have HP2 := Lib.hid hP; have HS2 := Lib.hid (HS1.out.trans hS)
          clear HFI HS1 hS
          have HI := Lib.hid (inLine_any hp hb0 c hP (ok.counted hb0 hov) (by rw [counted_out]; exact hout))
          clear hP
          go_wp2_with (go_at_call 133; with_reducible refine HI.out.mono ?_; rintro r w4 ⟨rfl, L4, hA, hS4⟩)
          go_ret
          exact ⟨rfl, L4, hA, HS2.out.trans hS4⟩
        · rw [hst] at c24
          go_enter Tryz.func101, Tryz.ntmps101
          go_upto_region 10 with fail
          refine Each.region 8 [23, 24, 25, 26, 27, 28, 29, 30]
              [fun v _ => v = .pointer (some ⟨g, 0, none⟩),
                fun v _ => v = .pointer (some ⟨g, 0, none⟩),
                fun v _ => v = .pointer (some ⟨g, 1, none⟩),
                fun v _ => v = .pointer (some ⟨g, 0, none⟩),
                fun v _ => v = .pointer (some ⟨g, 0, none⟩),
                fun v _ => v = .pointer (some ⟨g, 14, none⟩),
                fun v _ => v = .pointer (some ⟨g, 16, none⟩),
                fun v _ => v = .int .i64 b.x2]
              (.act 8 (.quiet 9 .done)) (by kernel_rfl) (by kernel_rfl) (by kernel_rfl) (by kernel_rfl) (fun _ _ d _ _ h => by cases d <;> exact h) (by rfl) (by rfl)
              ⟨Each.Lasts.eq _, Each.Lasts.eq _, Each.Lasts.eq _, Each.Lasts.eq _, Each.Lasts.eq _, Each.Lasts.eq _, Each.Lasts.eq _, Each.Lasts.eq _, trivial⟩ ?_ ?_
          · refine ⟨?_, ?_, ?_, ?_, ?_, ?_, ?_, ?_, trivial⟩
            · refine Each.fine rfl (fun ev w1 hR hb hh => ?_)
              clear hh
              have e0 := hR.old 0 rfl
              simp only [Array.getD_eq_getD_getElem?, List.getElem?_toArray, List.getElem?_cons_zero, Option.getD_some] at e0
              refine Each.Goes.same ?_
              go_simp
              try with_reducible rfl
            · refine Each.fine rfl (fun ev w1 hR hb hh => ?_)
              have e23 : (ev (.tmp 23) = .pointer (some ⟨g, 0, none⟩)) := hh.at 0
              clear hh
              refine Each.Goes.same ?_
              go_simp
              try with_reducible rfl
            · refine Each.fine rfl (fun ev w1 hR hb hh => ?_)
              have e24 : (ev (.tmp 24) = .pointer (some ⟨g, 0, none⟩)) := hh.at 0
              clear hh
              refine Each.Goes.same ?_
              go_simp
              try with_reducible rfl
            · refine Each.fine rfl (fun ev w1 hR hb hh => ?_)
              clear hh
              have e0 := hR.old 0 rfl
              simp only [Array.getD_eq_getD_getElem?, List.getElem?_toArray, List.getElem?_cons_zero, Option.getD_some] at e0
              refine Each.Goes.same ?_
              go_simp
              try with_reducible rfl
            · refine Each.fine rfl (fun ev w1 hR hb hh => ?_)
              have e26 : (ev (.tmp 26) = .pointer (some ⟨g, 0, none⟩)) := hh.at 0
              clear hh
              refine Each.Goes.same ?_
              go_simp
              try with_reducible rfl
            · refine Each.fine rfl (fun ev w1 hR hb hh => ?_)
              have e27 : (ev (.tmp 27) = .pointer (some ⟨g, 0, none⟩)) := hh.at 0
              clear hh
              refine Each.Goes.same ?_
              go_simp
              try with_reducible rfl
            · refine Each.fine rfl (fun ev w1 hR hb hh => ?_)
              have e28 : (ev (.tmp 28) = .pointer (some ⟨g, 14, none⟩)) := hh.at 0
              clear hh
              refine Each.Goes.same ?_
              go_simp
              try with_reducible rfl
            · refine Each.fine rfl (fun ev w1 hR hb hh => ?_)
              have e29 : (ev (.tmp 29) = .pointer (some ⟨g, 16, none⟩)) := hh.at 0
              clear hh
              have q16 := (HQ.out.below hb).c 16 _ rfl
              refine Each.Goes.same ?_
              go_simp
              try with_reducible rfl
          intro g1 w2 hb hf
          have z25 : (g1 25 = .pointer (some ⟨g, 1, none⟩)) := hf.at 2
          have z30 : (g1 30 = .int .i64 b.x2) := hf.at 7
          clear hf
          simp only [Each.putg, Act.put, List.setIfInBounds_toArray, List.set_cons_zero, List.set_cons_succ]
          rw [z25, z30]
          simp only [Tree.grow, Tree.put1, List.getElem?_cons_zero, List.getElem?_cons_succ]
          have HS1 := Lib.hid (Step.of_below hb (L := blks g q v f bd t o))
          have HFI := Lib.hid (count_any b.x2 (H.out.below hb) hsz)
          clear hb HQ
          rw [HTR.out] at HFI
          refine Tree.change (by rfl) (fun K hK => ?_)
          refine Each.oper_enter (g := 131) (args := #[.pointer (some ⟨g, 1, none⟩), .int .i64 b.x2]) (by go_simp) (HFI.out.mono ?_)
          rintro r w3 ⟨rfl, hP, hS⟩
          refine ⟨_, rfl, ?_⟩
          refine hK _ _ trivial ?_
          clear hK K
          simp only [Act.put, List.setIfInBounds_toArray, List.set_cons_zero, List.set_cons_succ]
          refine Tree.quiet (by rfl) (.bool false) (fun _ _ => by go_simp) ?_
          simp only [Act.put, List.setIfInBounds_toArray, List.set_cons_zero, List.set_cons_succ]
          refine Tree.done ?_
          have HP2 := Lib.hid hP; have HS2 := Lib.hid (HS1.out.trans hS)
          clear HFI HS1 hS
          have HI := Lib.hid (inLine_any hp hb0 c hP (ok.counted hb0 hov) (by rw [counted_out]; exact hout))
          clear hP
          go_wp2_with (go_at_call 133; with_reducible refine HI.out.mono ?_; rintro r w4 ⟨rfl, L4, hA, hS4⟩)
          go_ret
          exact ⟨rfl, L4, hA, HS2.out.trans hS4⟩
        · rw [hst] at c24
          go_enter Tryz.func101, Tryz.ntmps101
          go_upto_region 10 with fail
          refine Each.region 8 [23, 24, 25, 26, 27, 28, 29, 30]
              [fun v _ => v = .pointer (some ⟨g, 0, none⟩),
                fun v _ => v = .pointer (some ⟨g, 0, none⟩),
                fun v _ => v = .pointer (some ⟨g, 1, none⟩),
                fun v _ => v = .pointer (some ⟨g, 0, none⟩),
                fun v _ => v = .pointer (some ⟨g, 0, none⟩),
                fun v _ => v = .pointer (some ⟨g, 14, none⟩),
                fun v _ => v = .pointer (some ⟨g, 16, none⟩),
                fun v _ => v = .int .i64 b.x2]
              (.act 8 (.quiet 9 .done)) (by kernel_rfl) (by kernel_rfl) (by kernel_rfl) (by kernel_rfl) (fun _ _ d _ _ h => by cases d <;> exact h) (by rfl) (by rfl)
              ⟨Each.Lasts.eq _, Each.Lasts.eq _, Each.Lasts.eq _, Each.Lasts.eq _, Each.Lasts.eq _, Each.Lasts.eq _, Each.Lasts.eq _, Each.Lasts.eq _, trivial⟩ ?_ ?_
          · refine ⟨?_, ?_, ?_, ?_, ?_, ?_, ?_, ?_, trivial⟩
            · refine Each.fine rfl (fun ev w1 hR hb hh => ?_)
              clear hh
              have e0 := hR.old 0 rfl
              simp only [Array.getD_eq_getD_getElem?, List.getElem?_toArray, List.getElem?_cons_zero, Option.getD_some] at e0
              refine Each.Goes.same ?_
              go_simp
              try with_reducible rfl
            · refine Each.fine rfl (fun ev w1 hR hb hh => ?_)
              have e23 : (ev (.tmp 23) = .pointer (some ⟨g, 0, none⟩)) := hh.at 0
              clear hh
              refine Each.Goes.same ?_
              go_simp
              try with_reducible rfl
            · refine Each.fine rfl (fun ev w1 hR hb hh => ?_)
              have e24 : (ev (.tmp 24) = .pointer (some ⟨g, 0, none⟩)) := hh.at 0
              clear hh
              refine Each.Goes.same ?_
              go_simp
              try with_reducible rfl
            · refine Each.fine rfl (fun ev w1 hR hb hh => ?_)
              clear hh
              have e0 := hR.old 0 rfl
              simp only [Array.getD_eq_getD_getElem?, List.getElem?_toArray, List.getElem?_cons_zero, Option.getD_some] at e0
              refine Each.Goes.same ?_
              go_simp
              try with_reducible rfl
            · refine Each.fine rfl (fun ev w1 hR hb hh => ?_)
              have e26 : (ev (.tmp 26) = .pointer (some ⟨g, 0, none⟩)) := hh.at 0
              clear hh
              refine Each.Goes.same ?_
              go_simp
              try with_reducible rfl
            · refine Each.fine rfl (fun ev w1 hR hb hh => ?_)
              have e27 : (ev (.tmp 27) = .pointer (some ⟨g, 0, none⟩)) := hh.at 0
              clear hh
              refine Each.Goes.same ?_
              go_simp
              try with_reducible rfl
            · refine Each.fine rfl (fun ev w1 hR hb hh => ?_)
              have e28 : (ev (.tmp 28) = .pointer (some ⟨g, 14, none⟩)) := hh.at 0
              clear hh
              refine Each.Goes.same ?_
              go_simp
              try with_reducible rfl
            · refine Each.fine rfl (fun ev w1 hR hb hh => ?_)
              have e29 : (ev (.tmp 29) = .pointer (some ⟨g, 16, none⟩)) := hh.at 0
              clear hh
              have q16 := (HQ.out.below hb).c 16 _ rfl
              refine Each.Goes.same ?_
              go_simp
              try with_reducible rfl
          intro g1 w2 hb hf
          have z25 : (g1 25 = .pointer (some ⟨g, 1, none⟩)) := hf.at 2
          have z30 : (g1 30 = .int .i64 b.x2) := hf.at 7
          clear hf
          simp only [Each.putg, Act.put, List.setIfInBounds_toArray, List.set_cons_zero, List.set_cons_succ]
          rw [z25, z30]
          simp only [Tree.grow, Tree.put1, List.getElem?_cons_zero, List.getElem?_cons_succ]
          have HS1 := Lib.hid (Step.of_below hb (L := blks g q v f bd t o))
          have HFI := Lib.hid (count_any b.x2 (H.out.below hb) hsz)
          clear hb HQ
          rw [HTR.out] at HFI
          refine Tree.change (by rfl) (fun K hK => ?_)
          refine Each.oper_enter (g := 131) (args := #[.pointer (some ⟨g, 1, none⟩), .int .i64 b.x2]) (by go_simp) (HFI.out.mono ?_)
          rintro r w3 ⟨rfl, hP, hS⟩
          refine ⟨_, rfl, ?_⟩
          refine hK _ _ trivial ?_
          clear hK K
          simp only [Act.put, List.setIfInBounds_toArray, List.set_cons_zero, List.set_cons_succ]
          refine Tree.quiet (by rfl) (.bool false) (fun _ _ => by go_simp) ?_
          simp only [Act.put, List.setIfInBounds_toArray, List.set_cons_zero, List.set_cons_succ]
          refine Tree.done ?_
          have HP2 := Lib.hid hP; have HS2 := Lib.hid (HS1.out.trans hS)
          clear HFI HS1 hS
          have HI := Lib.hid (inLine_any hp hb0 c hP (ok.counted hb0 hov) (by rw [counted_out]; exact hout))
          clear hP
          go_wp2_with (go_at_call 133; with_reducible refine HI.out.mono ?_; rintro r w4 ⟨rfl, L4, hA, hS4⟩)
          go_ret
          exact ⟨rfl, L4, hA, HS2.out.trans hS4⟩
    · rw [if_neg hhd]
      have hn2 : ¬ s.st = 1 ∧ ¬ s.st = 2 ∧ ¬ s.st = 7 := by
        unfold headed at hhd
        simp only [Bool.or_eq_true, beq_iff_eq] at hhd
        omega
      have t1 : ((s.st : Int) == 1) = false := beq_eq_false_iff_ne.2 (by omega); have m1 : ¬ (s.st : Int) = 1 := by omega
      have t2 : ((s.st : Int) == 2) = false := beq_eq_false_iff_ne.2 (by omega); have m2 : ¬ (s.st : Int) = 2 := by omega
      have t3 : ((s.st : Int) == 3) = false := beq_eq_false_iff_ne.2 (by omega); have m3 : ¬ (s.st : Int) = 3 := by omega
      have t5 : ((s.st : Int) == 5) = false := beq_eq_false_iff_ne.2 (by omega); have m5 : ¬ (s.st : Int) = 5 := by omega
      have t7 : ((s.st : Int) == 7) = false := beq_eq_false_iff_ne.2 (by omega); have m7 : ¬ (s.st : Int) = 7 := by omega
      have HI := Lib.hid (inLine_any hp hb0 c h ok hout)
      clear h hbd ok hout hb0 hhd hn hn2
      go_enter Tryz.func101, Tryz.ntmps101
      go_wp2_with (go_at_call 133; with_reducible refine HI.out.mono ?_; rintro r w4 ⟨rfl, L4, hA, hS4⟩)
      go_ret
      exact ⟨rfl, L4, hA, hS4⟩
end code
end Go.Proofs.YtlkmpkofgaceiaaGreatDoor.Pg
/- PgFeed -/
namespace Go.Proofs.YtlkmpkofgaceiaaGreatDoor.Pg
open Go.RowKit Base Txt Par

section
variable {p : Nat} {b : Bd} {t t' : T}
theorem feed_nil (x : Q) : x.feed p b [] = x := rfl
theorem feed_cons (x : Q) (c : UInt8) (l : List UInt8) : x.feed p b (c :: l) = (x.byte p b c).feed p b l := rfl
theorem feed_app (x : Q) (l l' : List UInt8) : x.feed p b (l ++ l') = (x.feed p b l).feed p b l' := List.foldl_append
/-- There is room in a head for so many bytes more. -/
def T.room (b : Bd) (t : T) (n : Nat) : Prop := headed t.st = true → ((t.size + n : Nat) : Int) ≤ b.x2
/-- A line may go on: no CR is pending. -/
structure T.Open (t : T) : Prop where
  st : bodied t.st = false
  pend : t.rd.pend = false
  nf : Ln.failed t.rd.last = false
/-- Behind a byte of a line. -/
def T.went (t : T) (rd : Ln.M) (n : Nat) : T := { t with rd := rd, size := if headed t.st = true then t.size + n else t.size, cnt := headed t.st }
theorem take_line (h : bodied t.st = false) (c : UInt8) (hr : t.room b 1) : t.take p b c = (match ({ t with size := if headed t.st = true then t.size + 1 else t.size, cnt := headed t.st } : T).inLine p b c with
    | (.live t1, false) => (t1.look p b c).1
    | (x, _) => x) := by
  unfold T.take T.look
  have e : ¬ bodied ({ t with cnt := false } : T).st = true := by rw [show ({ t with cnt := false } : T).st = t.st from rfl, h]; decide
  rw [if_neg e]
  by_cases hh : headed t.st = true
  · have hr' := hr hh
    rw [if_pos (show headed ({ t with cnt := false } : T).st = true from hh)]
    have e2 : T.counted { t with cnt := false } = { t with size := if headed t.st = true then t.size + 1 else t.size, cnt := headed t.st } := by
      unfold T.counted
      rw [if_pos hh, hh]
      rfl
    rw [e2, if_neg (by show ¬ b.x2 < ((if headed t.st = true then t.size + 1 else t.size : Nat) : Int); rw [if_pos hh]; omega)]
    rfl
  · rw [if_neg (show ¬ headed ({ t with cnt := false } : T).st = true from hh)]
    have e2 : headed t.st = false := by simpa using hh
    rw [if_neg hh, e2]
    rfl
/-- A plain byte. -/
theorem take_plain (h : t.Open) (c : UInt8) (h10 : c ≠ 10) (h13 : c ≠ 13) (hm : t.rd.clear.buf.length < t.rd.most) (hr : t.room b 1) :
    t.take p b c = .live (t.went { t.rd with buf := t.rd.clear.buf ++ [c], last := 0, pend := false } 1) := by
  rw [take_line h.st c hr]
  have e0 : t.rd.clear.next c = 0 := by
    unfold Ln.M.next
    rw [show t.rd.clear.last = t.rd.last from rfl, show t.rd.clear.pend = t.rd.pend from rfl, h.nf, h.pend, if_neg (by decide), if_neg (by decide), if_neg h10, if_neg h13, if_neg (by rw [show t.rd.clear.most = t.rd.most from rfl]; omega)]
  have ek : t.rd.clear.keeps c = true := by
    unfold Ln.M.keeps
    rw [show t.rd.clear.last = t.rd.last from rfl, show t.rd.clear.pend = t.rd.pend from rfl, h.nf, h.pend, if_neg (by decide), if_neg (by decide), if_neg h10, if_neg h13, if_neg (by rw [show t.rd.clear.most = t.rd.most from rfl]; omega)]
  have eb : t.rd.byte c = { t.rd with buf := t.rd.clear.buf ++ [c], last := 0, pend := false } := by
    unfold Ln.M.byte Ln.M.told
    rw [e0, ek, if_pos rfl, beq_eq_false_iff_ne.2 h13]
    rfl
  unfold T.inLine
  dsimp only
  rw [e0, if_pos rfl, eb]
  rfl
theorem went_open (h : bodied t.st = false) {rd : Ln.M} (h1 : rd.pend = false) (h2 : Ln.failed rd.last = false) (n : Nat) : (t.went rd n).Open := ⟨h, h1, h2⟩
theorem went_went (rd rd' : Ln.M) (n k : Nat) : (t.went rd n).went rd' k = t.went rd' (n + k) := by
  unfold T.went
  dsimp only
  split <;> simp [Nat.add_assoc]
theorem went_room {rd : Ln.M} {n k : Nat} (h : t.room b (n + k)) : (t.went rd n).room b k := by
  intro hh
  have := h hh
  show ((((if headed t.st = true then t.size + n else t.size) + k : Nat)) : Int) ≤ b.x2
  rw [if_pos (show headed t.st = true from hh)]
  omega
theorem room_le {n k : Nat} (h : t.room b k) (hn : n ≤ k) : t.room b n := fun hh => by have := h hh; omega
/-- Plain bytes. -/
theorem feed_plain (l : List UInt8) : ∀ t : T, l ≠ [] → t.Open → (∀ c ∈ l, c ≠ 10 ∧ c ≠ 13) → t.rd.clear.buf.length + l.length ≤ t.rd.most → t.room b l.length →
    (Q.live t).feed p b l = .live (t.went { t.rd with buf := t.rd.clear.buf ++ l, last := 0, pend := false } l.length) := by
  induction l with
  | nil => intro t h; exact absurd rfl h
  | cons c l ih =>
    intro t _ ho hc hm hr
    have h1 := hc c (by simp)
    simp only [List.length_cons] at hm hr ⊢
    rw [feed_cons]
    show ((t.take p b c).feed p b l) = _
    rw [take_plain ho c h1.1 h1.2 (by omega) (room_le hr (by omega))]
    rcases List.eq_nil_or_concat l with rfl | ⟨_, _, _⟩
    · rfl
    · have hne : l ≠ [] := by rename_i h; rw [h]; simp
      rw [ih _ hne (went_open ho.st rfl rfl 1) (fun x hx => hc x (by simp [hx])) ?_ (went_room (by rw [Nat.add_comm]; exact hr)), went_went]
      · rw [Nat.add_comm 1]
        show Q.live (t.went { t.rd with buf := (t.rd.clear.buf ++ [c]) ++ l, last := 0, pend := false } (l.length + 1)) = _
        rw [List.append_assoc]; rfl
      · show (t.rd.clear.buf ++ [c]).length + l.length ≤ t.rd.most
        rw [List.length_append, List.length_singleton]; omega
theorem take_cr (h : t.Open) (hr : t.room b 1) : t.take p b 13 = .live (t.went { t.rd with buf := t.rd.clear.buf, last := 0, pend := true } 1) := by
  rw [take_line h.st 13 hr]
  have e0 : t.rd.clear.next 13 = 0 := by
    unfold Ln.M.next
    rw [show t.rd.clear.last = t.rd.last from rfl, show t.rd.clear.pend = t.rd.pend from rfl, h.nf, h.pend, if_neg (by decide), if_neg (by decide), if_neg (by decide), if_pos rfl]
  have ek : t.rd.clear.keeps 13 = false := by
    unfold Ln.M.keeps
    rw [show t.rd.clear.last = t.rd.last from rfl, show t.rd.clear.pend = t.rd.pend from rfl, h.nf, h.pend, if_neg (by decide), if_neg (by decide), if_neg (by decide), if_pos rfl]
  have eb : t.rd.byte 13 = { t.rd with buf := t.rd.clear.buf, last := 0, pend := true } := by
    unfold Ln.M.byte Ln.M.told
    rw [e0, ek, if_neg (by decide), List.append_nil]
    rfl
  unfold T.inLine
  dsimp only
  rw [e0, if_pos rfl, eb]
  rfl
theorem take_lf (hs : bodied t.st = false) (hp : t.rd.pend = true) (hl : t.rd.last = 0) (hr : t.room b 1) :
    t.take p b 10 = ends (T.line p b (t.went { t.rd with last := 1, pend := false } 1) t.rd.buf) := by
  rw [take_line hs 10 hr]
  have ec : t.rd.clear = t.rd := Ln.clear_of (by rw [hl]; rfl)
  have e0 : t.rd.clear.next 10 = 1 := by
    unfold Ln.M.next
    rw [ec, hl, hp]; rfl
  have ek : t.rd.clear.keeps 10 = false := by
    unfold Ln.M.keeps
    rw [ec, hl, hp]; rfl
  have eb : t.rd.byte 10 = { t.rd with last := 1, pend := false } := by
    unfold Ln.M.byte Ln.M.told
    rw [e0, ek, if_neg (by decide), List.append_nil, ec]
    rfl
  unfold T.inLine
  dsimp only
  rw [e0, if_neg (by decide), if_neg (by decide), if_neg (by decide), eb]
  have el : ({ t.rd with last := 1, pend := false } : Ln.M).line = t.rd.buf := rfl
  rw [el]
  unfold T.went
  obtain ⟨x, hx⟩ : ∃ x, ends (T.line p b { t with rd := { t.rd with last := 1, pend := false }, size := if headed t.st = true then t.size + 1 else t.size, cnt := headed t.st } t.rd.buf) = x := ⟨_, rfl⟩
  rw [hx]
  cases x <;> rfl
/-- A line and its end. -/
theorem feed_line (l : List UInt8) (h : t.Open) (h0 : t.rd.clear.buf = []) (hc : ∀ c ∈ l, c ≠ 10 ∧ c ≠ 13) (hm : l.length ≤ t.rd.most) (hr : t.room b (l.length + 2)) :
    (Q.live t).feed p b (l ++ [13, 10]) = ends (T.line p b (t.went { t.rd with buf := l, last := 1, pend := false } (l.length + 2)) l) := by
  rw [feed_app]
  have key : ∀ (t1 : T) (k : Nat), t1.Open → t1.room b 2 → t1.rd.clear.buf = l → (Q.live t1).feed p b [13, 10] = ends (T.line p b (t1.went { t1.rd with buf := l, last := 1, pend := false } 2) l) := by
    intro t1 k ho hr hb
    rw [feed_cons, feed_cons]
    show ((Q.byte p b (t1.take p b 13) 10).feed p b []) = _
    rw [take_cr ho (room_le hr (by omega)), feed_nil]
    show T.take p b _ 10 = _
    have e := take_lf (p := p) (b := b) (t := t1.went { t1.rd with buf := t1.rd.clear.buf, last := 0, pend := true } 1) ho.st rfl rfl (went_room hr)
    rw [e, went_went]
    show ends (T.line p b (t1.went { t1.rd with buf := t1.rd.clear.buf, last := 1, pend := false } 2) t1.rd.clear.buf) = _
    rw [hb]
  rcases List.eq_nil_or_concat l with rfl | ⟨_, _, _⟩
  · rw [feed_nil, key t 0 h hr h0]
    rfl
  · have hne : l ≠ [] := by rename_i h; rw [h]; simp
    rw [feed_plain l t hne h hc (by rw [h0]; simpa using hm) (room_le hr (by omega)), h0, List.nil_append, key _ 0 (went_open h.st rfl rfl _) (went_room hr) rfl, went_went]
    rfl
/-- Bytes of a body. -/
theorem take_body (h : bodied t.st = true) (c : UInt8) : t.take p b c = .live (if t.left = 1 then ({ t with cnt := false } : T).keep c |>.endData p else ({ t with cnt := false } : T).keep c) := by
  unfold T.take T.look
  rw [if_pos (show bodied ({ t with cnt := false } : T).st = true from h)]
theorem feed_body (d : List UInt8) : ∀ t : T, bodied t.st = true → d ≠ [] → d.length ≤ t.left → (Q.live t).feed p b d = .live (if d.length = t.left then T.endData p { t with cnt := false, r := { t.r with body := t.r.body ++ d }, left := 0 } else { t with cnt := false, r := { t.r with body := t.r.body ++ d }, left := t.left - d.length }) := by
  induction d with
  | nil => intro t _ h; exact absurd rfl h
  | cons c d ih =>
    intro t hb _ hl
    simp only [List.length_cons] at hl ⊢
    rw [feed_cons]
    show ((t.take p b c).feed p b d) = _
    rw [take_body hb c]
    by_cases h1 : t.left = 1
    · have hd : d = [] := List.eq_nil_of_length_eq_zero (by omega)
      subst hd
      rw [if_pos h1, if_pos (by simp [h1]), feed_nil]
      unfold T.keep
      rw [h1]
    · rw [if_neg h1]
      rcases List.eq_nil_or_concat d with rfl | ⟨_, _, _⟩
      · rw [feed_nil, if_neg (by simp only [List.length_nil]; omega)]
        rfl
      · have hne : d ≠ [] := by rename_i h; rw [h]; simp
        rw [ih (({ t with cnt := false } : T).keep c) hb hne (by show d.length ≤ t.left - 1; omega)]
        unfold T.keep
        dsimp only
        have e1 : t.r.body ++ [c] ++ d = t.r.body ++ c :: d := by rw [List.append_assoc]; rfl
        rw [e1]
        by_cases h2 : d.length = t.left - 1
        · rw [if_pos h2, if_pos (by omega)]
        · rw [if_neg h2, if_neg (by omega), show t.left - 1 - d.length = t.left - (d.length + 1) by omega]
end
end Go.Proofs.YtlkmpkofgaceiaaGreatDoor.Pg
/- PgTake -/
namespace Go.Proofs.YtlkmpkofgaceiaaGreatDoor.Pg
open Go.RowKit Base Txt Mem Par

def Q.Ok (b : Bd) : Q → Prop
  | .live t => t.Ok ∧ b.right = true
  | .dead _ _ => True
section
variable {p : Nat} {b : Bd} {t t' : T} {s : List UInt8}
theorem line_out (t : T) (s : List UInt8) : (t.line p b s).2.out.length ≤ t.out.length + 1 := by
  have hf : t.fin.out.length ≤ t.out.length + 1 := by show (t.out ++ [t.r]).length ≤ _; simp
  unfold T.line T.first T.fields T.endHead T.chunk T.trail
  split
  · split
    · exact Nat.le_succ _
    · dsimp only
      split <;> exact Nat.le_succ _
  · split
    · split
      · dsimp only
        split
        · exact Nat.le_succ _
        · split
          · exact Nat.le_succ _
          · split
            · exact hf
            · exact Nat.le_succ _
      · exact Nat.le_succ _
    · split
      · dsimp only
        split
        · exact Nat.le_succ _
        · split
          · exact Nat.le_succ _
          · split <;> exact Nat.le_succ _
      · split
        · split
          · exact hf
          · exact Nat.le_succ _
        · exact Nat.le_succ _
theorem inLine_out (t : T) (c : UInt8) : (t.inLine p b c).1.out.length ≤ t.out.length + 1 := by
  unfold T.inLine
  dsimp only
  split
  · exact Nat.le_succ _
  · split
    · exact Nat.le_succ _
    · split
      · split <;> exact Nat.le_succ _
      · have h := line_out (p := p) (b := b) { t with rd := t.rd.byte c } (t.rd.byte c).line
        unfold ends
        split <;> exact h
theorem look_out (t : T) (c : UInt8) : (t.look p b c).1.out.length ≤ t.out.length + 1 := by
  unfold T.look
  split
  · split
    · show (T.endData p (t.keep c)).out.length ≤ _
      unfold T.endData
      split
      · exact Nat.le_succ _
      · show (t.out ++ [_]).length ≤ _
        simp
    · exact Nat.le_succ _
  · split
    · split
      · exact Nat.le_succ _
      · have h := inLine_out (p := p) (b := b) t.counted c
        rw [counted_out] at h
        exact h
    · exact inLine_out t c
theorem take_out (t : T) (c : UInt8) : (t.take p b c).out.length ≤ t.out.length + 2 := by
  have h := look_out (p := p) (b := b) { t with cnt := false } c
  have e : ({ t with cnt := false } : T).out = t.out := rfl
  rw [e] at h
  unfold T.take
  rcases hx : ({ t with cnt := false } : T).look p b c with ⟨t1 | ⟨e, o⟩, u⟩
  · rw [hx] at h
    have h : t1.out.length ≤ t.out.length + 1 := h
    cases u with
    | true => show t1.out.length ≤ _; omega
    | false =>
      have h2 := look_out (p := p) (b := b) t1 c
      show (t1.look p b c).1.out.length ≤ _
      omega
  · rw [hx] at h
    have h : o.length ≤ t.out.length + 1 := h
    cases u <;> (show o.length ≤ _; omega)
theorem Q.byte_out (x : Q) (c : UInt8) : (x.byte p b c).out.length ≤ x.out.length + 2 := by
  cases x with
  | live t => exact take_out t c
  | dead e o => show o.length ≤ o.length + 2; omega
theorem Q.feed_out : ∀ (l : List UInt8) (x : Q), (x.feed p b l).out.length ≤ x.out.length + 2 * l.length
  | [], _ => Nat.le_refl _
  | c :: l, x => by
    have h1 := Q.byte_out (p := p) (b := b) x c
    have h2 := Q.feed_out l (x.byte p b c)
    rw [feed_cons, List.length_cons]
    omega
theorem Q.Ok.byte {x : Q} (h : x.Ok b) (c : UInt8) : (x.byte p b c).Ok b := by
  cases x with
  | live t =>
    show (t.take p b c).Ok b
    rcases hx : t.take p b c with t1 | ⟨e, o⟩
    · exact ⟨T.Ok.take h.1 h.2 c hx, h.2⟩
    · trivial
  | dead e o => trivial
theorem Q.Ok.feed : ∀ (l : List UInt8) {x : Q}, x.Ok b → (x.feed p b l).Ok b
  | [], _, h => h
  | c :: l, _, h => Q.Ok.feed l (h.byte c)
end
/-- A slice of bytes, in a block that is not of L. -/
structure Bts (L : List (Option Nat)) (w : World) (a : Option Addr) (l : List UInt8) : Prop where
  nums : Nums .u8 w a l.length (l.map fun c => (c.toNat : Int))
  far : ∀ ad, a = some ad → some ad.block ∉ L ∧ ad.block < w.heap.size
/-- A slice of such slices. -/
structure Parts (L : List (Option Nat)) (w : World) (a : Option Addr) (ls : List (List UInt8)) : Prop where
  cells : 0 < ls.length → ∃ bk off, a = some ⟨bk, off, none⟩ ∧ bk < w.heap.size ∧ some bk ∉ L ∧ ∀ k (hk : k < ls.length), ∃ ak ck, w.cell? ⟨bk, off + k, none⟩ = some (.slice ak ls[k].length ck) ∧ Bts L w ak ls[k]
theorem Bts.step {L L' : List (Option Nat)} {w w' : World} {a : Option Addr} {l : List UInt8} (h : Bts L w a l) (hs : Step L L' w w') : Bts L' w' a l := by
  refine ⟨nums_keeps h.nums hs.keeps (fun c => ?_), fun ad e => ⟨fun hm => ?_, Nat.lt_of_lt_of_le (h.far ad e).2 hs.keeps.size⟩⟩
  · cases ha : a with
    | none => exact .inl rfl
    | some ad => exact .inr ⟨ad.block, rfl, (h.far ad ha).1⟩
  · rcases hs.of _ hm with h1 | h1
    · exact (h.far ad e).1 h1
    · have := (h.far ad e).2; omega
theorem Parts.step {L L' : List (Option Nat)} {w w' : World} {a : Option Addr} {ls : List (List UInt8)} (h : Parts L w a ls) (hs : Step L L' w w') : Parts L' w' a ls := by
  refine ⟨fun h0 => ?_⟩
  obtain ⟨bk, off, e, hlt, hn, hc⟩ := h.cells h0
  refine ⟨bk, off, e, Nat.lt_of_lt_of_le hlt hs.keeps.size, fun hm => ?_, fun k hk => ?_⟩
  · rcases hs.of _ hm with h1 | h1
    · exact hn h1
    · omega
  · obtain ⟨ak, ck, h1, h2⟩ := hc k hk
    exact ⟨ak, ck, (hs.keeps.cell (p := ⟨bk, off + k, none⟩) hlt hn).trans h1, h2.step hs⟩
section code
set_option maxHeartbeats 4000000
set_option maxRecDepth 20000
attribute [local go_sem] Base.some_undef
variable {w : World} {B : Zone} {g q : Nat} {v f bd t o : Value} {p : Nat} {b : Bd} {s : T}
theorem Dead.cell0 {e : Nat} {out : List Rec.R} (h : Dead w B g e o out) : w.cell? ⟨g, 0, none⟩ = some (.int .i64 (e : Int)) := row_cellL h.row rfl
theorem Dead.put {e : Nat} {out : List Rec.R} (h : Dead w B g e o out) (k : Nat) (u : Value) (o' : Value) (out' : List Rec.R) (hc : (deadcells e o).set k u = deadcells e o') (hO : Outs [some g, o'.ownBlock] B (w.setCell ⟨g, k, none⟩ u) o' out') (hn : o'.ownBlock ≠ some g) (hz : o'.ownBlock = none ∨ o'.ownBlock = o.ownBlock) : Dead (w.setCell ⟨g, k, none⟩ u) B g e o' out' :=
  ⟨by rw [← hc]; exact row_setL h.row k u, hO, hn, h.ge, by simpa using h.lt, h.bad, h.zone.of (by simp) fun k hk => .inl (by
    rcases (by simpa using hk : k = g ∨ some k = o'.ownBlock) with e | e
    · simp [e]
    · rcases hz with z | z
      · rw [z] at e; cases e
      · rw [← z, ← e]; simp)⟩
theorem Dead.same {e : Nat} {out : List Rec.R} (h : Dead w B g e o out) (k : Nat) (u : Value) (hc : (deadcells e o).set k u = deadcells e o) : Dead (w.setCell ⟨g, k, none⟩ u) B g e o out :=
  h.put k u o out hc (h.O.keeps (Keeps.set g k u (List.mem_singleton.2 rfl)) (fun k hk => by simp only [List.mem_singleton] at hk; simp [hk]) (fun k e hm => h.ne (by rw [e, List.mem_singleton.1 hm]))) h.ne (.inr rfl)
theorem take_any (hp : p < 4294967296) (c : UInt8) (x : Q) {L : List (Option Nat)} (h : At w B g p b L x) (ok : x.Ok b) (hout : x.out.length ≤ 999999998) : Calls Tryz.prog 67 #[ptr g, .int .u8 (c.toNat : Int)] w fun r w' =>
    r = .returned (.tuple #[]) ∧ ∃ L', At w' B g p b L' (x.byte p b c) ∧ Step L L' w w' := by
  cases x with
  | dead e out =>
    obtain ⟨o, rfl, hd⟩ := h
    have H1 := Lib.hid (hd.same 7 (.bool false) rfl)
    have HS1 := Lib.hid (Step.set (w := w) (L := [some g, o.ownBlock]) g 7 (.bool false) (by simp))
    have HB := Lib.hid hd.bad
    have c7 := row_cellL hd.row (k := 7) rfl; have z7 := Ln.row_frozen hd.row 7
    clear hd ok hout
    go_enter Tryz.func67, Tryz.ntmps67
    go_upto_region 1 with fail
    generalize w.setCell ⟨g, 7, none⟩ (.bool false) = W1 at *
    clear c7 z7
    have HF := Lib.hid (failed_dead H1.out.cell0 HB.out)
    refine wp_loop_rounds 1 ?_
    rw [rounds_succ]
    go_wp2_with (go_at_call 73; with_reducible refine HF.out.mono ?_; rintro r w2 ⟨rfl, hw⟩; rw [hw]; clear hw)
    first | go_end0 | refine bodyPost_ret (results_none rfl _ _ _) rfl ?_
    exact ⟨rfl, _, ⟨_, rfl, H1.out⟩, HS1.out⟩
  | live s =>
    obtain ⟨q, v, f, bd, t, o, rfl, h⟩ := h
    have H1 := Lib.hid (h.put 7 (.bool false) { s with cnt := false } rfl rfl rfl rfl rfl rfl)
    have HS1 := Lib.hid (Step.set (w := w) (L := blks g q v f bd t o) g 7 (.bool false) (by simp))
    have c7 := h.cs.c7; have z7 := h.marks 7
    obtain ⟨ok, hb0⟩ : s.Ok ∧ b.right = true := ok
    have hout : s.out.length ≤ 999999998 := hout
    have ok1 := ok.cleared
    obtain ⟨S1, hS1⟩ : ∃ S1 : T, { s with cnt := false } = S1 := ⟨_, rfl⟩
    have ho1 : S1.out.length ≤ 999999998 := by rw [← hS1]; exact hout
    rw [hS1] at ok1 H1
    have e : Q.byte p b (.live s) c = (match S1.look p b c with
        | (.live t1, false) => (t1.look p b c).1
        | (x, _) => x) := by rw [← hS1]; rfl
    have HL := Lib.hid (fun (w2 : World) (h2 : PR w2 B g q v f bd t o p b S1) => look_any hp hb0 c h2 ok1 (by omega))
    have htw := fun t' => look_twice (p := p) (t' := t') ok1 hb0 c
    have hoo := look_out (p := p) (b := b) S1 c
    have hok2 := fun t' (h : (S1.look p b c).1 = .live t') => ok1.look hb0 c h
    rw [e]
    clear h ok hout e hS1
    rcases hx : S1.look p b c with ⟨t1 | ⟨e, out⟩, u⟩
    · rw [hx] at HL hoo
      cases u with
      | true =>
        show Calls _ _ _ _ fun r w' => r = .returned (.tuple #[]) ∧ ∃ L', At w' B g p b L' (.live t1) ∧ Step _ L' w w'
        clear htw hx hok2 hoo
        go_enter Tryz.func67, Tryz.ntmps67
        go_upto_region 1 with fail
        generalize w.setCell ⟨g, 7, none⟩ (.bool false) = W1 at *
        clear c7 z7
        have HF := Lib.hid (failed_live H1.out.cs.c0)
        have HL1 := Lib.hid (HL.out _ H1.out)
        refine wp_loop_rounds 1 ?_
        rw [rounds_succ]
        go_wp2_with (first
          | (go_at_call 101; with_reducible refine HL1.out.mono ?_; rintro r w2 ⟨rfl, L2, hA, hS2⟩)
          | (go_at_call 73; with_reducible refine HF.out.mono ?_; rintro r w3 ⟨rfl, hw⟩; rw [hw]; clear hw))
        first | go_end0 | refine bodyPost_ret (results_none rfl _ _ _) rfl ?_
        exact ⟨rfl, _, hA, HS1.out.trans hS2⟩
      | false =>
        have hu := htw t1 hx
        show Calls _ _ _ _ fun r w' => r = .returned (.tuple #[]) ∧ ∃ L', At w' B g p b L' (t1.look p b c).1 ∧ Step _ L' w w'
        have ok2 := hok2 t1 (by rw [hx])
        have hoo : t1.out.length ≤ S1.out.length + 1 := hoo
        have HL9 := fun (w2 : World) (q v f bd t o) (h2 : PR w2 B g q v f bd t o p b t1) => look_any hp hb0 c h2 ok2 (by omega)
        rw [hu] at HL9
        have HL2 := Lib.hid HL9
        clear htw hx hok2 hoo hu ok2 HL9
        go_enter Tryz.func67, Tryz.ntmps67
        go_upto_region 1 with fail
        generalize w.setCell ⟨g, 7, none⟩ (.bool false) = W1 at *
        clear c7 z7
        have HF := Lib.hid (failed_live H1.out.cs.c0)
        have HL1 := Lib.hid (HL.out _ H1.out)
        refine wp_loop_rounds 2 ?_
        rw [rounds_succ]
        go_wp2_with (first
          | (go_at_call 101; with_reducible refine HL1.out.mono ?_; rintro r w2 ⟨rfl, L2, hA, hS2⟩)
          | (go_at_call 73; with_reducible refine HF.out.mono ?_; rintro r w3 ⟨rfl, hw⟩; rw [hw]; clear hw))
        obtain ⟨q2, v2, f2, bd2, t2, o2, rfl, h2⟩ := hA
        have HF2 := Lib.hid (failed_live h2.cs.c0)
        have HL3 := Lib.hid (HL2.out _ _ _ _ _ _ _ h2)
        have HS2 := Lib.hid (HS1.out.trans hS2)
        clear h2 hS2 HF HL1 HL2 H1 HS1
        rw [rounds_succ]
        go_wp2_with (first
          | (go_at_call 101; with_reducible refine HL3.out.mono ?_; rintro r w4 ⟨rfl, L4, hA4, hS4⟩)
          | (go_at_call 73; with_reducible refine HF2.out.mono ?_; rintro r w3 ⟨rfl, hw⟩; rw [hw]; clear hw))
        first | go_end0 | refine bodyPost_ret (results_none rfl _ _ _) rfl ?_
        exact ⟨rfl, _, hA4, HS2.out.trans hS4⟩
    · rw [hx] at HL hoo
      cases u with
      | true =>
        show Calls _ _ _ _ fun r w' => r = .returned (.tuple #[]) ∧ ∃ L', At w' B g p b L' (.dead e out) ∧ Step _ L' w w'
        clear htw hx hok2 hoo
        go_enter Tryz.func67, Tryz.ntmps67
        go_upto_region 1 with fail
        generalize w.setCell ⟨g, 7, none⟩ (.bool false) = W1 at *
        clear c7 z7
        have HF := Lib.hid (failed_live H1.out.cs.c0)
        have HL1 := Lib.hid (HL.out _ H1.out)
        refine wp_loop_rounds 1 ?_
        rw [rounds_succ]
        go_wp2_with (first
          | (go_at_call 101; with_reducible refine HL1.out.mono ?_; rintro r w2 ⟨rfl, L2, hA, hS2⟩)
          | (go_at_call 73; with_reducible refine HF.out.mono ?_; rintro r w3 ⟨rfl, hw⟩; rw [hw]; clear hw))
        first | go_end0 | refine bodyPost_ret (results_none rfl _ _ _) rfl ?_
        exact ⟨rfl, _, hA, HS1.out.trans hS2⟩
      | false =>
        show Calls _ _ _ _ fun r w' => r = .returned (.tuple #[]) ∧ ∃ L', At w' B g p b L' (.dead e out) ∧ Step _ L' w w'
        clear htw hx hok2 hoo
        go_enter Tryz.func67, Tryz.ntmps67
        go_upto_region 1 with fail
        generalize w.setCell ⟨g, 7, none⟩ (.bool false) = W1 at *
        clear c7 z7
        have HF := Lib.hid (failed_live H1.out.cs.c0)
        have HL1 := Lib.hid (HL.out _ H1.out)
        refine wp_loop_rounds 2 ?_
        rw [rounds_succ]
        go_wp2_with (first
          | (go_at_call 101; with_reducible refine HL1.out.mono ?_; rintro r w2 ⟨rfl, L2, hA, hS2⟩)
          | (go_at_call 73; with_reducible refine HF.out.mono ?_; rintro r w3 ⟨rfl, hw⟩; rw [hw]; clear hw))
        obtain ⟨o2, rfl, h2⟩ := hA
        have HF2 := Lib.hid (failed_dead h2.cell0 h2.bad)
        have HD2 := Lib.hid h2
        have HS2 := Lib.hid (HS1.out.trans hS2)
        clear h2 hS2 HF HL1 H1 HS1
        rw [rounds_succ]
        go_wp2_with (go_at_call 73; with_reducible refine HF2.out.mono ?_; rintro r w3 ⟨rfl, hw⟩; rw [hw]; clear hw)
        first | go_end0 | refine bodyPost_ret (results_none rfl _ _ _) rfl ?_
        exact ⟨rfl, _, ⟨_, rfl, HD2.out⟩, HS2.out⟩
end code
end Go.Proofs.YtlkmpkofgaceiaaGreatDoor.Pg
/- PgApi -/
namespace Go.Proofs.YtlkmpkofgaceiaaGreatDoor.Pg
open Go.RowKit Base Txt Mem Par

/-- Records that were told: in a row of the caller's, apart from what the parser owns. -/
structure Told (L : List (Option Nat)) (B : Zone) (w : World) (o : Value) (out : List Rec.R) : Prop where
  outs : Outs L B w o out
  far : ∀ k, o.ownBlock = some k → some k ∉ L ∧ k < w.heap.size
  off : ∀ k, o.ownBlock = some k → some k ∉ B.z
section code
set_option maxHeartbeats 4000000
set_option maxRecDepth 20000
attribute [local go_sem] Base.some_undef
variable {w : World} {B : Zone} {g q : Nat} {v f bd t o : Value} {p : Nat} {b : Bd} {s : T}
theorem Own.less {rd : Ln.M} {fs ts : List Fld} {body : List UInt8} {out : List Rec.R} (h : Own w B g q v f bd t o rd fs body ts out) : Own w B g q v f bd t nil rd fs body ts [] := by
  have e : blks g q v f bd t nil = (blks g q v f bd t o).set 6 none := rfl
  refine ⟨h.R, h.F, h.D, h.TR, ⟨[], rfl, (by intro x hx; cases hx), World.ownsRow_nil _ _ _ _⟩, ?_, h.ge, h.lt, h.zone.of (Nat.le_refl _) (by rw [e]; exact Of.set 6 none (.inl rfl))⟩
  rw [e]
  exact h.lone.set h.in 6 none (.inl rfl)
theorem At.below {L : List (Option Nat)} {w' : World} {x : Q} (h : At w B g p b L x) (hb : Below w.heap.size w w') : At w' B g p b L x := by
  cases x with
  | live s =>
    obtain ⟨q, v, f, bd, t, o, rfl, h⟩ := h
    exact ⟨q, v, f, bd, t, o, rfl, h.below hb⟩
  | dead e out =>
    obtain ⟨o, rfl, h⟩ := h
    refine ⟨o, rfl, (hb.block g h.lt).trans h.row, h.O.keeps (Keeps.of_below hb : Keeps [] w w') (by simp) (by simp), h.ne, h.ge, Nat.lt_of_lt_of_le h.lt hb.size, h.bad, h.zone.of hb.size Of.refl⟩
theorem At.low {L : List (Option Nat)} {x : Q} (h : At w B g p b L x) : ∀ k, some k ∈ L → B ≤ k := by
  cases x with
  | live s =>
    obtain ⟨q, v, f, bd, t, o, rfl, h⟩ := h
    exact h.own.low
  | dead e out =>
    obtain ⟨o, rfl, h⟩ := h
    intro k hk
    obtain ⟨ps, -, -, h3⟩ := h.O
    rcases (by simpa using hk : k = g ∨ some k = o.ownBlock) with e | e
    · rw [e]; exact h.ge
    · exact (World.ownsRow.lt h3 k e.symm).1
theorem At.in {L : List (Option Nat)} {x : Q} (h : At w B g p b L x) : In w L := by
  cases x with
  | live s =>
    obtain ⟨q, v, f, bd, t, o, rfl, h⟩ := h
    exact h.own.in
  | dead e out =>
    obtain ⟨o, rfl, h⟩ := h
    intro k hk
    obtain ⟨ps, -, -, h3⟩ := h.O
    rcases (by simpa using hk : k = g ∨ some k = o.ownBlock) with e | e
    · rw [e]; exact h.lt
    · exact (World.ownsRow.lt h3 k e.symm).2
/-- What it has told is the caller's. -/
theorem At.tell {L : List (Option Nat)} {x : Q} (h : At w B g p b L x) : ∃ o L', w.cell? ⟨g, 26, none⟩ = some o ∧ w.frozen? ⟨g, 26, none⟩ = false ∧ At (w.setCell ⟨g, 26, none⟩ nil) B g p b L' x.told ∧ Told L' B (w.setCell ⟨g, 26, none⟩ nil) o x.out ∧ Step L L' w (w.setCell ⟨g, 26, none⟩ nil) := by
  cases x with
  | live s =>
    obtain ⟨q, v, f, bd, t, o, rfl, h⟩ := h
    have hg : (blks g q v f bd t o)[0]? = some (some g) := rfl
    have hne : o.ownBlock ≠ some g := fun e => h.own.lone.ne (i := 0) (j := 6) rfl (by decide) (by rw [← e]; rfl)
    have hsub : ∀ k, some k ∈ blks g q v f bd t nil → some k ∈ blks g q v f bd t o := fun k hk => by
      simp only [List.mem_cons, List.not_mem_nil, or_false, Value.ownBlock, reduceCtorEq] at hk ⊢
      rcases hk with e | e | e | e | e | e <;> simp [e]
    refine ⟨o, blks g q v f bd t nil, h.cs.c26, h.marks 26, ⟨q, v, f, bd, t, nil, rfl, ⟨row_setL h.row 26 nil, (h.own.less).set 26 nil⟩⟩, ⟨Outs.less (h.own.O.keeps (Keeps.set g 26 nil (List.mem_singleton.2 rfl)) (fun k hk => by simp only [List.mem_singleton] at hk; simp [hk]) (fun k e hm => hne (by rw [e, List.mem_singleton.1 hm]))) (fun k hk => .inl (hsub k hk)), fun k e => ⟨fun hm => ?_, ?_⟩, fun k e => h.own.zone.off k (List.mem_of_getElem? (i := 6) (by rw [← e]; rfl))⟩, ⟨Keeps.set g 26 nil (List.mem_of_getElem? hg), fun k hk => .inl (hsub k hk)⟩⟩
    · obtain ⟨i, hi⟩ := List.getElem?_of_mem hm
      have h6 : (blks g q v f bd t o)[6]? = some (some k) := by rw [← e]; rfl
      rcases i with _ | _ | _ | _ | _ | _ | _ | i
      · exact h.own.lone.ne (i := 0) (j := 6) (k := k) hi (by decide) h6
      · exact h.own.lone.ne (i := 1) (j := 6) (k := k) hi (by decide) h6
      · exact h.own.lone.ne (i := 2) (j := 6) (k := k) hi (by decide) h6
      · exact h.own.lone.ne (i := 3) (j := 6) (k := k) hi (by decide) h6
      · exact h.own.lone.ne (i := 4) (j := 6) (k := k) hi (by decide) h6
      · exact h.own.lone.ne (i := 5) (j := 6) (k := k) hi (by decide) h6
      · cases hi
      · cases hi
    · have := h.own.in k (List.mem_of_getElem? (i := 6) (by rw [← e]; rfl))
      simpa using this
  | dead e out =>
    obtain ⟨o, rfl, h⟩ := h
    obtain ⟨ps, -, -, h3⟩ := h.O
    refine ⟨o, [some g, none], row_cellL h.row rfl, Ln.row_frozen h.row 26, ⟨nil, rfl, h.put 26 nil nil [] rfl ⟨[], rfl, (by intro x hx; cases hx), World.ownsRow_nil _ _ _ _⟩ (by simp [Value.ownBlock]) (.inl rfl)⟩, ⟨Outs.less (h.O.keeps (Keeps.set g 26 nil (List.mem_singleton.2 rfl)) (fun k hk => by simp only [List.mem_singleton] at hk; simp [hk]) (fun k e hm => h.ne (by rw [e, List.mem_singleton.1 hm]))) (fun k hk => .inl (by simpa using Or.inl (by simpa using hk))), fun k e => ⟨fun hm => ?_, ?_⟩, fun k e => h.zone.off k (by rw [← e]; simp)⟩, ⟨Keeps.set g 26 nil (by simp), fun k hk => .inl (by simpa using Or.inl (by simpa using hk))⟩⟩
    · rcases (by simpa using hm : k = g) with rfl
      exact h.ne e
    · have := (World.ownsRow.lt h3 k e).2
      simpa using this
theorem feed_any (hp : p < 4294967296) (x : Q) {L : List (Option Nat)} (h : At w B g p b L x) (ok : x.Ok b) (a : Option Addr) (ca : Nat) (ls : List (List UInt8)) (hl : Parts L w a ls) (hn : ls.length ≤ 1000000) (hout : x.out.length + 2 * ls.flatten.length ≤ 999999998) :
    Calls Tryz.prog 20 #[ptr g, .slice a ls.length ca] w fun r w' => ∃ o L', r = .returned o ∧ At w' B g p b L' (x.feed p b ls.flatten).told ∧ Told L' B w' o (x.feed p b ls.flatten).out ∧ Step L L' w w' := by
  have H := Lib.hid h; have HL := Lib.hid hl; have HOK := Lib.hid ok; have HOU := Lib.hid hout
  obtain ⟨n, hnn⟩ : ∃ n, ls.length = n := ⟨_, rfl⟩
  have HN := Lib.hid hnn
  have hn1 : n ≤ 1000000 := by omega
  rw [hnn]
  clear h hl ok hout hn hnn
  go_enter Tryz.func20, Tryz.ntmps20
  go_upto_region 2 with fail
  go_loopw [12] (fun i wr => ∃ k : Nat, k ≤ n ∧ i = .int .i64 k ∧ Hid (∃ Lr, At wr B g p b Lr (x.feed p b (ls.take k).flatten) ∧ Step L Lr w wr)) (fun i _ => n - (intOf i).toNat)
  case atStart => exact ⟨0, Nat.zero_le _, rfl, Lib.hid ⟨L, H.out, Step.refl⟩⟩
  case round =>
    obtain ⟨k, hk, rfl, hR⟩ := hrel
    rcases Nat.lt_or_ge k n with hlt | hge
    · obtain ⟨Lr, hA, hS⟩ := hR.out
      have hkl : k < ls.length := by rw [HN.out]; exact hlt
      obtain ⟨bk, off, rfl, hbk, hnb, hc⟩ := (HL.out.step hS).cells (by omega)
      obtain ⟨ak, ck, hcell, hB⟩ := hc k hkl
      have htk : (ls.take (k + 1)).flatten = (ls.take k).flatten ++ ls[k] := by rw [List.take_succ_eq_append_getElem hkl, List.flatten_append]; simp
      have hsum : (ls.take (k + 1)).flatten.length ≤ ls.flatten.length := by
        have := congrArg List.length (congrArg List.flatten (List.take_append_drop (k + 1) ls))
        rw [List.flatten_append, List.length_append] at this
        omega
      rw [htk, List.length_append] at hsum
      have t1 : (k : Int) < (n : Int) := by omega
      have HTK := Lib.hid htk
      obtain ⟨pl, hpl⟩ : ∃ pl, ls[k] = pl := ⟨_, rfl⟩
      rw [hpl] at hcell hB hsum HTK
      have hpb : pl.length ≤ 1000000000 := by have := HOU.out; omega
      obtain ⟨m, hm⟩ : ∃ m, pl.length = m := ⟨_, rfl⟩
      rw [hm] at hcell hpb hsum
      have HM := Lib.hid hm
      obtain ⟨X, hX⟩ : ∃ X, x.feed p b (ls.take k).flatten = X := ⟨_, rfl⟩
      have hXok : X.Ok b := by rw [← hX]; exact Q.Ok.feed _ HOK.out
      have hXo : X.out.length + 2 * m ≤ 999999998 := by
        have := Q.feed_out (p := p) (b := b) (ls.take k).flatten x
        rw [hX] at this
        have := HOU.out
        omega
      rw [hX] at hA
      have HX := Lib.hid hX; have HXO := Lib.hid hXok; have HXL := Lib.hid hXo
      have HA := Lib.hid hA; have HS := Lib.hid hS; have HB := Lib.hid hB
      clear hA hS hB hX hXok hXo hsum htk hpl hm hc hR hnb hbk
      go_upto_region 5 with fail
      clear hcell
      go_loopw [18] (fun j wq => ∃ i : Nat, i ≤ m ∧ j = .int .i64 i ∧ Hid (∃ Lq, At wq B g p b Lq (X.feed p b (pl.take i)) ∧ Step Lr Lq wr wq)) (fun j _ => m - (intOf j).toNat)
      case atStart => exact ⟨0, Nat.zero_le _, rfl, Lib.hid ⟨Lr, HA.out, Step.refl⟩⟩
      case round =>
        obtain ⟨wC, hwC⟩ : ∃ x, x = wr := ⟨_, rfl⟩
        obtain ⟨i, hi, rfl, hR2⟩ := hrel
        rcases Nat.lt_or_ge i m with hilt | hige
        · obtain ⟨Lq, hA2, hS2⟩ := hR2.out
          have hil : i < pl.length := by rw [HM.out]; exact hilt
          obtain ⟨zb, zo, rfl, hzb, hz⟩ := (HB.out.step hS2).nums.2 (by omega)
          have hcell := hz i hil
          have hti : pl.take (i + 1) = pl.take i ++ [pl[i]] := List.take_succ_eq_append_getElem hil
          have hgi : (pl.map fun c => (c.toNat : Int))[i]?.getD 0 = (pl[i].toNat : Int) := by simp [hil]
          rw [hgi] at hcell
          have HTI := Lib.hid hti
          obtain ⟨c, hc⟩ : ∃ c, pl[i] = c := ⟨_, rfl⟩
          rw [hc] at hcell HTI
          have t2 : (i : Int) < (m : Int) := by omega
          have hok3 : (X.feed p b (pl.take i)).Ok b := Q.Ok.feed _ HXO.out
          have hou3 : (X.feed p b (pl.take i)).out.length ≤ 999999998 := by
            have h1 := Q.feed_out (p := p) (b := b) (pl.take i) X
            have h2 := HXL.out
            rw [List.length_take] at h1
            omega
          have HTA := Lib.hid (take_any hp c _ hA2 hok3 hou3)
          have HS2 := Lib.hid hS2
          clear hA2 hS2 hz hzb hti hgi hc hok3 hou3 hR2
          go_wp2_with (go_at_call 67; with_reducible refine HTA.out.mono ?_; rintro r w5 ⟨rfl, L5, hA5, hS5⟩)
          go_roundw
          case rel => exact ⟨i + 1, by omega, by go_num, Lib.hid ⟨L5, by rw [HTI.out, feed_app]; exact hA5, HS2.out.trans hS5⟩⟩
          case measure => simp [intOf]; omega
        · obtain rfl : i = m := by omega
          have t2 : ¬ (i : Int) < (i : Int) := by omega
          obtain ⟨Lq, hA2, hS2⟩ := hR2.out
          have e : pl.take i = pl := List.take_of_length_le (by rw [HM.out]; exact Nat.le_refl _)
          rw [e, ← HX.out, ← feed_app, ← HTK.out] at hA2
          have HA2 := Lib.hid hA2; have HS2 := Lib.hid (HS.out.trans hS2)
          clear hA2 hS2 e hR2
          go_wp2_with fail
          go_roundw
          case rel => exact ⟨k + 1, by omega, by go_num, Lib.hid ⟨Lq, HA2.out, HS2.out⟩⟩
          case measure => simp [intOf]; omega
    · obtain rfl : k = n := by omega
      have t1 : ¬ (k : Int) < (k : Int) := by omega
      obtain ⟨Lr, hA, hS⟩ := hR.out
      have e : ls.take k = ls := List.take_of_length_le (by rw [HN.out]; exact Nat.le_refl _)
      rw [e] at hA
      obtain ⟨o, L2, c26, z26, hA2, hT2, hS2⟩ := hA.tell
      have HA2 := Lib.hid hA2; have HT2 := Lib.hid hT2; have HS2 := Lib.hid (hS.trans hS2)
      clear hA hS hR e hA2 hT2 hS2
      go_wp2_with fail
      go_ret
      exact ⟨o, rfl, L2, HA2.out, HT2.out, HS2.out⟩
theorem errq_any {L : List (Option Nat)} {x : Q} (h : At w B g p b L x) : Calls Tryz.prog 23 #[ptr g] w fun r w' => r = .returned (.int .i64 (x.err : Int)) ∧ w' = w := by
  cases x with
  | live s =>
    obtain ⟨q, v, f, bd, t, o, rfl, h⟩ := h
    exact err_any h.cs.c0
  | dead e out =>
    obtain ⟨o, rfl, h⟩ := h
    exact err_any h.cell0
theorem cleanq_any {L : List (Option Nat)} {x : Q} (h : At w B g p b L x) : Calls Tryz.prog 28 #[ptr g] w fun r w' => r = .returned (.bool x.clean) ∧ w' = w := by
  cases x with
  | live s =>
    obtain ⟨q, v, f, bd, t, o, rfl, h⟩ := h
    exact clean_live h
  | dead e out =>
    obtain ⟨o, rfl, h⟩ := h
    exact clean_dead (row_cellL h.row rfl)
/-- The record so far, as a value. -/
theorem PR.draft (h : PR w B g q v f bd t o p b s) (ok : s.Ok) : Rec.Reads w (.agg #[.string s.r.m, .string s.r.x, .int .i64 s.r.k, f, .bool s.r.ch, bd, t]) s.r ∧ Rec.Fit s.r := by
  obtain ⟨A1, c1, e1, h1⟩ := Flds.of_own h.own.F
  obtain ⟨A2, c2, e2, h2⟩ := Rec.nums_of_own h.own.D
  obtain ⟨A3, c3, e3, h3⟩ := Flds.of_own h.own.TR
  subst e1 e2 e3
  have k1 := ok.fsl; have k2 := ok.tsl; have k3 := ok.hl; have k4 := ok.bl; have k5 := ok.body; have k6 := ok.m; have k7 := ok.x
  exact ⟨⟨_, _, _, _, _, _, rfl, h1, h2, h3⟩, ⟨by omega, by omega, by omega, fun y hy => by have := ok.fss y hy; omega, by omega, by omega, fun y hy => by have := ok.tss y hy; omega⟩⟩
theorem waits_any {L : List (Option Nat)} {x : Q} (h : At w B g p b L x) (ok : x.Ok b) : Calls Tryz.prog 24 #[ptr g] w fun r w' => r = .returned (.bool x.waits) ∧ Below w.heap.size w w' := by
  cases x with
  | live s =>
    obtain ⟨q, v, f, bd, t, o, rfl, h⟩ := h
    obtain ⟨ok, -⟩ : s.Ok ∧ b.right = true := ok
    have hbl := ok.body
    have HN0 := bodyIsNext_live h (by omega)
    have HD := Lib.hid (draft_any h)
    have HE := Lib.hid (fun (w2 : World) (hb : Below w.heap.size w w2) => Rec.expects_any _ s.r w2 (PR.draft (h.below hb) ok).1 (PR.draft (h.below hb) ok).2)
    show Calls _ _ _ _ fun r w' => r = .returned (.bool (s.next && Rec.expects s.r)) ∧ Below w.heap.size w w'
    clear h ok hbl
    cases hx : s.next with
    | true =>
      rw [hx] at HN0
      have HN := Lib.hid HN0
      clear HN0 hx
      generalize Rec.expects s.r = ex at *
      go_enter Tryz.func24, Tryz.ntmps24
      go_wp2_with (first
        | (go_at_call 70; with_reducible refine (HE.out _ HB2.out).mono ?_; rintro r w4 ⟨rfl, hb4⟩)
        | (go_at_call 71; with_reducible refine HD.out.mono ?_; rintro r w3 ⟨rfl, hb3⟩
           have HB2 := Lib.hid hb3
           clear hb3)
        | (go_at_call 69; with_reducible refine HN.out.mono ?_; rintro r w2 ⟨rfl, hw⟩; rw [hw]; clear hw))
      go_ret
      exact ⟨by cases ex <;> rfl, Base.below_step HB2.out hb4⟩
    | false =>
      rw [hx] at HN0
      have HN := Lib.hid HN0
      clear HN0 hx HD HE
      go_enter Tryz.func24, Tryz.ntmps24
      go_wp2_with (go_at_call 69; with_reducible refine HN.out.mono ?_; rintro r w2 ⟨rfl, hw⟩; rw [hw]; clear hw)
      go_ret
      exact ⟨rfl, Below.refl _ _⟩
  | dead e out =>
    obtain ⟨o, rfl, h⟩ := h
    have HN := Lib.hid (bodyIsNext_dead (w := w) (g := g) (row_cellL h.row rfl))
    clear h ok
    go_enter Tryz.func24, Tryz.ntmps24
    go_wp2_with (go_at_call 69; with_reducible refine HN.out.mono ?_; rintro r w2 ⟨rfl, hw⟩; rw [hw]; clear hw)
    go_ret
    exact ⟨rfl, Below.refl _ _⟩
theorem size_small {r : Rec.R} (h : Rec.Fit r) : Rec.size r ≤ 5000000000000 := by
  have h1 := h.m; have h2 := h.x; have h3 := h.body; have h4 := h.fs; have h5 := h.ts
  have h6 := Rec.weigh_le r.fs 1000000 h.f
  have h7 := Rec.weigh_le r.ts 1000000 h.t
  have h8 : r.fs.length * (1000000 + 1000000) ≤ 1000000000 := Nat.le_trans (Nat.mul_le_mul_right _ h4) (by decide)
  have h9 : r.ts.length * (1000000 + 1000000) ≤ 1000000000 := Nat.le_trans (Nat.mul_le_mul_right _ h5) (by decide)
  unfold Rec.size
  omega
theorem held_any {L : List (Option Nat)} {x : Q} (h : At w B g p b L x) (ok : x.Ok b) : Calls Tryz.prog 26 #[ptr g] w fun r w' => r = .returned (.int .i64 (x.held : Int)) ∧ Below w.heap.size w w' := by
  cases x with
  | live s =>
    obtain ⟨q, v, f, bd, t, o, rfl, h⟩ := h
    obtain ⟨ok, -⟩ : s.Ok ∧ b.right = true := ok
    have HF := Lib.hid (failed_live h.cs.c0)
    have c25 := h.cs.c25
    have hll : s.rd.len ≤ 4096 := by
      have h1 := ok.rd.len; have h2 := ok.rd.most
      unfold Ln.M.len
      split <;> omega
    have hsz := size_small (PR.draft h ok).2
    have HL := Lib.hid (Ln.len_any h.own.R.row h.own.R.own)
    have HD := Lib.hid (draft_any h)
    have HE := Lib.hid (fun (w2 : World) (hb : Below w.heap.size w w2) => Rec.size_any _ s.r w2 (PR.draft (h.below hb) ok).1 (PR.draft (h.below hb) ok).2)
    obtain ⟨a1, a2⟩ := Rec.wraps ((s.rd.len : Int) + (Rec.size s.r : Int)) ⟨by omega, by omega⟩
    show Calls _ _ _ _ fun r w' => r = .returned (.int .i64 ((s.rd.len + Rec.size s.r : Nat) : Int)) ∧ Below w.heap.size w w'
    clear h ok hll hsz
    generalize s.rd.len = n1 at *
    generalize Rec.size s.r = n2 at *
    go_enter Tryz.func26, Tryz.ntmps26
    go_wp2_with (first
      | (go_at_call 75; with_reducible refine (HE.out _ HB2.out).mono ?_; rintro r w4 ⟨rfl, hb4⟩)
      | (go_at_call 71; with_reducible refine HD.out.mono ?_; rintro r w3 ⟨rfl, hb3⟩
         have HB2 := Lib.hid hb3
         clear hb3)
      | (go_at_call 74; with_reducible refine HL.out.mono ?_; rintro r w2 ⟨rfl, hw⟩; rw [hw]; clear hw)
      | (go_at_call 73; with_reducible refine HF.out.mono ?_; rintro r w2 ⟨rfl, hw⟩; rw [hw]; clear hw))
    go_ret
    exact ⟨rfl, Base.below_step HB2.out hb4⟩
  | dead e out =>
    obtain ⟨o, rfl, h⟩ := h
    have HF := Lib.hid (failed_dead h.cell0 h.bad)
    clear h ok
    go_enter Tryz.func26, Tryz.ntmps26
    go_wp2_with (go_at_call 73; with_reducible refine HF.out.mono ?_; rintro r w2 ⟨rfl, hw⟩; rw [hw]; clear hw)
    go_ret
    exact ⟨rfl, Below.refl _ _⟩
end code
end Go.Proofs.YtlkmpkofgaceiaaGreatDoor.Pg
/- PgNew -/
namespace Go.Proofs.YtlkmpkofgaceiaaGreatDoor.Pg
open Go.RowKit Base Txt Mem Par

section code
set_option maxHeartbeats 4000000
set_option maxRecDepth 20000
attribute [local go_sem] Base.some_undef
variable {w : World} {B : Zone} {g q : Nat} {v f bd t o : Value} {p : Nat} {b : Bd} {s : T}
theorem enter_new (hp : p < 4294967296) (hz : B.z = []) (hrow : w.heap[g]? = some (.cells ([.int .i64 0, .int .i64 0, nil, .string E0, .string E0, .int .i64 0, .int .i64 0, .bool false, .int .i64 0, nil, .bool false, nil, .int .i64 0, .int .u32 (p : Int), .int .i64 b.x0, .int .i64 b.x1, .int .i64 b.x2, .int .i64 b.x3, .int .i64 b.x4, .int .i64 b.x5, .int .i64 b.x6, .int .i64 b.x7, .bool b.ch, .bool b.od, .int .i64 0, .pointer none, nil] : List Value).toArray 55 (0, 0))) (hB : B ≤ g) : Calls Tryz.prog 64 #[ptr g, .int .i64 1, .int .i64 b.x0] w fun r w' =>
    r = .returned (.tuple #[]) ∧ ∃ q1, PR w' B g q1 nil nil nil nil nil p b (T.new p b) ∧ Keeps [some g] w w' := by
  have hlt := Ln.row_lt hrow
  have HR1 := Lib.hid (row_setL hrow 24 (.int .i64 1))
  have HK1 := Lib.hid (Keeps.set (w := w) (L := [some g]) g 24 (.int .i64 1) (by simp))
  have HLT := Lib.hid (show g < (w.setCell ⟨g, 24, none⟩ (.int .i64 1)).heap.size by simpa using hlt)
  have HB := Lib.hid hB
  have c24 := row_cellL hrow (k := 24) rfl; have z24 := Ln.row_frozen hrow 24
  clear hrow hB hlt
  go_enter Tryz.func64, Tryz.ntmps64
  go_upto_region 1 with fail
  generalize w.setCell ⟨g, 24, none⟩ (.int .i64 1) = W1 at *
  clear c24 z24
  have c13 : W1.cell? ⟨g, 13, none⟩ = some (.int .u32 (p : Int)) := row_cellL HR1.out (k := 13) rfl
  have HNL := Lib.hid (line_new hp B b.x0 W1 (Nat.le_trans HB.out (Nat.le_of_lt HLT.out)))
  go_wp2_with
    (go_at_call 99; with_reducible refine HNL.out.mono ?_; rintro r w8 ⟨q1, rfl, hq1, hr1, hb8⟩
     have hrow8 := (hb8.block g HLT.out).trans HR1.out
     have d25 := row_cellL hrow8 (k := 25) rfl; have y25 := Ln.row_frozen hrow8 25
     have HR8 := Lib.hid hrow8; have HD8 := Lib.hid hr1; have HQ8 := Lib.hid hq1; have HB8 := Lib.hid hb8
     clear hb8 hr1 hq1 hrow8)
  go_end0
  have hgq : g ≠ q1 := by have := HLT.out; have := HQ8.out; omega
  have hk : Keeps [some g] w8 (w8.setCell ⟨g, 25, none⟩ (ptr q1)) := Keeps.set g 25 _ (by simp)
  refine ⟨rfl, q1, ⟨row_setL HR8.out 25 (ptr q1), ⟨⟨hk.row HD8.out.row (by simpa using fun e => hgq e.symm), hk.own HD8.out.own (by simp [Value.ownBlock]), HD8.out.ge, HD8.out.ne⟩, World.ownsRow_nil _ _ _ _, World.ownsRow_nil _ _ _ _, World.ownsRow_nil _ _ _ _, ⟨[], rfl, (by intro x hx; cases hx), World.ownsRow_nil _ _ _ _⟩, ?_, HB.out, by have := HLT.out; have := HB8.out.size; simp; omega, by rw [hz]; exact Clear.nil⟩⟩, (HK1.out.trans (Keeps.of_below HB8.out) Of.refl).trans hk Of.refl⟩
  intro i j k hi hj
  rcases i with _ | _ | _ | _ | _ | _ | _ | i <;> rcases j with _ | _ | _ | _ | _ | _ | _ | j <;> simp [Value.ownBlock] at hi hj ⊢ <;> omega
theorem T.new_ok (p : Nat) (b : Bd) : (T.new p b).Ok :=
  ⟨Ln.M.new_ok _ _ _ (Ln.mid_le _), rfl, ⟨Nat.le_refl _, by show 1 ≤ 7; omega⟩, Nat.zero_le _, Nat.zero_le _, Nat.le_refl _, Nat.le_refl _, (by intro y hy; cases hy), (by intro y hy; cases hy), Nat.zero_le _, Nat.zero_le _, Nat.zero_le _, fun h => (by cases h), fun _ => rfl, Nat.zero_le _⟩
theorem Q.new_ok (p : Nat) (b : Bd) : (Q.new p b).Ok b := by
  unfold Q.new
  split
  · rename_i h
    simp only [Bool.and_eq_true] at h
    exact ⟨T.new_ok p b, h.1⟩
  · trivial
theorem dead_new {W : World} (hz : B.z = []) (hrow : W.heap[g]? = some (.cells ([.int .i64 20, .int .i64 0, nil, .string E0, .string E0, .int .i64 0, .int .i64 0, .bool false, .int .i64 0, nil, .bool false, nil, .int .i64 0, .int .u32 0, .int .i64 0, .int .i64 0, .int .i64 0, .int .i64 0, .int .i64 0, .int .i64 0, .int .i64 0, .int .i64 0, .bool false, .bool false, .int .i64 0, .pointer none, nil] : List Value).toArray 55 (0, 0))) (hB : B ≤ g) : At W B g p b [some g, none] (.dead 20 []) :=
  ⟨nil, rfl, ⟨hrow, ⟨[], rfl, (by intro x hx; cases hx), World.ownsRow_nil _ _ _ _⟩, by simp [Value.ownBlock], hB, Ln.row_lt hrow, by decide, by rw [hz]; exact Clear.nil⟩⟩
theorem new_any (hp : p < 4294967296) (w : World) : Calls Tryz.prog 18 #[.int .u32 (p : Int), .agg #[.int .i64 b.x0, .int .i64 b.x1, .int .i64 b.x2, .int .i64 b.x3, .int .i64 b.x4, .int .i64 b.x5, .int .i64 b.x6, .int .i64 b.x7, .bool b.ch, .bool b.od]] w fun r w' =>
    ∃ g L', r = .returned (ptr g) ∧ w.heap.size ≤ g ∧ At w' ⟨w.heap.size, []⟩ g p b L' (Q.new p b) ∧ Below w.heap.size w w' := by
  have hqr := fun w => Qk.right_any p hp w
  have hbr := fun w => Bnd.right_any b.x0 b.x1 b.x2 b.x3 b.x4 b.x5 b.x6 b.x7 b.ch b.od w
  have HB0 := Lib.hid (((Below.refl _ _).alloc (Nat.le_refl _) (.cells #[.int .i64 b.x0, .int .i64 b.x1, .int .i64 b.x2, .int .i64 b.x3, .int .i64 b.x4, .int .i64 b.x5, .int .i64 b.x6, .int .i64 b.x7, .bool b.ch, .bool b.od] 29)) : Below w.heap.size w _)
  have HZ0 := Lib.hid (Rec.Bk.new w w.heap.size rfl 29 [.int .i64 b.x0, .int .i64 b.x1, .int .i64 b.x2, .int .i64 b.x3, .int .i64 b.x4, .int .i64 b.x5, .int .i64 b.x6, .int .i64 b.x7, .bool b.ch, .bool b.od])
  have HSZ := Lib.hid (show w.heap.size < (w.alloc (.cells #[.int .i64 b.x0, .int .i64 b.x1, .int .i64 b.x2, .int .i64 b.x3, .int .i64 b.x4, .int .i64 b.x5, .int .i64 b.x6, .int .i64 b.x7, .bool b.ch, .bool b.od] 29)).heap.size by simp)
  unfold Q.new
  by_cases hP : p < 1073741824
  · rw [decide_eq_true hP] at hqr ⊢
    rw [Bool.and_true]
    have HQR := Lib.hid hqr
    unfold Bd.right
    cases hb : Bnd.right b.x0 b.x1 b.x2 b.x3 b.x4 b.x5 b.x6 b.x7 with
    | true =>
      rw [hb] at hbr
      have HBR := Lib.hid hbr
      rw [if_pos rfl]
      clear hqr hbr hb hP
      go_enter Tryz.func18, Tryz.ntmps18
      go_upto_region 1 with fail
      generalize w.alloc (.cells #[.int .i64 b.x0, .int .i64 b.x1, .int .i64 b.x2, .int .i64 b.x3, .int .i64 b.x4, .int .i64 b.x5, .int .i64 b.x6, .int .i64 b.x7, .bool b.ch, .bool b.od] 29) = W0 at *
      have y0 := HZ0.out.c 0 _ rfl; have y1 := HZ0.out.c 1 _ rfl; have y2 := HZ0.out.c 2 _ rfl; have y3 := HZ0.out.c 3 _ rfl; have y4 := HZ0.out.c 4 _ rfl; have y5 := HZ0.out.c 5 _ rfl; have y6 := HZ0.out.c 6 _ rfl; have y7 := HZ0.out.c 7 _ rfl; have y8 := HZ0.out.c 8 _ rfl; have y9 := HZ0.out.c 9 _ rfl
      go_upto_region 4 with (first
        | (go_at_call 63; with_reducible refine (HBR.out _).mono ?_; rintro r w3 ⟨rfl, hb3⟩
           have HB3 := Lib.hid hb3; have HZ3 := Lib.hid (HZ0.out.below hb3)
           have x0 := HZ3.out.c 0 _ rfl; have x1 := HZ3.out.c 1 _ rfl; have x2 := HZ3.out.c 2 _ rfl; have x3 := HZ3.out.c 3 _ rfl; have x4 := HZ3.out.c 4 _ rfl; have x5 := HZ3.out.c 5 _ rfl; have x6 := HZ3.out.c 6 _ rfl; have x7 := HZ3.out.c 7 _ rfl; have x8 := HZ3.out.c 8 _ rfl; have x9 := HZ3.out.c 9 _ rfl
           clear hb3)
        | (go_at_call 62; with_reducible refine (HQR.out _).mono ?_; rintro r w2 ⟨rfl, hw⟩; rw [hw]; clear hw))
      have HB4 := Lib.hid (Base.below_step HB0.out HB3.out)
      have HR4 := Lib.hid (heap_alloc_new w3 (.cells ([.int .i64 0, .int .i64 0, nil, .string E0, .string E0, .int .i64 0, .int .i64 0, .bool false, .int .i64 0, nil, .bool false, nil, .int .i64 0, .int .u32 (p : Int), .int .i64 b.x0, .int .i64 b.x1, .int .i64 b.x2, .int .i64 b.x3, .int .i64 b.x4, .int .i64 b.x5, .int .i64 b.x6, .int .i64 b.x7, .bool b.ch, .bool b.od, .int .i64 0, .pointer none, nil] : List Value).toArray 55))
      have HG := Lib.hid (show w.heap.size ≤ w3.heap.size from Nat.le_trans (Nat.le_of_lt HSZ.out) HB3.out.size)
      have HBW := Lib.hid (HB4.out.alloc HG.out (.cells ([.int .i64 0, .int .i64 0, nil, .string E0, .string E0, .int .i64 0, .int .i64 0, .bool false, .int .i64 0, nil, .bool false, nil, .int .i64 0, .int .u32 (p : Int), .int .i64 b.x0, .int .i64 b.x1, .int .i64 b.x2, .int .i64 b.x3, .int .i64 b.x4, .int .i64 b.x5, .int .i64 b.x6, .int .i64 b.x7, .bool b.ch, .bool b.od, .int .i64 0, .pointer none, nil] : List Value).toArray 55))
      have HX4 := Lib.hid ((HZ3.out.alloc (.cells ([.int .i64 0, .int .i64 0, nil, .string E0, .string E0, .int .i64 0, .int .i64 0, .bool false, .int .i64 0, nil, .bool false, nil, .int .i64 0, .int .u32 (p : Int), .int .i64 b.x0, .int .i64 b.x1, .int .i64 b.x2, .int .i64 b.x3, .int .i64 b.x4, .int .i64 b.x5, .int .i64 b.x6, .int .i64 b.x7, .bool b.ch, .bool b.od, .int .i64 0, .pointer none, nil] : List Value).toArray 55)).c 0 _ rfl)
      have HE := Lib.hid (enter_new (B := ⟨w.heap.size, []⟩) hp rfl HR4.out HG.out)
      clear y0 y1 y2 y3 y4 y5 y6 y7 y8 y9 x0 x1 x2 x3 x4 x5 x6 x7 x8 x9 HR4
      have x0 := HX4.out
      go_wp2_with (go_at_call 64; with_reducible refine HE.out.mono ?_; rintro r w5 ⟨rfl, q1, hP, hK⟩)
      go_ret
      exact ⟨_, _, rfl, HG.out, ⟨_, _, _, _, _, _, rfl, hP⟩, HBW.out.trans (hK.below HBW.out.size (fun k hk => by rw [Option.some.inj (List.mem_singleton.1 hk)]; exact HG.out))⟩
    | false =>
      rw [hb] at hbr
      have HBR := Lib.hid hbr
      rw [if_neg (by decide)]
      clear hqr hbr hb hP
      go_enter Tryz.func18, Tryz.ntmps18
      go_upto_region 1 with fail
      generalize w.alloc (.cells #[.int .i64 b.x0, .int .i64 b.x1, .int .i64 b.x2, .int .i64 b.x3, .int .i64 b.x4, .int .i64 b.x5, .int .i64 b.x6, .int .i64 b.x7, .bool b.ch, .bool b.od] 29) = W0 at *
      have y0 := HZ0.out.c 0 _ rfl; have y1 := HZ0.out.c 1 _ rfl; have y2 := HZ0.out.c 2 _ rfl; have y3 := HZ0.out.c 3 _ rfl; have y4 := HZ0.out.c 4 _ rfl; have y5 := HZ0.out.c 5 _ rfl; have y6 := HZ0.out.c 6 _ rfl; have y7 := HZ0.out.c 7 _ rfl; have y8 := HZ0.out.c 8 _ rfl; have y9 := HZ0.out.c 9 _ rfl
      go_wp2_with (first
        | (go_at_call 63; with_reducible refine (HBR.out _).mono ?_; rintro r w3 ⟨rfl, hb3⟩
           have HB3 := Lib.hid hb3
           clear hb3)
        | (go_at_call 62; with_reducible refine (HQR.out _).mono ?_; rintro r w2 ⟨rfl, hw⟩; rw [hw]; clear hw))
      go_ret
      have hg := Nat.le_trans (Nat.le_of_lt HSZ.out) HB3.out.size
      exact ⟨_, _, rfl, hg, dead_new (B := ⟨w.heap.size, []⟩) rfl (heap_alloc_new w3 (.cells ([.int .i64 20, .int .i64 0, nil, .string E0, .string E0, .int .i64 0, .int .i64 0, .bool false, .int .i64 0, nil, .bool false, nil, .int .i64 0, .int .u32 0, .int .i64 0, .int .i64 0, .int .i64 0, .int .i64 0, .int .i64 0, .int .i64 0, .int .i64 0, .int .i64 0, .bool false, .bool false, .int .i64 0, .pointer none, nil] : List Value).toArray 55)) hg, (Base.below_step HB0.out HB3.out).alloc hg _⟩
  · rw [decide_eq_false hP] at hqr ⊢
    rw [Bool.and_false, if_neg (by decide)]
    have HQR := Lib.hid hqr
    clear hqr hbr hP
    go_enter Tryz.func18, Tryz.ntmps18
    go_upto_region 1 with fail
    generalize w.alloc (.cells #[.int .i64 b.x0, .int .i64 b.x1, .int .i64 b.x2, .int .i64 b.x3, .int .i64 b.x4, .int .i64 b.x5, .int .i64 b.x6, .int .i64 b.x7, .bool b.ch, .bool b.od] 29) = W0 at *
    go_wp2_with (go_at_call 62; with_reducible refine (HQR.out _).mono ?_; rintro r w2 ⟨rfl, hw⟩; rw [hw]; clear hw)
    go_ret
    have hg := Nat.le_of_lt HSZ.out
    exact ⟨_, _, rfl, hg, dead_new (B := ⟨w.heap.size, []⟩) rfl (heap_alloc_new W0 (.cells ([.int .i64 20, .int .i64 0, nil, .string E0, .string E0, .int .i64 0, .int .i64 0, .bool false, .int .i64 0, nil, .bool false, nil, .int .i64 0, .int .u32 0, .int .i64 0, .int .i64 0, .int .i64 0, .int .i64 0, .int .i64 0, .int .i64 0, .int .i64 0, .int .i64 0, .bool false, .bool false, .int .i64 0, .pointer none, nil] : List Value).toArray 55)) hg, HB0.out.alloc hg _⟩
end code
end Go.Proofs.YtlkmpkofgaceiaaGreatDoor.Pg
/- PgRead -/
namespace Go.Proofs.YtlkmpkofgaceiaaGreatDoor.Pg
open Go.RowKit Base Txt Mem Par

theorem told_err (x : Q) : x.told.err = x.err := by cases x <;> rfl
theorem told_clean (x : Q) : x.told.clean = x.clean := by cases x <;> rfl
theorem told_waits (x : Q) : x.told.waits = x.waits := by cases x <;> rfl
theorem told_held (x : Q) : x.told.held = x.held := by cases x <;> rfl
theorem told_ok {b : Bd} {x : Q} (h : x.Ok b) : x.told.Ok b := by
  cases x with
  | live t => exact ⟨⟨h.1.rd, h.1.nf, h.1.st, h.1.hl, h.1.bl, h.1.fsl, h.1.tsl, h.1.fss, h.1.tss, h.1.m, h.1.x, h.1.body, h.1.left, h.1.early, h.1.size⟩, h.2⟩
  | dead e o => trivial
theorem told_out (x : Q) : x.told.out = [] := by cases x <;> rfl
/-- One slice of bytes, as a slice of such. -/
theorem Parts.one {L : List (Option Nat)} {w : World} {a : Option Addr} {c : Nat} {l : List UInt8} (h : Bts L w a l) (hin : In w L) (ty : TypeId) : Parts L (w.alloc (.cells #[.slice a l.length c] ty)) (some ⟨w.heap.size, 0, none⟩) [l] := by
  have hb : Below w.heap.size w (w.alloc (.cells #[.slice a l.length c] ty)) := (Below.refl _ _).alloc (Nat.le_refl _) _
  refine ⟨fun _ => ⟨w.heap.size, 0, rfl, by simp, fun hm => by have := hin _ hm; omega, fun k hk => ?_⟩⟩
  have hk : k < 1 := hk
  obtain rfl : k = 0 := by omega
  refine ⟨a, c, ?_, ?_⟩
  · have := cell_of_row (w.alloc (.cells #[.slice a l.length c] ty)) w.heap.size 0 _ ty (0, 0) (heap_alloc_new w _)
    exact this.trans rfl
  · exact h.step (Step.of_below hb)
section code
set_option maxHeartbeats 4000000
set_option maxRecDepth 20000
attribute [local go_sem] Base.some_undef
variable {w : World} {B : Zone} {g q : Nat} {v f bd t o : Value} {p : Nat} {b : Bd} {s : T}
theorem read_any (hp : p < 4294967296) (w : World) (a : Option Addr) (c : Nat) (l : List UInt8) (hl : Bts [] w a l) (hn : l.length ≤ 400000000) : Calls Tryz.prog 30 #[.int .u32 (p : Int), .agg #[.int .i64 b.x0, .int .i64 b.x1, .int .i64 b.x2, .int .i64 b.x3, .int .i64 b.x4, .int .i64 b.x5, .int .i64 b.x6, .int .i64 b.x7, .bool b.ch, .bool b.od], .slice a l.length c] w fun r w' =>
    ∃ o L B0, r = .returned (.tuple #[o, .int .i64 ((Q.read p b l).err : Int), .bool (Q.read p b l).clean]) ∧ Told L B0 w' o (Q.read p b l).out ∧ Below w.heap.size w w' := by
  have HB0 := Lib.hid (((Below.refl _ _).alloc (Nat.le_refl _) (.cells #[.int .i64 b.x0, .int .i64 b.x1, .int .i64 b.x2, .int .i64 b.x3, .int .i64 b.x4, .int .i64 b.x5, .int .i64 b.x6, .int .i64 b.x7, .bool b.ch, .bool b.od] 29)) : Below w.heap.size w _)
  have HZ0 := Lib.hid (Rec.Bk.new w w.heap.size rfl 29 [.int .i64 b.x0, .int .i64 b.x1, .int .i64 b.x2, .int .i64 b.x3, .int .i64 b.x4, .int .i64 b.x5, .int .i64 b.x6, .int .i64 b.x7, .bool b.ch, .bool b.od])
  have HSZ := Lib.hid (show w.heap.size < (w.alloc (.cells #[.int .i64 b.x0, .int .i64 b.x1, .int .i64 b.x2, .int .i64 b.x3, .int .i64 b.x4, .int .i64 b.x5, .int .i64 b.x6, .int .i64 b.x7, .bool b.ch, .bool b.od] 29)).heap.size by simp)
  have HL := Lib.hid hl; have HN := Lib.hid hn
  unfold Q.read
  obtain ⟨X, hX⟩ : ∃ X, Q.feed p b (Q.new p b) l = X := ⟨_, rfl⟩
  rw [hX]
  have HX := Lib.hid hX
  obtain ⟨m, hm⟩ : ∃ m, l.length = m := ⟨_, rfl⟩
  have HM := Lib.hid hm
  rw [hm]
  clear hl hn hm hX
  go_enter Tryz.func30, Tryz.ntmps30
  go_upto_region 1 with fail
  generalize w.alloc (.cells #[.int .i64 b.x0, .int .i64 b.x1, .int .i64 b.x2, .int .i64 b.x3, .int .i64 b.x4, .int .i64 b.x5, .int .i64 b.x6, .int .i64 b.x7, .bool b.ch, .bool b.od] 29) = W0 at *
  have y0 := HZ0.out.c 0 _ rfl; have y1 := HZ0.out.c 1 _ rfl; have y2 := HZ0.out.c 2 _ rfl; have y3 := HZ0.out.c 3 _ rfl; have y4 := HZ0.out.c 4 _ rfl; have y5 := HZ0.out.c 5 _ rfl; have y6 := HZ0.out.c 6 _ rfl; have y7 := HZ0.out.c 7 _ rfl; have y8 := HZ0.out.c 8 _ rfl; have y9 := HZ0.out.c 9 _ rfl
  have HNW := Lib.hid (new_any (b := b) hp W0)
  go_upto_region 2 with
    (go_at_call 18; with_reducible refine HNW.out.mono ?_; rintro r w1 ⟨g, L1, rfl, hg, hA, hb1⟩
     have HG := Lib.hid hg; have HA := Lib.hid hA; have HB1 := Lib.hid hb1
     clear hg hA hb1)
  have hlow := HA.out.low
  have hlA : Bts L1 w1 a l := by
    refine ⟨HL.out.nums.below (Base.below_step HB0.out HB1.out), fun ad e => ?_⟩
    have := (HL.out.far ad e).2
    refine ⟨fun hm => ?_, Nat.lt_of_lt_of_le this (Nat.le_trans (Nat.le_of_lt HSZ.out) HB1.out.size)⟩
    have : W0.heap.size ≤ ad.block := hlow _ hm
    have := HSZ.out
    omega
  have hpa := Parts.one (c := c) hlA HA.out.in 22
  rw [HM.out] at hpa
  have hb2 : Below w1.heap.size w1 (w1.alloc (.cells #[.slice a m c] 22)) := (Below.refl _ _).alloc (Nat.le_refl _) _
  have hfe := feed_any hp _ (HA.out.below hb2) (Q.new_ok p b) (some ⟨w1.heap.size, 0, none⟩) 1 [l] hpa (by simp) (by
    have h1 : (Q.new p b).out.length = 0 := by unfold Q.new; split <;> rfl
    have h2 := HN.out
    rw [h1]
    simp only [List.flatten_cons, List.flatten_nil, List.append_nil]
    omega)
  have efl : [l].flatten = l := by simp
  rw [efl] at hfe
  have HFE := Lib.hid (show Calls Tryz.prog 20 #[ptr g, .slice (some ⟨w1.heap.size, 0, none⟩) 1 1] (w1.alloc (.cells #[.slice a m c] 22)) fun r w' => ∃ o L', r = .returned o ∧ At w' ⟨W0.heap.size, []⟩ g p b L' (Q.feed p b (Q.new p b) l).told ∧ Told L' ⟨W0.heap.size, []⟩ w' o (Q.feed p b (Q.new p b) l).out ∧ Step L1 L' (w1.alloc (.cells #[.slice a m c] 22)) w' from hfe)
  have HLOW := Lib.hid hlow
  have HB2 := Lib.hid (Base.below_step (Base.below_step HB0.out HB1.out) hb2)
  rw [HX.out] at HFE
  clear hlA hpa hb2 hfe efl hlow y0 y1 y2 y3 y4 y5 y6 y7 y8 y9
  go_wp2_with (first
    | (go_at_call 28; with_reducible refine HC.out.mono ?_; rintro r w3 ⟨rfl, hw⟩; rw [hw]; clear hw)
    | (go_at_call 23; with_reducible refine HE.out.mono ?_; rintro r w3 ⟨rfl, hw⟩; rw [hw]; clear hw)
    | (go_at_call 20; with_reducible refine HFE.out.mono ?_; rintro r w3 ⟨o, L', rfl, hA3, hT3, hS3⟩
       have HE := Lib.hid (errq_any hA3); have HC := Lib.hid (cleanq_any hA3)
       rw [told_err] at HE; rw [told_clean] at HC
       have HT3 := Lib.hid hT3; have HS3 := Lib.hid hS3
       clear hA3 hT3 hS3))
  refine bodyPost_ret (v := .tuple #[o, .int .i64 (X.err : Int), .bool X.clean]) (by simp [results, Tryz.results30, go_sem]) rfl ?_
  refine ⟨_, _, _, rfl, HT3.out, HB2.out.trans (HS3.out.keeps.below HB2.out.size (fun k hk => ?_))⟩
  have := HLOW.out k hk
  have := HSZ.out
  omega
end code
theorem flat_at : ∀ (ps : List (Array Value × Rec.R)), (∀ x ∈ ps, x.1.size = 7) → ∀ k (hk : k < ps.length) j, j < 7 → (ps.flatMap (·.1.toList))[k * 7 + j]? = ps[k].1.toList[j]?
  | [], _, k, hk, _, _ => by cases hk
  | x :: ps, h, 0, _, j, hj => by
    have hx : x.1.toList.length = 7 := by simpa using h x (by simp)
    rw [List.flatMap_cons, List.getElem?_append_left (by omega), Nat.zero_mul, Nat.zero_add]
    rfl
  | x :: ps, h, k + 1, hk, j, hj => by
    have hx : x.1.toList.length = 7 := by simpa using h x (by simp)
    rw [List.flatMap_cons, List.getElem?_append_right (by omega), hx, show (k + 1) * 7 + j - 7 = k * 7 + j by omega]
    exact flat_at ps (fun y hy => h y (by simp [hy])) k (by simpa using hk) j hj
/-- Records that were told, one by one. -/
theorem Told.at {L : List (Option Nat)} {B : Zone} {w : World} {o : Value} {out : List Rec.R} (h : Told L B w o out) : ∃ a c, o = .slice a out.length c ∧ (0 < out.length → ∃ bk, a = some ⟨bk, 0, none⟩ ∧ bk < w.heap.size ∧
    ∀ k (hk : k < out.length), ∃ fa fc ba bc ta tc, Flds w fa out[k].fs.length out[k].fs ∧ Nums .u8 w ba out[k].body.length (out[k].body.map fun c => (c.toNat : Int)) ∧ Flds w ta out[k].ts.length out[k].ts ∧
      w.cell? ⟨bk, k * 7, none⟩ = some (.string out[k].m) ∧ w.cell? ⟨bk, k * 7 + 1, none⟩ = some (.string out[k].x) ∧ w.cell? ⟨bk, k * 7 + 2, none⟩ = some (.int .i64 out[k].k) ∧ w.cell? ⟨bk, k * 7 + 3, none⟩ = some (.slice fa out[k].fs.length fc) ∧
      w.cell? ⟨bk, k * 7 + 4, none⟩ = some (.bool out[k].ch) ∧ w.cell? ⟨bk, k * 7 + 5, none⟩ = some (.slice ba out[k].body.length bc) ∧ w.cell? ⟨bk, k * 7 + 6, none⟩ = some (.slice ta out[k].ts.length tc)) := by
  obtain ⟨ps, h1, h2, h3⟩ := h.outs
  obtain ⟨a, c, e, -⟩ := Ln.own_slice h3
  subst e
  refine ⟨a, c, rfl, fun h0 => ?_⟩
  obtain ⟨bk, cf, hform, -, hlt⟩ := h3.form h0
  simp only [Value.slice.injEq, true_and] at hform
  obtain ⟨rfl, rfl⟩ := hform
  refine ⟨bk, rfl, hlt, fun k hk => ?_⟩
  have hkp : k < ps.length := by rw [← h1, List.length_map] at hk; exact hk
  have hr : out[k] = ps[k].2 := by simp [← h1]
  obtain ⟨h7, hF⟩ := h2 ps[k] (List.getElem_mem hkp)
  obtain ⟨fa, fc, ba, bc, ta, tc, hV, f1, f2, f3⟩ := hF.reads
  have hcs : ps[k].1 = #[.string ps[k].2.m, .string ps[k].2.x, .int .i64 ps[k].2.k, .slice fa ps[k].2.fs.length fc, .bool ps[k].2.ch, .slice ba ps[k].2.body.length bc, .slice ta ps[k].2.ts.length tc] := by injection hV
  have key : ∀ j, j < 7 → w.cell? ⟨bk, k * 7 + j, none⟩ = ps[k].1.toList[j]? := by
    intro j hj
    have hc := h3.cellAt (k * 7 + j) (by omega)
    have e : (ps.flatMap (·.1.toList))[k * 7 + j]? = ps[k].1.toList[j]? := flat_at ps (fun x hx => (h2 x hx).1) k hkp j hj
    exact hc.trans e
  rw [hr]
  rw [hcs] at key
  exact ⟨fa, fc, ba, bc, ta, tc, f1, f2, f3, key 0 (by decide), key 1 (by decide), key 2 (by decide), key 3 (by decide), key 4 (by decide), key 5 (by decide), key 6 (by decide)⟩
end Go.Proofs.YtlkmpkofgaceiaaGreatDoor.Pg
/- Bytes -/
namespace Go.Proofs.YtlkmpkofgaceiaaGreatDoor.By
open Go.RowKit Base

/-- A block whose first cells are the bytes l, and may be written. -/
def Bytes (w : World) (g : Nat) (l : List UInt8) : Prop := ∀ j (h : j < l.length), w.cell? ⟨g, j, none⟩ = some (.int .u8 (l[j].toNat : Int)) ∧ w.frozen? ⟨g, j, none⟩ = false
end Go.Proofs.YtlkmpkofgaceiaaGreatDoor.By
/- PgSaid -/
namespace Go.Proofs.YtlkmpkofgaceiaaGreatDoor.Pg
open Go.RowKit Base Txt Mem Par

abbrev usual : Bd := ⟨1024, 32, 8192, 65536, 32, 8, 4, 20, true, true⟩
abbrev bdV (b : Bd) : Value := .agg #[.int .i64 b.x0, .int .i64 b.x1, .int .i64 b.x2, .int .i64 b.x3, .int .i64 b.x4, .int .i64 b.x5, .int .i64 b.x6, .int .i64 b.x7, .bool b.ch, .bool b.od]
/-- A record at a place of a block. -/
def RecAt (w : World) (bk j : Nat) (r : Rec.R) : Prop := ∃ fa fc ba bc ta tc, Flds w fa r.fs.length r.fs ∧ Nums .u8 w ba r.body.length (r.body.map fun c => (c.toNat : Int)) ∧ Flds w ta r.ts.length r.ts ∧
  w.cell? ⟨bk, j, none⟩ = some (.string r.m) ∧ w.cell? ⟨bk, j + 1, none⟩ = some (.string r.x) ∧ w.cell? ⟨bk, j + 2, none⟩ = some (.int .i64 r.k) ∧ w.cell? ⟨bk, j + 3, none⟩ = some (.slice fa r.fs.length fc) ∧
  w.cell? ⟨bk, j + 4, none⟩ = some (.bool r.ch) ∧ w.cell? ⟨bk, j + 5, none⟩ = some (.slice ba r.body.length bc) ∧ w.cell? ⟨bk, j + 6, none⟩ = some (.slice ta r.ts.length tc)
/-- A slice of records. -/
def Said (w : World) (o : Value) (out : List Rec.R) : Prop := ∃ a c, o = .slice a out.length c ∧ (0 < out.length → ∃ bk, a = some ⟨bk, 0, none⟩ ∧ bk < w.heap.size ∧ ∀ k (hk : k < out.length), RecAt w bk (k * 7) out[k])
theorem Told.said {L : List (Option Nat)} {B : Zone} {w : World} {o : Value} {out : List Rec.R} (h : Told L B w o out) : Said w o out := h.at
theorem RecAt.below {w w' : World} {bk j : Nat} {r : Rec.R} (h : RecAt w bk j r) (hlt : bk < w.heap.size) (hb : Below w.heap.size w w') : RecAt w' bk j r := by
  obtain ⟨fa, fc, ba, bc, ta, tc, f1, f2, f3, c0, c1, c2, c3, c4, c5, c6⟩ := h
  exact ⟨fa, fc, ba, bc, ta, tc, f1.below hb, f2.below hb, f3.below hb, (hb.cell (p := ⟨bk, j, none⟩) hlt).trans c0, (hb.cell (p := ⟨bk, j + 1, none⟩) hlt).trans c1, (hb.cell (p := ⟨bk, j + 2, none⟩) hlt).trans c2, (hb.cell (p := ⟨bk, j + 3, none⟩) hlt).trans c3, (hb.cell (p := ⟨bk, j + 4, none⟩) hlt).trans c4, (hb.cell (p := ⟨bk, j + 5, none⟩) hlt).trans c5, (hb.cell (p := ⟨bk, j + 6, none⟩) hlt).trans c6⟩
theorem Said.below {w w' : World} {o : Value} {out : List Rec.R} (h : Said w o out) (hb : Below w.heap.size w w') : Said w' o out := by
  obtain ⟨a, c, e, hc⟩ := h
  refine ⟨a, c, e, fun h0 => ?_⟩
  obtain ⟨bk, e1, hlt, h1⟩ := hc h0
  exact ⟨bk, e1, Nat.lt_of_lt_of_le hlt hb.size, fun k hk => (h1 k hk).below hlt hb⟩
abbrev bytesV (l : List UInt8) : Array Value := (l.map fun c => Value.int .u8 (c.toNat : Int)).toArray
/-- Bytes written out, in a block that was made last. -/
theorem Bts.lit {L : List (Option Nat)} {w : World} (hin : In w L) (l : List UInt8) (V : Array Value) (hV : V = bytesV l) (ty : TypeId) (fr : Nat × Nat) : Bts L (w.alloc (.cells V ty fr)) (some ⟨w.heap.size, 0, none⟩) l := by
  subst hV
  refine ⟨⟨by simp, fun h0 => ⟨w.heap.size, 0, rfl, by simp, fun k hk => ?_⟩⟩, fun ad e => ?_⟩
  · rw [Nat.zero_add, cell_of_row _ _ k _ ty fr (heap_alloc_new _ _)]
    simp [bytesV, hk]
  · obtain rfl : ad = ⟨w.heap.size, 0, none⟩ := by simpa using e.symm
    exact ⟨fun hm => by have : w.heap.size < w.heap.size := hin _ hm; omega, by simp⟩
theorem Bts.alloc {L : List (Option Nat)} {w : World} {a : Option Addr} {l : List UInt8} (h : Bts L w a l) (o : Obj) : Bts L (w.alloc o) a l := h.step (Step.of_below ((Below.refl _ _).alloc (Nat.le_refl _) _))
theorem Parts.two {L : List (Option Nat)} {w : World} {a a' : Option Addr} {c c' : Nat} {l l' : List UInt8} (h : Bts L w a l) (h' : Bts L w a' l') (hin : In w L) (ty : TypeId) : Parts L (w.alloc (.cells #[.slice a l.length c, .slice a' l'.length c'] ty)) (some ⟨w.heap.size, 0, none⟩) [l, l'] := by
  have hb : Below w.heap.size w (w.alloc (.cells #[.slice a l.length c, .slice a' l'.length c'] ty)) := (Below.refl _ _).alloc (Nat.le_refl _) _
  refine ⟨fun _ => ⟨w.heap.size, 0, rfl, by simp, fun hm => by have := hin _ hm; omega, fun k hk => ?_⟩⟩
  have hk : k < 2 := hk
  have hr := fun j => cell_of_row (w.alloc (.cells #[.slice a l.length c, .slice a' l'.length c'] ty)) w.heap.size j _ ty (0, 0) (heap_alloc_new w _)
  rcases (by omega : k = 0 ∨ k = 1) with rfl | rfl
  · exact ⟨a, c, (hr 0).trans rfl, h.step (Step.of_below hb)⟩
  · exact ⟨a', c', (hr 1).trans rfl, h'.step (Step.of_below hb)⟩
theorem in_alloc {L : List (Option Nat)} {w : World} (h : In w L) (o : Obj) : In (w.alloc o) L := h.mono (by simp)
theorem in_nil (w : World) : In w [] := fun k hk => by cases hk
/-- A reading of bytes that are known. -/
theorem read_said {p : Nat} (hp : p < 4294967296) (b : Bd) (w : World) (a : Option Addr) (c : Nat) (l : List UInt8) (hl : Bts [] w a l) (hn : l.length ≤ 400000000) (e : Nat) (cl : Bool) (out : List Rec.R) (he : (Q.read p b l).err = e) (hc : (Q.read p b l).clean = cl) (ho : (Q.read p b l).out = out) : Calls Tryz.prog 30 #[.int .u32 (p : Int), bdV b, .slice a l.length c] w fun r w' =>
    ∃ o, r = .returned (.tuple #[o, .int .i64 (e : Int), .bool cl]) ∧ Said w' o out ∧ Below w.heap.size w w' := by
  refine (read_any (b := b) hp w a c l hl hn).mono ?_
  rintro r w' ⟨o, L, B0, rfl, hT, hb⟩
  rw [he, hc]
  rw [ho] at hT
  exact ⟨o, rfl, hT.said, hb⟩
end Go.Proofs.YtlkmpkofgaceiaaGreatDoor.Pg
/- PgKnown -/
namespace Go.Proofs.YtlkmpkofgaceiaaGreatDoor.Pg
open Go.RowKit Base Txt Mem Par

theorem k1_all : (Q.read 0 usual [80, 79, 83, 84, 32, 47, 97, 32, 72, 84, 84, 80, 47, 49, 46, 49, 13, 10, 72, 111, 115, 116, 58, 32, 104, 13, 10, 84, 114, 97, 110, 115, 102, 101, 114, 45, 69, 110, 99, 111, 100, 105, 110, 103, 58, 32, 99, 104, 117, 110, 107, 101, 100, 13, 10, 13, 10, 51, 13, 10, 97, 98, 99, 13, 10, 48, 13, 10, 84, 58, 32, 117, 13, 10, 13, 10, 71]).err = 0 ∧ (Q.read 0 usual [80, 79, 83, 84, 32, 47, 97, 32, 72, 84, 84, 80, 47, 49, 46, 49, 13, 10, 72, 111, 115, 116, 58, 32, 104, 13, 10, 84, 114, 97, 110, 115, 102, 101, 114, 45, 69, 110, 99, 111, 100, 105, 110, 103, 58, 32, 99, 104, 117, 110, 107, 101, 100, 13, 10, 13, 10, 51, 13, 10, 97, 98, 99, 13, 10, 48, 13, 10, 84, 58, 32, 117, 13, 10, 13, 10, 71]).clean = false ∧ (Q.read 0 usual [80, 79, 83, 84, 32, 47, 97, 32, 72, 84, 84, 80, 47, 49, 46, 49, 13, 10, 72, 111, 115, 116, 58, 32, 104, 13, 10, 84, 114, 97, 110, 115, 102, 101, 114, 45, 69, 110, 99, 111, 100, 105, 110, 103, 58, 32, 99, 104, 117, 110, 107, 101, 100, 13, 10, 13, 10, 51, 13, 10, 97, 98, 99, 13, 10, 48, 13, 10, 84, 58, 32, 117, 13, 10, 13, 10, 71]).out.map (fun r => (r.body, r.ts.length, r.ch)) = [([97, 98, 99], 1, true)] ∧ (Q.read 0 usual [80, 79, 83, 84, 32, 47, 97, 32, 72, 84, 84, 80, 47, 49, 46, 49, 13, 10, 72, 111, 115, 116, 58, 32, 104, 13, 10, 84, 114, 97, 110, 115, 102, 101, 114, 45, 69, 110, 99, 111, 100, 105, 110, 103, 58, 32, 99, 104, 117, 110, 107, 101, 100, 13, 10, 13, 10, 51, 13, 10, 97, 98, 99, 13, 10, 48, 13, 10, 84, 58, 32, 117, 13, 10, 13, 10, 71]).out.length = 1 := by decide +kernel
theorem k1_out : ∃ r : Rec.R, (Q.read 0 usual [80, 79, 83, 84, 32, 47, 97, 32, 72, 84, 84, 80, 47, 49, 46, 49, 13, 10, 72, 111, 115, 116, 58, 32, 104, 13, 10, 84, 114, 97, 110, 115, 102, 101, 114, 45, 69, 110, 99, 111, 100, 105, 110, 103, 58, 32, 99, 104, 117, 110, 107, 101, 100, 13, 10, 13, 10, 51, 13, 10, 97, 98, 99, 13, 10, 48, 13, 10, 84, 58, 32, 117, 13, 10, 13, 10, 71]).out = [r] ∧ r.body = [97, 98, 99] ∧ r.ts.length = 1 ∧ r.ch = true := by
  have h := k1_all.2.2.1
  obtain ⟨r, hr⟩ := List.length_eq_one_iff.1 k1_all.2.2.2
  rw [hr] at h
  have h2 : (r.body, r.ts.length, r.ch) = ([97, 98, 99], 1, true) := by injection h
  exact ⟨r, hr, congrArg Prod.fst h2, congrArg (fun x => x.2.1) h2, congrArg (fun x => x.2.2) h2⟩
theorem k2_all : (Q.read 0 usual [71, 69, 84, 32, 47, 32, 72, 84, 84, 80, 47, 49, 46, 49, 10]).err = 400 ∧ (Q.read 0 usual [71, 69, 84, 32, 47, 32, 72, 84, 84, 80, 47, 49, 46, 49, 10]).clean = false ∧ (Q.read 0 usual [71, 69, 84, 32, 47, 32, 72, 84, 84, 80, 47, 49, 46, 49, 10]).out.length = 0 := by decide +kernel
theorem k3_all : (Q.read 0 usual ([80, 79, 83, 84, 32, 47, 32, 72, 84, 84, 80, 47, 49, 46, 49, 13, 10, 72, 111, 115, 116, 58, 32, 104, 13, 10, 69, 120, 112, 101, 99, 116, 58, 32, 49, 48, 48, 45, 99, 111, 110, 116, 105, 110, 117, 101, 13, 10] ++ [67, 111, 110, 116, 101, 110, 116, 45, 76, 101, 110, 103, 116, 104, 58, 32, 50, 13, 10, 13, 10])).waits = true ∧ (Q.read 0 usual ([80, 79, 83, 84, 32, 47, 32, 72, 84, 84, 80, 47, 49, 46, 49, 13, 10, 72, 111, 115, 116, 58, 32, 104, 13, 10, 69, 120, 112, 101, 99, 116, 58, 32, 49, 48, 48, 45, 99, 111, 110, 116, 105, 110, 117, 101, 13, 10] ++ [67, 111, 110, 116, 101, 110, 116, 45, 76, 101, 110, 103, 116, 104, 58, 32, 50, 13, 10, 13, 10])).held = 43 ∧ (Q.read 0 usual ([80, 79, 83, 84, 32, 47, 32, 72, 84, 84, 80, 47, 49, 46, 49, 13, 10, 72, 111, 115, 116, 58, 32, 104, 13, 10, 69, 120, 112, 101, 99, 116, 58, 32, 49, 48, 48, 45, 99, 111, 110, 116, 105, 110, 117, 101, 13, 10] ++ [67, 111, 110, 116, 101, 110, 116, 45, 76, 101, 110, 103, 116, 104, 58, 32, 50, 13, 10, 13, 10])).out.length = 0 ∧ ((Q.read 0 usual ([80, 79, 83, 84, 32, 47, 32, 72, 84, 84, 80, 47, 49, 46, 49, 13, 10, 72, 111, 115, 116, 58, 32, 104, 13, 10, 69, 120, 112, 101, 99, 116, 58, 32, 49, 48, 48, 45, 99, 111, 110, 116, 105, 110, 117, 101, 13, 10] ++ [67, 111, 110, 116, 101, 110, 116, 45, 76, 101, 110, 103, 116, 104, 58, 32, 50, 13, 10, 13, 10])).told.feed 0 usual [97, 98]).out.length = 1 ∧
    ((Q.read 0 usual ([80, 79, 83, 84, 32, 47, 32, 72, 84, 84, 80, 47, 49, 46, 49, 13, 10, 72, 111, 115, 116, 58, 32, 104, 13, 10, 69, 120, 112, 101, 99, 116, 58, 32, 49, 48, 48, 45, 99, 111, 110, 116, 105, 110, 117, 101, 13, 10] ++ [67, 111, 110, 116, 101, 110, 116, 45, 76, 101, 110, 103, 116, 104, 58, 32, 50, 13, 10, 13, 10])).told.feed 0 usual [97, 98]).clean = true ∧ ((Q.read 0 usual ([80, 79, 83, 84, 32, 47, 32, 72, 84, 84, 80, 47, 49, 46, 49, 13, 10, 72, 111, 115, 116, 58, 32, 104, 13, 10, 69, 120, 112, 101, 99, 116, 58, 32, 49, 48, 48, 45, 99, 111, 110, 116, 105, 110, 117, 101, 13, 10] ++ [67, 111, 110, 116, 101, 110, 116, 45, 76, 101, 110, 103, 116, 104, 58, 32, 50, 13, 10, 13, 10])).told.feed 0 usual [97, 98]).err = 0 ∧ ((Q.read 0 usual ([80, 79, 83, 84, 32, 47, 32, 72, 84, 84, 80, 47, 49, 46, 49, 13, 10, 72, 111, 115, 116, 58, 32, 104, 13, 10, 69, 120, 112, 101, 99, 116, 58, 32, 49, 48, 48, 45, 99, 111, 110, 116, 105, 110, 117, 101, 13, 10] ++ [67, 111, 110, 116, 101, 110, 116, 45, 76, 101, 110, 103, 116, 104, 58, 32, 50, 13, 10, 13, 10])).told.feed 0 usual [97, 98]).held = 0 := by decide +kernel
section code
set_option maxHeartbeats 8000000
set_option maxRecDepth 100000
attribute [local go_sem] Base.some_undef
theorem feed_said {p : Nat} {b : Bd} {w : World} {B : Zone} {g : Nat} {L : List (Option Nat)} {x : Q} (hp : p < 4294967296) (h : At w B g p b L x) (ok : x.Ok b) (hw : x.out = []) (a : Option Addr) (ca : Nat) (ls : List (List UInt8)) (hl : Parts L w a ls) (hn : ls.length ≤ 1000000) (hle : ls.flatten.length ≤ 400000000) :
    Calls Tryz.prog 20 #[ptr g, .slice a ls.length ca] w fun r w' => ∃ o L', r = .returned o ∧ At w' B g p b L' (x.feed p b ls.flatten).told ∧ (x.feed p b ls.flatten).told.Ok b ∧ (x.feed p b ls.flatten).told.out = [] ∧ Said w' o (x.feed p b ls.flatten).out ∧ Step L L' w w' := by
  refine (feed_any hp x h ok a ca ls hl hn (by rw [hw]; simp only [List.length_nil]; omega)).mono ?_
  rintro r w' ⟨o, L', rfl, h1, h2, h3⟩
  exact ⟨o, L', rfl, h1, told_ok (Q.Ok.feed _ ok), told_out _, h2.said, h3⟩
theorem known_any (w : World) : Calls Tryz.prog 13 #[] w fun e w' => e = .returned (.bool true) ∧ Below w.heap.size w w' := by
  obtain ⟨r1, ho1, hbd1, hts1, hch1⟩ := k1_out
  have ho2 : (Q.read 0 usual [71, 69, 84, 32, 47, 32, 72, 84, 84, 80, 47, 49, 46, 49, 10]).out = [] := List.eq_nil_of_length_eq_zero k2_all.2.2
  have hc1 : ∀ w : World, (convert 22 22 (.slice (some ⟨w.heap.size, 0, none⟩) 77 77)).run Tryz.prog (w.alloc (.cells #[.int .u8 80, .int .u8 79, .int .u8 83, .int .u8 84, .int .u8 32, .int .u8 47, .int .u8 97, .int .u8 32, .int .u8 72, .int .u8 84, .int .u8 84, .int .u8 80, .int .u8 47, .int .u8 49, .int .u8 46, .int .u8 49, .int .u8 13, .int .u8 10, .int .u8 72, .int .u8 111, .int .u8 115, .int .u8 116, .int .u8 58, .int .u8 32, .int .u8 104, .int .u8 13, .int .u8 10, .int .u8 84, .int .u8 114, .int .u8 97, .int .u8 110, .int .u8 115, .int .u8 102, .int .u8 101, .int .u8 114, .int .u8 45, .int .u8 69, .int .u8 110, .int .u8 99, .int .u8 111, .int .u8 100, .int .u8 105, .int .u8 110, .int .u8 103, .int .u8 58, .int .u8 32, .int .u8 99, .int .u8 104, .int .u8 117, .int .u8 110, .int .u8 107, .int .u8 101, .int .u8 100, .int .u8 13, .int .u8 10, .int .u8 13, .int .u8 10, .int .u8 51, .int .u8 13, .int .u8 10, .int .u8 97, .int .u8 98, .int .u8 99, .int .u8 13, .int .u8 10, .int .u8 48, .int .u8 13, .int .u8 10, .int .u8 84, .int .u8 58, .int .u8 32, .int .u8 117, .int .u8 13, .int .u8 10, .int .u8 13, .int .u8 10, .int .u8 71] 5)) = .ok (.slice (some ⟨w.heap.size, 0, none⟩) 77 77) (w.alloc (.cells #[.int .u8 80, .int .u8 79, .int .u8 83, .int .u8 84, .int .u8 32, .int .u8 47, .int .u8 97, .int .u8 32, .int .u8 72, .int .u8 84, .int .u8 84, .int .u8 80, .int .u8 47, .int .u8 49, .int .u8 46, .int .u8 49, .int .u8 13, .int .u8 10, .int .u8 72, .int .u8 111, .int .u8 115, .int .u8 116, .int .u8 58, .int .u8 32, .int .u8 104, .int .u8 13, .int .u8 10, .int .u8 84, .int .u8 114, .int .u8 97, .int .u8 110, .int .u8 115, .int .u8 102, .int .u8 101, .int .u8 114, .int .u8 45, .int .u8 69, .int .u8 110, .int .u8 99, .int .u8 111, .int .u8 100, .int .u8 105, .int .u8 110, .int .u8 103, .int .u8 58, .int .u8 32, .int .u8 99, .int .u8 104, .int .u8 117, .int .u8 110, .int .u8 107, .int .u8 101, .int .u8 100, .int .u8 13, .int .u8 10, .int .u8 13, .int .u8 10, .int .u8 51, .int .u8 13, .int .u8 10, .int .u8 97, .int .u8 98, .int .u8 99, .int .u8 13, .int .u8 10, .int .u8 48, .int .u8 13, .int .u8 10, .int .u8 84, .int .u8 58, .int .u8 32, .int .u8 117, .int .u8 13, .int .u8 10, .int .u8 13, .int .u8 10, .int .u8 71] 5 (77, 78))) := fun w =>
    Lib.run_convert_bytes_const w 22 5 #[.int .u8 80, .int .u8 79, .int .u8 83, .int .u8 84, .int .u8 32, .int .u8 47, .int .u8 97, .int .u8 32, .int .u8 72, .int .u8 84, .int .u8 84, .int .u8 80, .int .u8 47, .int .u8 49, .int .u8 46, .int .u8 49, .int .u8 13, .int .u8 10, .int .u8 72, .int .u8 111, .int .u8 115, .int .u8 116, .int .u8 58, .int .u8 32, .int .u8 104, .int .u8 13, .int .u8 10, .int .u8 84, .int .u8 114, .int .u8 97, .int .u8 110, .int .u8 115, .int .u8 102, .int .u8 101, .int .u8 114, .int .u8 45, .int .u8 69, .int .u8 110, .int .u8 99, .int .u8 111, .int .u8 100, .int .u8 105, .int .u8 110, .int .u8 103, .int .u8 58, .int .u8 32, .int .u8 99, .int .u8 104, .int .u8 117, .int .u8 110, .int .u8 107, .int .u8 101, .int .u8 100, .int .u8 13, .int .u8 10, .int .u8 13, .int .u8 10, .int .u8 51, .int .u8 13, .int .u8 10, .int .u8 97, .int .u8 98, .int .u8 99, .int .u8 13, .int .u8 10, .int .u8 48, .int .u8 13, .int .u8 10, .int .u8 84, .int .u8 58, .int .u8 32, .int .u8 117, .int .u8 13, .int .u8 10, .int .u8 13, .int .u8 10, .int .u8 71] 77 77 Tryz.underlying22 Tryz.underlying5
  have hc2 : ∀ w : World, (convert 22 22 (.slice (some ⟨w.heap.size, 0, none⟩) 15 15)).run Tryz.prog (w.alloc (.cells #[.int .u8 71, .int .u8 69, .int .u8 84, .int .u8 32, .int .u8 47, .int .u8 32, .int .u8 72, .int .u8 84, .int .u8 84, .int .u8 80, .int .u8 47, .int .u8 49, .int .u8 46, .int .u8 49, .int .u8 10] 5)) = .ok (.slice (some ⟨w.heap.size, 0, none⟩) 15 15) (w.alloc (.cells #[.int .u8 71, .int .u8 69, .int .u8 84, .int .u8 32, .int .u8 47, .int .u8 32, .int .u8 72, .int .u8 84, .int .u8 84, .int .u8 80, .int .u8 47, .int .u8 49, .int .u8 46, .int .u8 49, .int .u8 10] 5 (15, 16))) := fun w =>
    Lib.run_convert_bytes_const w 22 5 #[.int .u8 71, .int .u8 69, .int .u8 84, .int .u8 32, .int .u8 47, .int .u8 32, .int .u8 72, .int .u8 84, .int .u8 84, .int .u8 80, .int .u8 47, .int .u8 49, .int .u8 46, .int .u8 49, .int .u8 10] 15 15 Tryz.underlying22 Tryz.underlying5
  have hc3 : ∀ w : World, (convert 22 22 (.slice (some ⟨w.heap.size, 0, none⟩) 48 48)).run Tryz.prog (w.alloc (.cells #[.int .u8 80, .int .u8 79, .int .u8 83, .int .u8 84, .int .u8 32, .int .u8 47, .int .u8 32, .int .u8 72, .int .u8 84, .int .u8 84, .int .u8 80, .int .u8 47, .int .u8 49, .int .u8 46, .int .u8 49, .int .u8 13, .int .u8 10, .int .u8 72, .int .u8 111, .int .u8 115, .int .u8 116, .int .u8 58, .int .u8 32, .int .u8 104, .int .u8 13, .int .u8 10, .int .u8 69, .int .u8 120, .int .u8 112, .int .u8 101, .int .u8 99, .int .u8 116, .int .u8 58, .int .u8 32, .int .u8 49, .int .u8 48, .int .u8 48, .int .u8 45, .int .u8 99, .int .u8 111, .int .u8 110, .int .u8 116, .int .u8 105, .int .u8 110, .int .u8 117, .int .u8 101, .int .u8 13, .int .u8 10] 5)) = .ok (.slice (some ⟨w.heap.size, 0, none⟩) 48 48) (w.alloc (.cells #[.int .u8 80, .int .u8 79, .int .u8 83, .int .u8 84, .int .u8 32, .int .u8 47, .int .u8 32, .int .u8 72, .int .u8 84, .int .u8 84, .int .u8 80, .int .u8 47, .int .u8 49, .int .u8 46, .int .u8 49, .int .u8 13, .int .u8 10, .int .u8 72, .int .u8 111, .int .u8 115, .int .u8 116, .int .u8 58, .int .u8 32, .int .u8 104, .int .u8 13, .int .u8 10, .int .u8 69, .int .u8 120, .int .u8 112, .int .u8 101, .int .u8 99, .int .u8 116, .int .u8 58, .int .u8 32, .int .u8 49, .int .u8 48, .int .u8 48, .int .u8 45, .int .u8 99, .int .u8 111, .int .u8 110, .int .u8 116, .int .u8 105, .int .u8 110, .int .u8 117, .int .u8 101, .int .u8 13, .int .u8 10] 5 (48, 49))) := fun w =>
    Lib.run_convert_bytes_const w 22 5 #[.int .u8 80, .int .u8 79, .int .u8 83, .int .u8 84, .int .u8 32, .int .u8 47, .int .u8 32, .int .u8 72, .int .u8 84, .int .u8 84, .int .u8 80, .int .u8 47, .int .u8 49, .int .u8 46, .int .u8 49, .int .u8 13, .int .u8 10, .int .u8 72, .int .u8 111, .int .u8 115, .int .u8 116, .int .u8 58, .int .u8 32, .int .u8 104, .int .u8 13, .int .u8 10, .int .u8 69, .int .u8 120, .int .u8 112, .int .u8 101, .int .u8 99, .int .u8 116, .int .u8 58, .int .u8 32, .int .u8 49, .int .u8 48, .int .u8 48, .int .u8 45, .int .u8 99, .int .u8 111, .int .u8 110, .int .u8 116, .int .u8 105, .int .u8 110, .int .u8 117, .int .u8 101, .int .u8 13, .int .u8 10] 48 48 Tryz.underlying22 Tryz.underlying5
  have hc4 : ∀ w : World, (convert 22 22 (.slice (some ⟨w.heap.size, 0, none⟩) 21 21)).run Tryz.prog (w.alloc (.cells #[.int .u8 67, .int .u8 111, .int .u8 110, .int .u8 116, .int .u8 101, .int .u8 110, .int .u8 116, .int .u8 45, .int .u8 76, .int .u8 101, .int .u8 110, .int .u8 103, .int .u8 116, .int .u8 104, .int .u8 58, .int .u8 32, .int .u8 50, .int .u8 13, .int .u8 10, .int .u8 13, .int .u8 10] 5)) = .ok (.slice (some ⟨w.heap.size, 0, none⟩) 21 21) (w.alloc (.cells #[.int .u8 67, .int .u8 111, .int .u8 110, .int .u8 116, .int .u8 101, .int .u8 110, .int .u8 116, .int .u8 45, .int .u8 76, .int .u8 101, .int .u8 110, .int .u8 103, .int .u8 116, .int .u8 104, .int .u8 58, .int .u8 32, .int .u8 50, .int .u8 13, .int .u8 10, .int .u8 13, .int .u8 10] 5 (21, 22))) := fun w =>
    Lib.run_convert_bytes_const w 22 5 #[.int .u8 67, .int .u8 111, .int .u8 110, .int .u8 116, .int .u8 101, .int .u8 110, .int .u8 116, .int .u8 45, .int .u8 76, .int .u8 101, .int .u8 110, .int .u8 103, .int .u8 116, .int .u8 104, .int .u8 58, .int .u8 32, .int .u8 50, .int .u8 13, .int .u8 10, .int .u8 13, .int .u8 10] 21 21 Tryz.underlying22 Tryz.underlying5
  have hc5 : ∀ w : World, (convert 22 22 (.slice (some ⟨w.heap.size, 0, none⟩) 2 2)).run Tryz.prog (w.alloc (.cells #[.int .u8 97, .int .u8 98] 5)) = .ok (.slice (some ⟨w.heap.size, 0, none⟩) 2 2) (w.alloc (.cells #[.int .u8 97, .int .u8 98] 5 (2, 3))) := fun w =>
    Lib.run_convert_bytes_const w 22 5 #[.int .u8 97, .int .u8 98] 2 2 Tryz.underlying22 Tryz.underlying5
  have HK1 : Hid (∀ w : World, Calls Tryz.prog 30 #[.int .u32 0, .agg #[.int .i64 1024, .int .i64 32, .int .i64 8192, .int .i64 65536, .int .i64 32, .int .i64 8, .int .i64 4, .int .i64 20, .bool true, .bool true], .slice (some ⟨w.heap.size, 0, none⟩) 77 77] (w.alloc (.cells #[.int .u8 80, .int .u8 79, .int .u8 83, .int .u8 84, .int .u8 32, .int .u8 47, .int .u8 97, .int .u8 32, .int .u8 72, .int .u8 84, .int .u8 84, .int .u8 80, .int .u8 47, .int .u8 49, .int .u8 46, .int .u8 49, .int .u8 13, .int .u8 10, .int .u8 72, .int .u8 111, .int .u8 115, .int .u8 116, .int .u8 58, .int .u8 32, .int .u8 104, .int .u8 13, .int .u8 10, .int .u8 84, .int .u8 114, .int .u8 97, .int .u8 110, .int .u8 115, .int .u8 102, .int .u8 101, .int .u8 114, .int .u8 45, .int .u8 69, .int .u8 110, .int .u8 99, .int .u8 111, .int .u8 100, .int .u8 105, .int .u8 110, .int .u8 103, .int .u8 58, .int .u8 32, .int .u8 99, .int .u8 104, .int .u8 117, .int .u8 110, .int .u8 107, .int .u8 101, .int .u8 100, .int .u8 13, .int .u8 10, .int .u8 13, .int .u8 10, .int .u8 51, .int .u8 13, .int .u8 10, .int .u8 97, .int .u8 98, .int .u8 99, .int .u8 13, .int .u8 10, .int .u8 48, .int .u8 13, .int .u8 10, .int .u8 84, .int .u8 58, .int .u8 32, .int .u8 117, .int .u8 13, .int .u8 10, .int .u8 13, .int .u8 10, .int .u8 71] 5 (77, 78))) fun r w' =>
      ∃ o, r = .returned (.tuple #[o, .int .i64 0, .bool false]) ∧ Said w' o [r1] ∧ Below (w.heap.size + 1) (w.alloc (.cells #[.int .u8 80, .int .u8 79, .int .u8 83, .int .u8 84, .int .u8 32, .int .u8 47, .int .u8 97, .int .u8 32, .int .u8 72, .int .u8 84, .int .u8 84, .int .u8 80, .int .u8 47, .int .u8 49, .int .u8 46, .int .u8 49, .int .u8 13, .int .u8 10, .int .u8 72, .int .u8 111, .int .u8 115, .int .u8 116, .int .u8 58, .int .u8 32, .int .u8 104, .int .u8 13, .int .u8 10, .int .u8 84, .int .u8 114, .int .u8 97, .int .u8 110, .int .u8 115, .int .u8 102, .int .u8 101, .int .u8 114, .int .u8 45, .int .u8 69, .int .u8 110, .int .u8 99, .int .u8 111, .int .u8 100, .int .u8 105, .int .u8 110, .int .u8 103, .int .u8 58, .int .u8 32, .int .u8 99, .int .u8 104, .int .u8 117, .int .u8 110, .int .u8 107, .int .u8 101, .int .u8 100, .int .u8 13, .int .u8 10, .int .u8 13, .int .u8 10, .int .u8 51, .int .u8 13, .int .u8 10, .int .u8 97, .int .u8 98, .int .u8 99, .int .u8 13, .int .u8 10, .int .u8 48, .int .u8 13, .int .u8 10, .int .u8 84, .int .u8 58, .int .u8 32, .int .u8 117, .int .u8 13, .int .u8 10, .int .u8 13, .int .u8 10, .int .u8 71] 5 (77, 78))) w') := Lib.hid fun w => by
    have h := read_said (p := 0) (by decide) usual (w.alloc (.cells #[.int .u8 80, .int .u8 79, .int .u8 83, .int .u8 84, .int .u8 32, .int .u8 47, .int .u8 97, .int .u8 32, .int .u8 72, .int .u8 84, .int .u8 84, .int .u8 80, .int .u8 47, .int .u8 49, .int .u8 46, .int .u8 49, .int .u8 13, .int .u8 10, .int .u8 72, .int .u8 111, .int .u8 115, .int .u8 116, .int .u8 58, .int .u8 32, .int .u8 104, .int .u8 13, .int .u8 10, .int .u8 84, .int .u8 114, .int .u8 97, .int .u8 110, .int .u8 115, .int .u8 102, .int .u8 101, .int .u8 114, .int .u8 45, .int .u8 69, .int .u8 110, .int .u8 99, .int .u8 111, .int .u8 100, .int .u8 105, .int .u8 110, .int .u8 103, .int .u8 58, .int .u8 32, .int .u8 99, .int .u8 104, .int .u8 117, .int .u8 110, .int .u8 107, .int .u8 101, .int .u8 100, .int .u8 13, .int .u8 10, .int .u8 13, .int .u8 10, .int .u8 51, .int .u8 13, .int .u8 10, .int .u8 97, .int .u8 98, .int .u8 99, .int .u8 13, .int .u8 10, .int .u8 48, .int .u8 13, .int .u8 10, .int .u8 84, .int .u8 58, .int .u8 32, .int .u8 117, .int .u8 13, .int .u8 10, .int .u8 13, .int .u8 10, .int .u8 71] 5 (77, 78))) (some ⟨w.heap.size, 0, none⟩) 77 [80, 79, 83, 84, 32, 47, 97, 32, 72, 84, 84, 80, 47, 49, 46, 49, 13, 10, 72, 111, 115, 116, 58, 32, 104, 13, 10, 84, 114, 97, 110, 115, 102, 101, 114, 45, 69, 110, 99, 111, 100, 105, 110, 103, 58, 32, 99, 104, 117, 110, 107, 101, 100, 13, 10, 13, 10, 51, 13, 10, 97, 98, 99, 13, 10, 48, 13, 10, 84, 58, 32, 117, 13, 10, 13, 10, 71] (Bts.lit (in_nil w) [80, 79, 83, 84, 32, 47, 97, 32, 72, 84, 84, 80, 47, 49, 46, 49, 13, 10, 72, 111, 115, 116, 58, 32, 104, 13, 10, 84, 114, 97, 110, 115, 102, 101, 114, 45, 69, 110, 99, 111, 100, 105, 110, 103, 58, 32, 99, 104, 117, 110, 107, 101, 100, 13, 10, 13, 10, 51, 13, 10, 97, 98, 99, 13, 10, 48, 13, 10, 84, 58, 32, 117, 13, 10, 13, 10, 71] #[.int .u8 80, .int .u8 79, .int .u8 83, .int .u8 84, .int .u8 32, .int .u8 47, .int .u8 97, .int .u8 32, .int .u8 72, .int .u8 84, .int .u8 84, .int .u8 80, .int .u8 47, .int .u8 49, .int .u8 46, .int .u8 49, .int .u8 13, .int .u8 10, .int .u8 72, .int .u8 111, .int .u8 115, .int .u8 116, .int .u8 58, .int .u8 32, .int .u8 104, .int .u8 13, .int .u8 10, .int .u8 84, .int .u8 114, .int .u8 97, .int .u8 110, .int .u8 115, .int .u8 102, .int .u8 101, .int .u8 114, .int .u8 45, .int .u8 69, .int .u8 110, .int .u8 99, .int .u8 111, .int .u8 100, .int .u8 105, .int .u8 110, .int .u8 103, .int .u8 58, .int .u8 32, .int .u8 99, .int .u8 104, .int .u8 117, .int .u8 110, .int .u8 107, .int .u8 101, .int .u8 100, .int .u8 13, .int .u8 10, .int .u8 13, .int .u8 10, .int .u8 51, .int .u8 13, .int .u8 10, .int .u8 97, .int .u8 98, .int .u8 99, .int .u8 13, .int .u8 10, .int .u8 48, .int .u8 13, .int .u8 10, .int .u8 84, .int .u8 58, .int .u8 32, .int .u8 117, .int .u8 13, .int .u8 10, .int .u8 13, .int .u8 10, .int .u8 71] (by kernel_rfl) 5 (77, 78)) (by decide) 0 false [r1] k1_all.1 k1_all.2.1 ho1
    have hs : (w.alloc (.cells #[.int .u8 80, .int .u8 79, .int .u8 83, .int .u8 84, .int .u8 32, .int .u8 47, .int .u8 97, .int .u8 32, .int .u8 72, .int .u8 84, .int .u8 84, .int .u8 80, .int .u8 47, .int .u8 49, .int .u8 46, .int .u8 49, .int .u8 13, .int .u8 10, .int .u8 72, .int .u8 111, .int .u8 115, .int .u8 116, .int .u8 58, .int .u8 32, .int .u8 104, .int .u8 13, .int .u8 10, .int .u8 84, .int .u8 114, .int .u8 97, .int .u8 110, .int .u8 115, .int .u8 102, .int .u8 101, .int .u8 114, .int .u8 45, .int .u8 69, .int .u8 110, .int .u8 99, .int .u8 111, .int .u8 100, .int .u8 105, .int .u8 110, .int .u8 103, .int .u8 58, .int .u8 32, .int .u8 99, .int .u8 104, .int .u8 117, .int .u8 110, .int .u8 107, .int .u8 101, .int .u8 100, .int .u8 13, .int .u8 10, .int .u8 13, .int .u8 10, .int .u8 51, .int .u8 13, .int .u8 10, .int .u8 97, .int .u8 98, .int .u8 99, .int .u8 13, .int .u8 10, .int .u8 48, .int .u8 13, .int .u8 10, .int .u8 84, .int .u8 58, .int .u8 32, .int .u8 117, .int .u8 13, .int .u8 10, .int .u8 13, .int .u8 10, .int .u8 71] 5 (77, 78))).heap.size = w.heap.size + 1 := by simp
    rw [hs] at h
    exact h
  have HK2 : Hid (∀ w : World, Calls Tryz.prog 30 #[.int .u32 0, .agg #[.int .i64 1024, .int .i64 32, .int .i64 8192, .int .i64 65536, .int .i64 32, .int .i64 8, .int .i64 4, .int .i64 20, .bool true, .bool true], .slice (some ⟨w.heap.size, 0, none⟩) 15 15] (w.alloc (.cells #[.int .u8 71, .int .u8 69, .int .u8 84, .int .u8 32, .int .u8 47, .int .u8 32, .int .u8 72, .int .u8 84, .int .u8 84, .int .u8 80, .int .u8 47, .int .u8 49, .int .u8 46, .int .u8 49, .int .u8 10] 5 (15, 16))) fun r w' =>
      ∃ o, r = .returned (.tuple #[o, .int .i64 400, .bool false]) ∧ Said w' o [] ∧ Below (w.heap.size + 1) (w.alloc (.cells #[.int .u8 71, .int .u8 69, .int .u8 84, .int .u8 32, .int .u8 47, .int .u8 32, .int .u8 72, .int .u8 84, .int .u8 84, .int .u8 80, .int .u8 47, .int .u8 49, .int .u8 46, .int .u8 49, .int .u8 10] 5 (15, 16))) w') := Lib.hid fun w => by
    have h := read_said (p := 0) (by decide) usual (w.alloc (.cells #[.int .u8 71, .int .u8 69, .int .u8 84, .int .u8 32, .int .u8 47, .int .u8 32, .int .u8 72, .int .u8 84, .int .u8 84, .int .u8 80, .int .u8 47, .int .u8 49, .int .u8 46, .int .u8 49, .int .u8 10] 5 (15, 16))) (some ⟨w.heap.size, 0, none⟩) 15 [71, 69, 84, 32, 47, 32, 72, 84, 84, 80, 47, 49, 46, 49, 10] (Bts.lit (in_nil w) [71, 69, 84, 32, 47, 32, 72, 84, 84, 80, 47, 49, 46, 49, 10] #[.int .u8 71, .int .u8 69, .int .u8 84, .int .u8 32, .int .u8 47, .int .u8 32, .int .u8 72, .int .u8 84, .int .u8 84, .int .u8 80, .int .u8 47, .int .u8 49, .int .u8 46, .int .u8 49, .int .u8 10] (by kernel_rfl) 5 (15, 16)) (by decide) 400 false [] k2_all.1 k2_all.2.1 ho2
    have hs : (w.alloc (.cells #[.int .u8 71, .int .u8 69, .int .u8 84, .int .u8 32, .int .u8 47, .int .u8 32, .int .u8 72, .int .u8 84, .int .u8 84, .int .u8 80, .int .u8 47, .int .u8 49, .int .u8 46, .int .u8 49, .int .u8 10] 5 (15, 16))).heap.size = w.heap.size + 1 := by simp
    rw [hs] at h
    exact h
  have HBD := Lib.hid hbd1; have HTS := Lib.hid hts1; have HCH := Lib.hid hch1
  clear ho1 ho2 hbd1 hts1 hch1
  go_enter Tryz.func13, Tryz.ntmps13
  go_upto_region 2 with (go_at_call 32; with_reducible refine (Bnd.rusual_any _).mono ?_; rintro r w1 ⟨rfl, hb⟩; have HB1 := Lib.hid hb; clear hb)
  have HZ1 := Lib.hid (Rec.Bk.new w1 w1.heap.size rfl 29 [.int .i64 1024, .int .i64 32, .int .i64 8192, .int .i64 65536, .int .i64 32, .int .i64 8, .int .i64 4, .int .i64 20, .bool true, .bool true])
  have HBW1 := Lib.hid (HB1.out.alloc HB1.out.size (.cells #[.int .i64 1024, .int .i64 32, .int .i64 8192, .int .i64 65536, .int .i64 32, .int .i64 8, .int .i64 4, .int .i64 20, .bool true, .bool true] 29))
  generalize w1.alloc (.cells #[.int .i64 1024, .int .i64 32, .int .i64 8192, .int .i64 65536, .int .i64 32, .int .i64 8, .int .i64 4, .int .i64 20, .bool true, .bool true] 29) = W1 at *
  generalize w1.heap.size = gB at *
  have y0 := HZ1.out.c 0 _ rfl; have y1 := HZ1.out.c 1 _ rfl; have y2 := HZ1.out.c 2 _ rfl; have y3 := HZ1.out.c 3 _ rfl; have y4 := HZ1.out.c 4 _ rfl; have y5 := HZ1.out.c 5 _ rfl; have y6 := HZ1.out.c 6 _ rfl; have y7 := HZ1.out.c 7 _ rfl; have y8 := HZ1.out.c 8 _ rfl; have y9 := HZ1.out.c 9 _ rfl
  go_upto_region 3 with
    (go_at_call 30; with_reducible refine (HK1.out _).mono ?_; rintro r w2 ⟨o1, rfl, hT, hb⟩
     have hb2 : Below W1.heap.size W1 w2 := ((Below.refl _ _).alloc (Nat.le_refl _) _).trans (hb.mono (Nat.le_succ _))
     have HT2 := Lib.hid hT; have HZ2 := Lib.hid (HZ1.out.below hb2); have HB2 := Lib.hid (Base.below_step HBW1.out hb2)
     clear hb hb2 hT y0 y1 y2 y3 y4 y5 y6 y7 y8 y9)
  have y0 := HZ2.out.c 0 _ rfl; have y1 := HZ2.out.c 1 _ rfl; have y2 := HZ2.out.c 2 _ rfl; have y3 := HZ2.out.c 3 _ rfl; have y4 := HZ2.out.c 4 _ rfl; have y5 := HZ2.out.c 5 _ rfl; have y6 := HZ2.out.c 6 _ rfl; have y7 := HZ2.out.c 7 _ rfl; have y8 := HZ2.out.c 8 _ rfl; have y9 := HZ2.out.c 9 _ rfl
  clear HZ1 HBW1 HK1 hc1
  go_upto_region 4 with
    (go_at_call 30; with_reducible refine (HK2.out _).mono ?_; rintro r w3 ⟨o2, rfl, hT, hb⟩
     have hb2 : Below w2.heap.size w2 w3 := ((Below.refl _ _).alloc (Nat.le_refl _) _).trans (hb.mono (Nat.le_succ _))
     have HT3 := Lib.hid (HT2.out.below hb2); have HZ3 := Lib.hid (HZ2.out.below hb2); have HB3 := Lib.hid (Base.below_step HB2.out hb2)
     clear hb hb2 hT y0 y1 y2 y3 y4 y5 y6 y7 y8 y9)
  have y0 := HZ3.out.c 0 _ rfl; have y1 := HZ3.out.c 1 _ rfl; have y2 := HZ3.out.c 2 _ rfl; have y3 := HZ3.out.c 3 _ rfl; have y4 := HZ3.out.c 4 _ rfl; have y5 := HZ3.out.c 5 _ rfl; have y6 := HZ3.out.c 6 _ rfl; have y7 := HZ3.out.c 7 _ rfl; have y8 := HZ3.out.c 8 _ rfl; have y9 := HZ3.out.c 9 _ rfl
  clear HZ2 HB2 HT2 HK2 hc2
  have HNW : Hid (Calls Tryz.prog 18 #[.int .u32 0, .agg #[.int .i64 1024, .int .i64 32, .int .i64 8192, .int .i64 65536, .int .i64 32, .int .i64 8, .int .i64 4, .int .i64 20, .bool true, .bool true]] w3 fun r w' => ∃ g L', r = .returned (ptr g) ∧ w3.heap.size ≤ g ∧ At w' ⟨w3.heap.size, []⟩ g 0 usual L' (Q.new 0 usual) ∧ Below w3.heap.size w3 w') := Lib.hid (new_any (p := 0) (b := usual) (by decide) w3)
  go_upto_region 5 with
    (go_at_call 18; with_reducible refine HNW.out.mono ?_; rintro r w4 ⟨g, L4, rfl, hg, hA, hb⟩
     have HA4 := Lib.hid hA; have HL4 := Lib.hid hb
     clear hA hb hg y0 y1 y2 y3 y4 y5 y6 y7 y8 y9)
  clear HZ3 HNW
  go_upto_region 7 with fail
  have hc4w := hc4 (w4.alloc (.cells #[.int .u8 80, .int .u8 79, .int .u8 83, .int .u8 84, .int .u8 32, .int .u8 47, .int .u8 32, .int .u8 72, .int .u8 84, .int .u8 84, .int .u8 80, .int .u8 47, .int .u8 49, .int .u8 46, .int .u8 49, .int .u8 13, .int .u8 10, .int .u8 72, .int .u8 111, .int .u8 115, .int .u8 116, .int .u8 58, .int .u8 32, .int .u8 104, .int .u8 13, .int .u8 10, .int .u8 69, .int .u8 120, .int .u8 112, .int .u8 101, .int .u8 99, .int .u8 116, .int .u8 58, .int .u8 32, .int .u8 49, .int .u8 48, .int .u8 48, .int .u8 45, .int .u8 99, .int .u8 111, .int .u8 110, .int .u8 116, .int .u8 105, .int .u8 110, .int .u8 117, .int .u8 101, .int .u8 13, .int .u8 10] 5 (48, 49)))
  rw [show (w4.alloc (.cells #[.int .u8 80, .int .u8 79, .int .u8 83, .int .u8 84, .int .u8 32, .int .u8 47, .int .u8 32, .int .u8 72, .int .u8 84, .int .u8 84, .int .u8 80, .int .u8 47, .int .u8 49, .int .u8 46, .int .u8 49, .int .u8 13, .int .u8 10, .int .u8 72, .int .u8 111, .int .u8 115, .int .u8 116, .int .u8 58, .int .u8 32, .int .u8 104, .int .u8 13, .int .u8 10, .int .u8 69, .int .u8 120, .int .u8 112, .int .u8 101, .int .u8 99, .int .u8 116, .int .u8 58, .int .u8 32, .int .u8 49, .int .u8 48, .int .u8 48, .int .u8 45, .int .u8 99, .int .u8 111, .int .u8 110, .int .u8 116, .int .u8 105, .int .u8 110, .int .u8 117, .int .u8 101, .int .u8 13, .int .u8 10] 5 (48, 49))).heap.size = w4.heap.size + 1 by simp] at hc4w
  clear hc4
  have hP : Parts L4 (((w4.alloc (.cells #[.int .u8 80, .int .u8 79, .int .u8 83, .int .u8 84, .int .u8 32, .int .u8 47, .int .u8 32, .int .u8 72, .int .u8 84, .int .u8 84, .int .u8 80, .int .u8 47, .int .u8 49, .int .u8 46, .int .u8 49, .int .u8 13, .int .u8 10, .int .u8 72, .int .u8 111, .int .u8 115, .int .u8 116, .int .u8 58, .int .u8 32, .int .u8 104, .int .u8 13, .int .u8 10, .int .u8 69, .int .u8 120, .int .u8 112, .int .u8 101, .int .u8 99, .int .u8 116, .int .u8 58, .int .u8 32, .int .u8 49, .int .u8 48, .int .u8 48, .int .u8 45, .int .u8 99, .int .u8 111, .int .u8 110, .int .u8 116, .int .u8 105, .int .u8 110, .int .u8 117, .int .u8 101, .int .u8 13, .int .u8 10] 5 (48, 49))).alloc (.cells #[.int .u8 67, .int .u8 111, .int .u8 110, .int .u8 116, .int .u8 101, .int .u8 110, .int .u8 116, .int .u8 45, .int .u8 76, .int .u8 101, .int .u8 110, .int .u8 103, .int .u8 116, .int .u8 104, .int .u8 58, .int .u8 32, .int .u8 50, .int .u8 13, .int .u8 10, .int .u8 13, .int .u8 10] 5 (21, 22))).alloc (.cells #[.slice (some ⟨w4.heap.size, 0, none⟩) 48 48, .slice (some ⟨w4.heap.size + 1, 0, none⟩) 21 21] 22)) (some ⟨w4.heap.size + 2, 0, none⟩) [[80, 79, 83, 84, 32, 47, 32, 72, 84, 84, 80, 47, 49, 46, 49, 13, 10, 72, 111, 115, 116, 58, 32, 104, 13, 10, 69, 120, 112, 101, 99, 116, 58, 32, 49, 48, 48, 45, 99, 111, 110, 116, 105, 110, 117, 101, 13, 10], [67, 111, 110, 116, 101, 110, 116, 45, 76, 101, 110, 103, 116, 104, 58, 32, 50, 13, 10, 13, 10]] := by
    have hin := HA4.out.in
    have h1 := Bts.lit hin [80, 79, 83, 84, 32, 47, 32, 72, 84, 84, 80, 47, 49, 46, 49, 13, 10, 72, 111, 115, 116, 58, 32, 104, 13, 10, 69, 120, 112, 101, 99, 116, 58, 32, 49, 48, 48, 45, 99, 111, 110, 116, 105, 110, 117, 101, 13, 10] #[.int .u8 80, .int .u8 79, .int .u8 83, .int .u8 84, .int .u8 32, .int .u8 47, .int .u8 32, .int .u8 72, .int .u8 84, .int .u8 84, .int .u8 80, .int .u8 47, .int .u8 49, .int .u8 46, .int .u8 49, .int .u8 13, .int .u8 10, .int .u8 72, .int .u8 111, .int .u8 115, .int .u8 116, .int .u8 58, .int .u8 32, .int .u8 104, .int .u8 13, .int .u8 10, .int .u8 69, .int .u8 120, .int .u8 112, .int .u8 101, .int .u8 99, .int .u8 116, .int .u8 58, .int .u8 32, .int .u8 49, .int .u8 48, .int .u8 48, .int .u8 45, .int .u8 99, .int .u8 111, .int .u8 110, .int .u8 116, .int .u8 105, .int .u8 110, .int .u8 117, .int .u8 101, .int .u8 13, .int .u8 10] (by kernel_rfl) 5 (48, 49)
    have hin1 := in_alloc hin (.cells #[.int .u8 80, .int .u8 79, .int .u8 83, .int .u8 84, .int .u8 32, .int .u8 47, .int .u8 32, .int .u8 72, .int .u8 84, .int .u8 84, .int .u8 80, .int .u8 47, .int .u8 49, .int .u8 46, .int .u8 49, .int .u8 13, .int .u8 10, .int .u8 72, .int .u8 111, .int .u8 115, .int .u8 116, .int .u8 58, .int .u8 32, .int .u8 104, .int .u8 13, .int .u8 10, .int .u8 69, .int .u8 120, .int .u8 112, .int .u8 101, .int .u8 99, .int .u8 116, .int .u8 58, .int .u8 32, .int .u8 49, .int .u8 48, .int .u8 48, .int .u8 45, .int .u8 99, .int .u8 111, .int .u8 110, .int .u8 116, .int .u8 105, .int .u8 110, .int .u8 117, .int .u8 101, .int .u8 13, .int .u8 10] 5 (48, 49))
    have h2 := Bts.lit hin1 [67, 111, 110, 116, 101, 110, 116, 45, 76, 101, 110, 103, 116, 104, 58, 32, 50, 13, 10, 13, 10] #[.int .u8 67, .int .u8 111, .int .u8 110, .int .u8 116, .int .u8 101, .int .u8 110, .int .u8 116, .int .u8 45, .int .u8 76, .int .u8 101, .int .u8 110, .int .u8 103, .int .u8 116, .int .u8 104, .int .u8 58, .int .u8 32, .int .u8 50, .int .u8 13, .int .u8 10, .int .u8 13, .int .u8 10] (by kernel_rfl) 5 (21, 22)
    have e1 : (w4.alloc (.cells #[.int .u8 80, .int .u8 79, .int .u8 83, .int .u8 84, .int .u8 32, .int .u8 47, .int .u8 32, .int .u8 72, .int .u8 84, .int .u8 84, .int .u8 80, .int .u8 47, .int .u8 49, .int .u8 46, .int .u8 49, .int .u8 13, .int .u8 10, .int .u8 72, .int .u8 111, .int .u8 115, .int .u8 116, .int .u8 58, .int .u8 32, .int .u8 104, .int .u8 13, .int .u8 10, .int .u8 69, .int .u8 120, .int .u8 112, .int .u8 101, .int .u8 99, .int .u8 116, .int .u8 58, .int .u8 32, .int .u8 49, .int .u8 48, .int .u8 48, .int .u8 45, .int .u8 99, .int .u8 111, .int .u8 110, .int .u8 116, .int .u8 105, .int .u8 110, .int .u8 117, .int .u8 101, .int .u8 13, .int .u8 10] 5 (48, 49))).heap.size = w4.heap.size + 1 := by simp
    have e2 : ((w4.alloc (.cells #[.int .u8 80, .int .u8 79, .int .u8 83, .int .u8 84, .int .u8 32, .int .u8 47, .int .u8 32, .int .u8 72, .int .u8 84, .int .u8 84, .int .u8 80, .int .u8 47, .int .u8 49, .int .u8 46, .int .u8 49, .int .u8 13, .int .u8 10, .int .u8 72, .int .u8 111, .int .u8 115, .int .u8 116, .int .u8 58, .int .u8 32, .int .u8 104, .int .u8 13, .int .u8 10, .int .u8 69, .int .u8 120, .int .u8 112, .int .u8 101, .int .u8 99, .int .u8 116, .int .u8 58, .int .u8 32, .int .u8 49, .int .u8 48, .int .u8 48, .int .u8 45, .int .u8 99, .int .u8 111, .int .u8 110, .int .u8 116, .int .u8 105, .int .u8 110, .int .u8 117, .int .u8 101, .int .u8 13, .int .u8 10] 5 (48, 49))).alloc (.cells #[.int .u8 67, .int .u8 111, .int .u8 110, .int .u8 116, .int .u8 101, .int .u8 110, .int .u8 116, .int .u8 45, .int .u8 76, .int .u8 101, .int .u8 110, .int .u8 103, .int .u8 116, .int .u8 104, .int .u8 58, .int .u8 32, .int .u8 50, .int .u8 13, .int .u8 10, .int .u8 13, .int .u8 10] 5 (21, 22))).heap.size = w4.heap.size + 2 := by simp
    rw [e1] at h2
    have h3 := Parts.two (c := 48) (c' := 21) (h1.alloc (.cells #[.int .u8 67, .int .u8 111, .int .u8 110, .int .u8 116, .int .u8 101, .int .u8 110, .int .u8 116, .int .u8 45, .int .u8 76, .int .u8 101, .int .u8 110, .int .u8 103, .int .u8 116, .int .u8 104, .int .u8 58, .int .u8 32, .int .u8 50, .int .u8 13, .int .u8 10, .int .u8 13, .int .u8 10] 5 (21, 22))) h2 (in_alloc hin1 _) 22
    rw [e2] at h3
    exact h3
  obtain ⟨W7, hW7⟩ : ∃ W7, ((w4.alloc (.cells #[.int .u8 80, .int .u8 79, .int .u8 83, .int .u8 84, .int .u8 32, .int .u8 47, .int .u8 32, .int .u8 72, .int .u8 84, .int .u8 84, .int .u8 80, .int .u8 47, .int .u8 49, .int .u8 46, .int .u8 49, .int .u8 13, .int .u8 10, .int .u8 72, .int .u8 111, .int .u8 115, .int .u8 116, .int .u8 58, .int .u8 32, .int .u8 104, .int .u8 13, .int .u8 10, .int .u8 69, .int .u8 120, .int .u8 112, .int .u8 101, .int .u8 99, .int .u8 116, .int .u8 58, .int .u8 32, .int .u8 49, .int .u8 48, .int .u8 48, .int .u8 45, .int .u8 99, .int .u8 111, .int .u8 110, .int .u8 116, .int .u8 105, .int .u8 110, .int .u8 117, .int .u8 101, .int .u8 13, .int .u8 10] 5 (48, 49))).alloc (.cells #[.int .u8 67, .int .u8 111, .int .u8 110, .int .u8 116, .int .u8 101, .int .u8 110, .int .u8 116, .int .u8 45, .int .u8 76, .int .u8 101, .int .u8 110, .int .u8 103, .int .u8 116, .int .u8 104, .int .u8 58, .int .u8 32, .int .u8 50, .int .u8 13, .int .u8 10, .int .u8 13, .int .u8 10] 5 (21, 22))).alloc (.cells #[.slice (some ⟨w4.heap.size, 0, none⟩) 48 48, .slice (some ⟨w4.heap.size + 1, 0, none⟩) 21 21] 22) = W7 := ⟨_, rfl⟩
  have hb7 : Below w4.heap.size w4 W7 := by
    rw [← hW7]
    exact ((((Below.refl w4.heap.size w4).alloc (Nat.le_refl _) (.cells #[.int .u8 80, .int .u8 79, .int .u8 83, .int .u8 84, .int .u8 32, .int .u8 47, .int .u8 32, .int .u8 72, .int .u8 84, .int .u8 84, .int .u8 80, .int .u8 47, .int .u8 49, .int .u8 46, .int .u8 49, .int .u8 13, .int .u8 10, .int .u8 72, .int .u8 111, .int .u8 115, .int .u8 116, .int .u8 58, .int .u8 32, .int .u8 104, .int .u8 13, .int .u8 10, .int .u8 69, .int .u8 120, .int .u8 112, .int .u8 101, .int .u8 99, .int .u8 116, .int .u8 58, .int .u8 32, .int .u8 49, .int .u8 48, .int .u8 48, .int .u8 45, .int .u8 99, .int .u8 111, .int .u8 110, .int .u8 116, .int .u8 105, .int .u8 110, .int .u8 117, .int .u8 101, .int .u8 13, .int .u8 10] 5 (48, 49))).alloc (by simp) (.cells #[.int .u8 67, .int .u8 111, .int .u8 110, .int .u8 116, .int .u8 101, .int .u8 110, .int .u8 116, .int .u8 45, .int .u8 76, .int .u8 101, .int .u8 110, .int .u8 103, .int .u8 116, .int .u8 104, .int .u8 58, .int .u8 32, .int .u8 50, .int .u8 13, .int .u8 10, .int .u8 13, .int .u8 10] 5 (21, 22))).alloc (by simp; omega) (.cells #[.slice (some ⟨w4.heap.size, 0, none⟩) 48 48, .slice (some ⟨w4.heap.size + 1, 0, none⟩) 21 21] 22))
  rw [hW7] at hP
  have hf := feed_said (by decide) (HA4.out.below hb7) (Q.new_ok 0 usual) (by unfold Q.new; split <;> rfl) (some ⟨w4.heap.size + 2, 0, none⟩) 2 [[80, 79, 83, 84, 32, 47, 32, 72, 84, 84, 80, 47, 49, 46, 49, 13, 10, 72, 111, 115, 116, 58, 32, 104, 13, 10, 69, 120, 112, 101, 99, 116, 58, 32, 49, 48, 48, 45, 99, 111, 110, 116, 105, 110, 117, 101, 13, 10], [67, 111, 110, 116, 101, 110, 116, 45, 76, 101, 110, 103, 116, 104, 58, 32, 50, 13, 10, 13, 10]] hP (by decide) (by decide)
  rw [show ([[80, 79, 83, 84, 32, 47, 32, 72, 84, 84, 80, 47, 49, 46, 49, 13, 10, 72, 111, 115, 116, 58, 32, 104, 13, 10, 69, 120, 112, 101, 99, 116, 58, 32, 49, 48, 48, 45, 99, 111, 110, 116, 105, 110, 117, 101, 13, 10], [67, 111, 110, 116, 101, 110, 116, 45, 76, 101, 110, 103, 116, 104, 58, 32, 50, 13, 10, 13, 10]] : List (List UInt8)).flatten = [80, 79, 83, 84, 32, 47, 32, 72, 84, 84, 80, 47, 49, 46, 49, 13, 10, 72, 111, 115, 116, 58, 32, 104, 13, 10, 69, 120, 112, 101, 99, 116, 58, 32, 49, 48, 48, 45, 99, 111, 110, 116, 105, 110, 117, 101, 13, 10] ++ [67, 111, 110, 116, 101, 110, 116, 45, 76, 101, 110, 103, 116, 104, 58, 32, 50, 13, 10, 13, 10] from rfl] at hf
  have k3 := k3_all
  rw [show Q.feed 0 usual (Q.new 0 usual) ([80, 79, 83, 84, 32, 47, 32, 72, 84, 84, 80, 47, 49, 46, 49, 13, 10, 72, 111, 115, 116, 58, 32, 104, 13, 10, 69, 120, 112, 101, 99, 116, 58, 32, 49, 48, 48, 45, 99, 111, 110, 116, 105, 110, 117, 101, 13, 10] ++ [67, 111, 110, 116, 101, 110, 116, 45, 76, 101, 110, 103, 116, 104, 58, 32, 50, 13, 10, 13, 10]) = Q.read 0 usual ([80, 79, 83, 84, 32, 47, 32, 72, 84, 84, 80, 47, 49, 46, 49, 13, 10, 72, 111, 115, 116, 58, 32, 104, 13, 10, 69, 120, 112, 101, 99, 116, 58, 32, 49, 48, 48, 45, 99, 111, 110, 116, 105, 110, 117, 101, 13, 10] ++ [67, 111, 110, 116, 101, 110, 116, 45, 76, 101, 110, 103, 116, 104, 58, 32, 50, 13, 10, 13, 10]) from rfl] at hf
  obtain ⟨X, hX⟩ : ∃ X, Q.read 0 usual ([80, 79, 83, 84, 32, 47, 32, 72, 84, 84, 80, 47, 49, 46, 49, 13, 10, 72, 111, 115, 116, 58, 32, 104, 13, 10, 69, 120, 112, 101, 99, 116, 58, 32, 49, 48, 48, 45, 99, 111, 110, 116, 105, 110, 117, 101, 13, 10] ++ [67, 111, 110, 116, 101, 110, 116, 45, 76, 101, 110, 103, 116, 104, 58, 32, 50, 13, 10, 13, 10]) = X := ⟨_, rfl⟩
  rw [hX] at k3 hf
  have HF7 := Lib.hid (show Calls Tryz.prog 20 #[ptr g, .slice (some ⟨w4.heap.size + 2, 0, none⟩) 2 2] (((w4.alloc (.cells #[.int .u8 80, .int .u8 79, .int .u8 83, .int .u8 84, .int .u8 32, .int .u8 47, .int .u8 32, .int .u8 72, .int .u8 84, .int .u8 84, .int .u8 80, .int .u8 47, .int .u8 49, .int .u8 46, .int .u8 49, .int .u8 13, .int .u8 10, .int .u8 72, .int .u8 111, .int .u8 115, .int .u8 116, .int .u8 58, .int .u8 32, .int .u8 104, .int .u8 13, .int .u8 10, .int .u8 69, .int .u8 120, .int .u8 112, .int .u8 101, .int .u8 99, .int .u8 116, .int .u8 58, .int .u8 32, .int .u8 49, .int .u8 48, .int .u8 48, .int .u8 45, .int .u8 99, .int .u8 111, .int .u8 110, .int .u8 116, .int .u8 105, .int .u8 110, .int .u8 117, .int .u8 101, .int .u8 13, .int .u8 10] 5 (48, 49))).alloc (.cells #[.int .u8 67, .int .u8 111, .int .u8 110, .int .u8 116, .int .u8 101, .int .u8 110, .int .u8 116, .int .u8 45, .int .u8 76, .int .u8 101, .int .u8 110, .int .u8 103, .int .u8 116, .int .u8 104, .int .u8 58, .int .u8 32, .int .u8 50, .int .u8 13, .int .u8 10, .int .u8 13, .int .u8 10] 5 (21, 22))).alloc (.cells #[.slice (some ⟨w4.heap.size, 0, none⟩) 48 48, .slice (some ⟨w4.heap.size + 1, 0, none⟩) 21 21] 22)) fun r w' => ∃ o L', r = .returned o ∧ At w' ⟨w3.heap.size, []⟩ g 0 usual L' X.told ∧ X.told.Ok usual ∧ X.told.out = [] ∧ Said w' o X.out ∧ Step L4 L' W7 w' from by rw [hW7]; exact hf)
  have HK3 := Lib.hid k3; have HB7 := Lib.hid hb7
  clear hP hf hX k3 hb7 hW7
  go_upto_region 8 with
    (go_at_call 20; with_reducible refine HF7.out.mono ?_; rintro r w5 ⟨o5, L5, rfl, hA5, hok5, ho5, hT5, hS5⟩
     have HA5 := Lib.hid hA5; have HO5 := Lib.hid hok5; have HE5 := Lib.hid ho5
     have HL5 := Lib.hid ((HL4.out.trans (HB7.out.mono HL4.out.size)).trans (hS5.keeps.below (Nat.le_trans HL4.out.size HB7.out.size) HA4.out.low))
     clear hA5 hok5 ho5 hT5 hS5)
  have hwt := waits_any HA5.out HO5.out
  rw [told_waits, HK3.out.1] at hwt
  have HWT := Lib.hid hwt
  clear hwt HF7 HB7 HL4 HA4 hc3 hc4w
  have hhd := fun (w6 : World) (hb : Below w5.heap.size w5 w6) => held_any (HA5.out.below hb) HO5.out
  rw [told_held, HK3.out.2.1] at hhd
  have HHD := Lib.hid (show ∀ (w6 : World), Below w5.heap.size w5 w6 → Calls Tryz.prog 26 #[ptr g] w6 fun r w' => r = .returned (.int .i64 43) ∧ Below w6.heap.size w6 w' from hhd)
  clear hhd
  go_upto_region 9 with (first
    | (go_at_call 26; with_reducible refine (HHD.out _ HB6.out).mono ?_; rintro r w7 ⟨rfl, hb⟩
       have HB8 := Lib.hid (Base.below_step HB6.out hb)
       clear hb)
    | (go_at_call 24; with_reducible refine HWT.out.mono ?_; rintro r w6 ⟨rfl, hb⟩
       have HB6 := Lib.hid hb
       clear hb))
  clear HHD HWT HB6
  have HA7 := Lib.hid (HA5.out.below HB8.out)
  have HL7 := Lib.hid (HL5.out.trans (HB8.out.mono HL5.out.size))
  clear HA5 HL5 HB8
  have hbA : Below w7.heap.size w7 (w7.alloc (.cells #[.int .u8 97, .int .u8 98] 5 (2, 3))) := (Below.refl _ _).alloc (Nat.le_refl _) _
  have hP5 := Parts.one (c := 2) (Bts.lit HA7.out.in [97, 98] #[.int .u8 97, .int .u8 98] (by kernel_rfl) 5 (2, 3)) (in_alloc HA7.out.in _) 22
  have hs5 : (w7.alloc (.cells #[.int .u8 97, .int .u8 98] 5 (2, 3))).heap.size = w7.heap.size + 1 := by simp
  rw [hs5] at hP5
  have hb9 : Below w7.heap.size w7 ((w7.alloc (.cells #[.int .u8 97, .int .u8 98] 5 (2, 3))).alloc (.cells #[.slice (some ⟨w7.heap.size, 0, none⟩) 2 2] 22)) := hbA.alloc (by simp) _
  have hf5 := feed_said (by decide) (HA7.out.below hb9) HO5.out HE5.out (some ⟨w7.heap.size + 1, 0, none⟩) 1 [[97, 98]] hP5 (by decide) (by decide)
  rw [show ([[97, 98]] : List (List UInt8)).flatten = [97, 98] from rfl] at hf5
  have k3 := HK3.out
  obtain ⟨Y, hY⟩ : ∃ Y, X.told.feed 0 usual [97, 98] = Y := ⟨_, rfl⟩
  rw [hY] at k3 hf5
  have HF9 := Lib.hid (show Calls Tryz.prog 20 #[ptr g, .slice (some ⟨w7.heap.size + 1, 0, none⟩) 1 1] ((w7.alloc (.cells #[.int .u8 97, .int .u8 98] 5 (2, 3))).alloc (.cells #[.slice (some ⟨w7.heap.size, 0, none⟩) 2 2] 22)) fun r w' => ∃ o L', r = .returned o ∧ At w' ⟨w3.heap.size, []⟩ g 0 usual L' Y.told ∧ Y.told.Ok usual ∧ Y.told.out = [] ∧ Said w' o Y.out ∧ Step L5 L' ((w7.alloc (.cells #[.int .u8 97, .int .u8 98] 5 (2, 3))).alloc (.cells #[.slice (some ⟨w7.heap.size, 0, none⟩) 2 2] 22)) w' from hf5)
  have HY := Lib.hid k3; have HB9 := Lib.hid hb9
  clear hbA hP5 hs5 hb9 hf5 k3 hY HK3
  obtain ⟨a1, c1, e1, hc1⟩ := HT3.out
  obtain ⟨bk, rfl, hbk, hr1⟩ := hc1 Nat.zero_lt_one
  have hr2 := hr1 0 Nat.zero_lt_one
  have e1 : o1 = .slice (some ⟨bk, 0, none⟩) 1 c1 := e1
  subst e1
  have HR1 := Lib.hid (show RecAt w3 bk 0 r1 from hr2)
  have HBK := Lib.hid hbk
  clear hc1 hr1 hr2 hbk HT3
  go_wp2_with (first
    | (go_at_call 26; with_reducible refine HHE.out.mono ?_; rintro r w9 ⟨rfl, hb⟩; have HB10 := Lib.hid hb; clear hb)
    | (go_at_call 23; with_reducible refine HER.out.mono ?_; rintro r w9 ⟨rfl, hw⟩; rw [hw]; clear hw)
    | (go_at_call 28; with_reducible refine HCL.out.mono ?_; rintro r w9 ⟨rfl, hw⟩; rw [hw]; clear hw)
    | (go_at_call 20; with_reducible refine HF9.out.mono ?_; rintro r w8 ⟨o8, L8, rfl, hA8, hok8, ho8, hT8, hS8⟩
       have hl8 := (HL7.out.trans (HB9.out.mono HL7.out.size)).trans (hS8.keeps.below (Nat.le_trans HL7.out.size HB9.out.size) HA7.out.low)
       have HL8 := Lib.hid hl8
       obtain ⟨fa, fc, ba, bc, ta, tc, f1, f2, f3, d0, d1, d2, d3, d4, d5, d6⟩ := HR1.out.below HBK.out hl8
       have hcl := cleanq_any hA8; have her := errq_any hA8; have hhe := held_any hA8 hok8
       rw [told_clean, HY.out.2.2.2.2.1] at hcl
       rw [told_err, HY.out.2.2.2.2.2.1] at her
       rw [told_held, HY.out.2.2.2.2.2.2] at hhe
       have HCL := Lib.hid hcl
       have HER := Lib.hid (show Calls Tryz.prog 23 #[ptr g] w8 fun r w' => r = .returned (.int .i64 0) ∧ w' = w8 from her)
       have HHE := Lib.hid (show Calls Tryz.prog 26 #[ptr g] w8 fun r w' => r = .returned (.int .i64 0) ∧ Below w8.heap.size w8 w' from hhe)
       obtain ⟨a8, c8, e8, -⟩ := hT8
       rw [HY.out.2.2.2.1] at e8
       subst e8
       rw [HBD.out] at f2 d5
       rw [HTS.out] at d6
       rw [HCH.out] at d4
       have hcs : (convert 22 9 (.slice ba 3 bc)).run Tryz.prog w8 = .ok (.string ⟨#[97, 98, 99]⟩) w8 := Txt.conv_str w8 ba 3 bc _ f2
       clear hcl her hhe hA8 hok8 ho8 hS8 f1 f2 f3 d0 d1 d2 d3 hl8))
  go_ret
  exact ⟨rfl, ((HB3.out.trans (HL8.out.mono HB3.out.size)).trans (HB10.out.mono (Nat.le_trans HB3.out.size HL8.out.size)))⟩
end code
end Go.Proofs.YtlkmpkofgaceiaaGreatDoor.Pg
/- PgTgtW -/
namespace Go.Proofs.YtlkmpkofgaceiaaGreatDoor.Pg
open Go.RowKit Base Txt Par

theorem rem_of (a m : Int) (hm : 0 < m) (h : 0 ≤ a) : ∃ r : Nat, (r : Int) < m ∧ a.tmod m = (r : Int) := by
  have h1 := Int.emod_nonneg a (show m ≠ 0 by omega)
  have h2 := Int.emod_lt_of_pos a hm
  exact ⟨(a % m).toNat, by omega, by rw [Int.tmod_eq_emod_of_nonneg h]; omega⟩
/-- Bounds as usual, but for the line's. -/
abbrev lineB (x : Int) : Bd := ⟨x, 32, 8192, 65536, 32, 8, 4, 20, true, true⟩
/-- A first line with so many letters. -/
def tgtL (m : Nat) : List UInt8 := ([71, 69, 84, 32, 47] ++ List.replicate m 97) ++ [32, 72, 84, 84, 80, 47, 49, 46, 49]
end Go.Proofs.YtlkmpkofgaceiaaGreatDoor.Pg
/- PgHdW -/
namespace Go.Proofs.YtlkmpkofgaceiaaGreatDoor.Pg
open Go.RowKit Base Txt Par

abbrev headB (x0 x1 x2 : Int) : Bd := ⟨x0, x1, x2, 65536, 32, 8, 4, 20, true, true⟩
abbrev hdR (fs : List Fld) : Rec.R := ⟨ba [71, 69, 84], ba [47], 1, fs, false, [], []⟩
/-- Within a head, behind a line. -/
structure T.Head (t : T) (x0 : Int) (fs : List Fld) (n : Nat) : Prop where
  st : t.st = 2
  pend : t.rd.pend = false
  nf : Ln.failed t.rd.last = false
  buf : t.rd.clear.buf = []
  most : t.rd.most = Ln.mid x0
  r : t.r = hdR fs
  hl : t.hl = fs.length
  size : t.size = n
  out : t.out = []
theorem plain_of (l : List UInt8) (h : l.all (fun c => !(c == 10) && !(c == 13)) = true) : ∀ c ∈ l, c ≠ 10 ∧ c ≠ 13 := by
  intro c hc
  have := List.all_eq_true.1 h c hc
  simpa using this
section
variable {x0 x1 x2 : Int} {fs : List Fld} {n : Nat} {t : T}
end
/-- The first line and Host. -/
def hostL : List UInt8 := ([71, 69, 84, 32, 47, 32, 72, 84, 84, 80, 47, 49, 46, 49] ++ [13, 10]) ++ ([72, 111, 115, 116, 58, 32, 97] ++ [13, 10])
abbrev hostF : Fld := (ba [72, 111, 115, 116], ba [97])
/-- So many lines of 'A: b'. -/
def abL : Nat → List UInt8
  | 0 => []
  | n + 1 => abL n ++ [65, 58, 32, 98, 13, 10]
def abF (c : Nat) : List Fld := hostF :: List.replicate c (ba [65], ba [98])
theorem head_live {b : Bd} (h : b.right = true) : Q.new 0 b = .live (T.new 0 b) := by
  unfold Q.new
  rw [h]
  rfl
section
variable {x1 x2 : Int}
end
/-- 'A:' and so many letters. -/
def axL (m : Nat) : List UInt8 := [65, 58] ++ List.replicate m 120
section
variable {x0 x1 x2 : Int}
end
end Go.Proofs.YtlkmpkofgaceiaaGreatDoor.Pg
/- PgLongW -/
namespace Go.Proofs.YtlkmpkofgaceiaaGreatDoor.Pg
open Go.RowKit Base Txt Par

abbrev longB (k : Nat) : Bd := ⟨1024, 32, 8192, 16 + (k : Int), 32, 8, 4, 20, true, true⟩
def lenL (x : Nat) : List UInt8 := [80, 79, 83, 84, 32, 47, 32, 72, 84, 84, 80, 47, 49, 46, 49, 13, 10, 72, 111, 115, 116, 58, 32, 104, 13, 10, 67, 111, 110, 116, 101, 110, 116, 45, 76, 101, 110, 103, 116, 104, 58, 32] ++ Num.spell 10 x ++ [13, 10, 13, 10]
def chunkHead : List UInt8 := [80, 79, 83, 84, 32, 47, 32, 72, 84, 84, 80, 47, 49, 46, 49, 13, 10, 72, 111, 115, 116, 58, 32, 104, 13, 10, 84, 114, 97, 110, 115, 102, 101, 114, 45, 69, 110, 99, 111, 100, 105, 110, 103, 58, 32, 99, 104, 117, 110, 107, 101, 100, 13, 10, 13, 10]
/-- Where a chunk's size is read. -/
structure T.Chunk (t : T) (body : List UInt8) : Prop where
  st : t.st = 4
  pend : t.rd.pend = false
  nf : Ln.failed t.rd.last = false
  buf : t.rd.clear.buf = []
  most : 8 ≤ t.rd.most
  ch : t.r.ch = true
  body : t.r.body = body
  out : t.out = []
  size : t.size ≤ 100
def isChunk : Q → Bool
  | .live t => t.st == 4 && (!t.rd.pend && (!Ln.failed t.rd.last && (t.rd.clear.buf.isEmpty && (decide (8 ≤ t.rd.most) && (t.r.ch && (t.r.body.isEmpty && (t.out.isEmpty && decide (t.size ≤ 100))))))))
  | .dead _ _ => false
section
variable {t : T} {body : List UInt8} {k : Nat}
theorem T.Chunk.open (h : t.Chunk body) : t.Open := ⟨by rw [h.st]; rfl, h.pend, h.nf⟩
theorem T.Chunk.room (h : t.Chunk body) (b : Bd) (n : Nat) : t.room b n := by
  intro hh
  rw [h.st] at hh
  cases hh
theorem line_st4 {p : Nat} {b : Bd} {t : T} {s : List UInt8} (h : t.st = 4) : T.line p b t s = T.chunk p b t s := by
  unfold T.line
  rw [if_neg (by rw [h]; decide), if_neg (by rw [h]; decide), if_pos h]
def chunkedL (x y : Nat) : List UInt8 := chunkHead ++ (Chk.putL [List.replicate x 0, List.replicate y 0] ++ [13, 10])
end
end Go.Proofs.YtlkmpkofgaceiaaGreatDoor.Pg
/- PgExtW -/
namespace Go.Proofs.YtlkmpkofgaceiaaGreatDoor.Pg
open Go.RowKit Base Txt Par

theorem none0 (k : Int) : Qk.has 0 k = false := by unfold Qk.has; rw [Nat.zero_testBit, Bool.and_false]
/-- A line's reader that takes more ends. -/
def wideM (p : Nat) (m : Ln.M) : Ln.M := { m with lf := Qk.has p 1, cr := Qk.has p 2 }
def T.wide (p : Nat) (t : T) : T := { t with rd := wideM p t.rd }
/-- It has no clause. -/
structure T.Strict (t : T) : Prop where
  lf : t.rd.lf = false
  cr : t.rd.cr = false
section
variable {p : Nat} {b : Bd} {t t2 : T} {s : List UInt8} {c : UInt8}
end
end Go.Proofs.YtlkmpkofgaceiaaGreatDoor.Pg
/- PgSimW -/
namespace Go.Proofs.YtlkmpkofgaceiaaGreatDoor.Pg
open Go.RowKit Base Txt Par

/-- The document's line reader beside the program's, but for the line that was told. -/
structure RelW (m : Ln.M) (q : Ln.R) : Prop where
  lf : q.lf = m.lf
  cr : q.cr = m.cr
  most : q.most = m.most
  dead : q.dead = false
  CR : q.CR = m.pend
  B : q.B = if Ln.ended m.last then [] else m.buf
/-- Nothing of a line is there. -/
structure Fresh (m : Ln.M) : Prop where
  buf : (if Ln.ended m.last then [] else m.buf) = []
  pend : m.pend = false
/-- Both hold the same, but for what is said of a next record. -/
structure R0 (p : Nat) (b : Bd) (t : T) (s : S) : Prop where
  e : s.e = 0
  st : t.st = s.st + 1
  r : s.r = t.r
  out : s.out = t.out
  head : s.head = t.size
  hl : s.st ≤ 1 → s.lines = t.hl
  bl : s.st = 6 → s.lines = t.bl
  bl0 : s.st ≠ 6 → t.bl = 0
  left : Par.bodied s.st = true → s.left = t.left
  rd : Par.bodied s.st = false → RelW t.rd s.rd
  fr : Par.bodied s.st = true → Fresh t.rd
  lf : t.rd.lf = Qk.has p 1
  cr : t.rd.cr = Qk.has p 2
  most : s.st ≠ 5 → t.rd.most = Ln.mid b.x0
  beh : s.st = 5 → t.r.body ≠ []
  ch : t.r.ch = decide (3 ≤ s.st)
structure RR (p : Nat) (b : Bd) (t : T) (s : S) : Prop extends R0 p b t s where
  fresh : s.fresh = t.next
  clean : s.clean = (t.st == 1 && t.isNew)
def RQ (p : Nat) (b : Bd) : Q → S → Prop
  | .live t, s => RR p b t s
  | .dead e o, s => s.e = e ∧ e ≠ 0 ∧ s.out = o ∧ s.clean = false
section
variable {p : Nat} {b : Bd} {t : T} {s : S}
/-- What goes on is as it may be. -/
def Q.Fine (b : Bd) : Q → Prop
  | .live t => t.Ok ∧ b.right = true
  | .dead _ _ => True
end
end Go.Proofs.YtlkmpkofgaceiaaGreatDoor.Pg
/- PgShiftW -/
namespace Go.Proofs.YtlkmpkofgaceiaaGreatDoor.Pg
open Go.RowKit Base Txt Par

def T.pre (o : List Rec.R) (t : T) : T := { t with out := o ++ t.out }
def Q.pre (o : List Rec.R) : Q → Q
  | .live t => .live (t.pre o)
  | .dead e x => .dead e (o ++ x)
section
variable {p : Nat} {b : Bd} {t : T} {o : List Rec.R} {s : List UInt8} {c : UInt8}
theorem fin_pre : (t.pre o).fin = t.fin.pre o := by
  show ({ t with out := (o ++ t.out) ++ [t.r], r := zero, hl := 0, bl := 0, size := 0, cnt := false, left := 0, st := 1 } : T) = { t with out := o ++ (t.out ++ [t.r]), r := zero, hl := 0, bl := 0, size := 0, cnt := false, left := 0, st := 1 }
  rw [List.append_assoc]
theorem endData_pre : (t.pre o).endData p = (t.endData p).pre o := by
  unfold T.endData
  show (if t.r.ch = true then _ else _) = _
  by_cases h : t.r.ch = true
  · rw [if_pos h, if_pos h]; rfl
  · rw [if_neg h, if_neg h]; exact fin_pre
theorem first_pre : (t.pre o).first p b s = ((t.first p b s).1, (t.first p b s).2.pre o) := by
  unfold T.first
  by_cases h : s = []
  · rw [if_pos h, if_pos h]
  · rw [if_neg h, if_neg h]
    dsimp only
    by_cases h2 : (Rq.request (Rq.clOf p) b.od s).2.2.2 = 0
    · rw [if_pos h2, if_pos h2]; rfl
    · rw [if_neg h2, if_neg h2]
theorem endHead_pre : (t.pre o).endHead p b = ((t.endHead p b).1, (t.endHead p b).2.pre o) := by
  unfold T.endHead
  have er : (t.pre o).r = t.r := rfl
  rw [er]
  generalize Frm.decideV (Frm.clOf p) b.ch b.x3 t.r.k t.r.fs = d
  dsimp only
  by_cases h1 : d.2.2 ≠ 0
  · rw [if_pos h1, if_pos h1]
  · rw [if_neg h1, if_neg h1]
    by_cases h2 : d.1 = 2
    · rw [if_pos h2, if_pos h2]; rfl
    · rw [if_neg h2, if_neg h2]
      by_cases h3 : d.2.1 = 0
      · rw [if_pos h3, if_pos h3]; exact Prod.ext rfl fin_pre
      · rw [if_neg h3, if_neg h3]; rfl
theorem fields_pre : (t.pre o).fields p b s = ((t.fields p b s).1, (t.fields p b s).2.pre o) := by
  unfold T.fields
  by_cases h : s = []
  · rw [if_pos h, if_pos h]; exact endHead_pre
  · rw [if_neg h, if_neg h]; rfl
theorem trail_pre : (t.pre o).trail p b s = ((t.trail p b s).1, (t.trail p b s).2.pre o) := by
  unfold T.trail
  by_cases h : s = []
  · rw [if_pos h, if_pos h]; exact Prod.ext rfl fin_pre
  · rw [if_neg h, if_neg h]; rfl
theorem chunk_pre : (t.pre o).chunk p b s = ((t.chunk p b s).1, (t.chunk p b s).2.pre o) := by
  unfold T.chunk
  generalize Chk.sizeV (Qk.has p 27) (Qk.has p 28) b.x4 b.x3 s = z
  dsimp only
  by_cases h1 : z.2 ≠ 0
  · rw [if_pos h1, if_pos h1]
  · rw [if_neg h1, if_neg h1]
    by_cases h2 : z.1 = 0
    · rw [if_pos h2, if_pos h2]; rfl
    · rw [if_neg h2, if_neg h2]
      show (if b.x3 - (t.r.body.length : Int) < z.1 then _ else _) = _
      by_cases h3 : b.x3 - (t.r.body.length : Int) < z.1
      · rw [if_pos h3, if_pos h3]
      · rw [if_neg h3, if_neg h3]; rfl
theorem line_pre : (t.pre o).line p b s = ((t.line p b s).1, (t.line p b s).2.pre o) := by
  unfold T.line
  show (if t.st = 1 then _ else _) = _
  by_cases h1 : t.st = 1
  · rw [if_pos h1, if_pos h1]; exact first_pre
  · rw [if_neg h1, if_neg h1]
    show (if t.st = 2 then _ else _) = _
    by_cases h2 : t.st = 2
    · rw [if_pos h2, if_pos h2]; exact fields_pre
    · rw [if_neg h2, if_neg h2]
      show (if t.st = 4 then _ else _) = _
      by_cases h4 : t.st = 4
      · rw [if_pos h4, if_pos h4]; exact chunk_pre
      · rw [if_neg h4, if_neg h4]
        show (if t.st = 7 then _ else _) = _
        by_cases h7 : t.st = 7
        · rw [if_pos h7, if_pos h7]; exact trail_pre
        · rw [if_neg h7, if_neg h7]; rfl
theorem ends_pre (x : Nat × T) : ends (x.1, x.2.pre o) = (ends x).pre o := by
  unfold ends
  by_cases h : x.1 = 0
  · rw [if_pos h, if_pos h]; rfl
  · rw [if_neg h, if_neg h]; rfl
theorem inLine_pre : (t.pre o).inLine p b c = ((t.inLine p b c).1.pre o, (t.inLine p b c).2) := by
  unfold T.inLine
  have er : (t.pre o).rd = t.rd := rfl
  have es : (t.pre o).st = t.st := rfl
  have eo : (t.pre o).out = o ++ t.out := rfl
  rw [er, es, eo]
  generalize t.rd.clear.next c = how
  dsimp only
  by_cases h0 : how = 0
  · rw [if_pos h0, if_pos h0]; rfl
  · rw [if_neg h0, if_neg h0]
    by_cases h3 : how = 3
    · rw [if_pos h3, if_pos h3]; rfl
    · rw [if_neg h3, if_neg h3]
      by_cases h4 : how = 4
      · rw [if_pos h4, if_pos h4]
        by_cases h5 : (t.st == 6 && Qk.has p 29) = true
        · rw [if_pos h5, if_pos h5]; rfl
        · rw [if_neg h5, if_neg h5]; rfl
      · rw [if_neg h4, if_neg h4]
        refine Prod.ext ?_ rfl
        show ends ((({ t with rd := t.rd.byte c } : T).pre o).line p b (t.rd.byte c).line) = _
        rw [line_pre, ends_pre]
theorem counted_pre : (t.pre o).counted = t.counted.pre o := by
  unfold T.counted
  show (if t.cnt = true then _ else _) = _
  by_cases h : t.cnt = true
  · rw [if_pos h, if_pos h]
  · rw [if_neg h, if_neg h]; rfl
theorem look_pre : (t.pre o).look p b c = ((t.look p b c).1.pre o, (t.look p b c).2) := by
  unfold T.look
  show (if bodied t.st = true then _ else _) = _
  by_cases h1 : bodied t.st = true
  · rw [if_pos h1, if_pos h1]
    refine Prod.ext ?_ rfl
    show Q.live (if t.left = 1 then _ else _) = _
    by_cases h2 : t.left = 1
    · rw [if_pos h2, if_pos h2]
      show Q.live (((t.keep c).pre o).endData p) = _
      rw [endData_pre]; rfl
    · rw [if_neg h2, if_neg h2]; rfl
  · rw [if_neg h1, if_neg h1]
    show (if headed t.st = true then _ else _) = _
    by_cases h2 : headed t.st = true
    · rw [if_pos h2, if_pos h2, counted_pre]
      show (if b.x2 < (t.counted.size : Int) then _ else _) = _
      by_cases h3 : b.x2 < (t.counted.size : Int)
      · rw [if_pos h3, if_pos h3]; rfl
      · rw [if_neg h3, if_neg h3]; exact inLine_pre
    · rw [if_neg h2, if_neg h2]; exact inLine_pre
theorem take_pre : (t.pre o).take p b c = (t.take p b c).pre o := by
  unfold T.take
  have e : ({ (t.pre o) with cnt := false } : T) = ({ t with cnt := false } : T).pre o := rfl
  rw [e, look_pre]
  rcases ({ t with cnt := false } : T).look p b c with ⟨x, u⟩
  cases x with
  | dead e1 o1 => cases u <;> rfl
  | live t1 =>
    cases u with
    | true => rfl
    | false =>
      show ((t1.pre o).look p b c).1 = ((t1.look p b c).1).pre o
      rw [look_pre]
theorem byte_pre (x : Q) : (x.pre o).byte p b c = (x.byte p b c).pre o := by
  cases x with
  | live t => exact take_pre
  | dead e o1 => rfl
theorem feed_pre (l : List UInt8) : ∀ x : Q, (x.pre o).feed p b l = (x.feed p b l).pre o := by
  induction l with
  | nil => intro x; rfl
  | cons c l ih =>
    intro x
    show ((x.pre o).byte p b c).feed p b l = ((x.byte p b c).feed p b l).pre o
    rw [byte_pre, ih]
end
end Go.Proofs.YtlkmpkofgaceiaaGreatDoor.Pg
/- TextRef -/
namespace Go.Proofs.YtlkmpkofgaceiaaGreatDoor.Txt
open Go.RowKit Base Oct

/-- A block whose first cells are the bytes l, and may be written. -/
def Bytes (w : World) (g : Nat) (l : List UInt8) : Prop := ∀ j (h : j < l.length), w.cell? ⟨g, j, none⟩ = some (.int .u8 (l[j].toNat : Int)) ∧ w.frozen? ⟨g, j, none⟩ = false
def tbytes : Value → Nat
  | .string t => t.size
  | _ => 0

section code
set_option maxHeartbeats 1000000
attribute [local go_sem] Base.some_undef
end code
end Go.Proofs.YtlkmpkofgaceiaaGreatDoor.Txt

namespace Go.Proofs.YtlkmpkofgaceiaaGreatDoor.Txt
open Go.RowKit Base Oct

/-- The walk of a split: what is done at place k, where the last part began at f. -/
def Part (c : UInt8) (l : List UInt8) (f k : Nat) (done : List (List UInt8)) : Prop :=
  (k ≤ l.length ∧ f ≤ k ∧ parts c l = done ++ parts c (l.drop f) ∧ c ∉ (l.drop f).take (k - f)) ∨ (k = l.length + 1 ∧ f = l.length + 1 ∧ parts c l = done)
section code
set_option maxHeartbeats 1000000
attribute [local go_sem] Base.some_undef
end code
end Go.Proofs.YtlkmpkofgaceiaaGreatDoor.Txt
/- TextRef2 -/
namespace Go.Proofs.YtlkmpkofgaceiaaGreatDoor.Txt
open Go.RowKit Base Oct

section code
set_option maxHeartbeats 1000000
set_option maxRecDepth 10000
attribute [local go_sem] Base.some_undef
end code
end Go.Proofs.YtlkmpkofgaceiaaGreatDoor.Txt
/- RecRef -/
namespace Go.Proofs.YtlkmpkofgaceiaaGreatDoor.Rec
open Go.RowKit Base Txt

section code
set_option maxHeartbeats 1000000
attribute [local go_sem] Base.some_undef
end code
end Go.Proofs.YtlkmpkofgaceiaaGreatDoor.Rec
/- RecAll -/
namespace Go.Proofs.YtlkmpkofgaceiaaGreatDoor.Rec
open Go.RowKit Base Txt

/-- A record in memory, from a cell on. -/
def RecAt (w : World) (b o : Nat) (r : R) : Prop :=
  ∃ (fa : Option Addr) (fc : Nat) (ba : Option Addr) (bc : Nat) (ta : Option Addr) (tc : Nat),
    (w.cell? ⟨b, o, none⟩ = some (.string r.m) ∧ w.cell? ⟨b, o + 1, none⟩ = some (.string r.x) ∧ w.cell? ⟨b, o + 2, none⟩ = some (.int .i64 r.k) ∧ w.cell? ⟨b, o + 3, none⟩ = some (.slice fa r.fs.length fc) ∧
     w.cell? ⟨b, o + 4, none⟩ = some (.bool r.ch) ∧ w.cell? ⟨b, o + 5, none⟩ = some (.slice ba r.body.length bc) ∧ w.cell? ⟨b, o + 6, none⟩ = some (.slice ta r.ts.length tc)) ∧
    Reads w (.agg #[.string r.m, .string r.x, .int .i64 r.k, .slice fa r.fs.length fc, .bool r.ch, .slice ba r.body.length bc, .slice ta r.ts.length tc]) r
def r0 : R := ⟨ByteArray.empty, ByteArray.empty, 0, [], false, [], []⟩
/-- A slice of records. -/
def Recs (w : World) (a : Option Addr) (n : Nat) (rs : List R) : Prop :=
  rs.length = n ∧ (0 < n → ∃ b off, a = some ⟨b, off, none⟩ ∧ b < w.heap.size ∧ ∀ k, k < n → RecAt w b (off + k * 7) (rs[k]?.getD r0))
theorem all_iff : ∀ a b : List R, all a b = true ↔ a = b
  | [], [] => by simp [all]
  | [], _ :: _ => by simp [all]
  | _ :: _, [] => by simp [all]
  | x :: a, y :: b => by rw [all, Bool.and_eq_true, same_iff, all_iff a b, List.cons.injEq]
section code
set_option maxHeartbeats 2000000
end code
end Go.Proofs.YtlkmpkofgaceiaaGreatDoor.Rec
/- PgBodW -/
namespace Go.Proofs.YtlkmpkofgaceiaaGreatDoor.Pg
open Go.RowKit Base Txt Par

def rdE : Ln.M := ⟨false, false, 1024, [], 1, false⟩
def t1S : T := ⟨1, rdE, zero, 0, 0, 0, false, 0, []⟩
def isRdE (m : Ln.M) : Bool := !m.lf && (!m.cr && (m.most == 1024 && (m.buf.isEmpty && (m.last == 1 && !m.pend))))
theorem isRdE_eq {m : Ln.M} (h : isRdE m = true) : m = rdE := by
  unfold isRdE at h
  simp only [Bool.and_eq_true, Bool.not_eq_true', beq_iff_eq, List.isEmpty_iff] at h
  obtain ⟨h1, h2, h3, h4, h5, h6⟩ := h
  cases m
  simp only at h1 h2 h3 h4 h5 h6
  subst h1 h2 h3 h4 h5 h6
  rfl
def isFin (t : T) : Bool := t.st == 1 && (isRdE t.rd && (Rec.all [t.r] [zero] && (t.hl == 0 && (t.bl == 0 && (t.size == 0 && (!t.cnt && t.left == 0))))))
theorem isFin_eq {t : T} (h : isFin t = true) : t = { t1S with out := t.out } := by
  unfold isFin at h
  simp only [Bool.and_eq_true, Bool.not_eq_true', beq_iff_eq] at h
  obtain ⟨h1, h2, h3, h4, h5, h6, h7, h8⟩ := h
  have e2 := isRdE_eq h2
  have e3 : t.r = zero := List.singleton_inj.1 ((Rec.all_iff _ _).1 h3)
  cases t
  simp only at h1 e2 e3 h4 h5 h6 h7 h8
  subst h1 e2 e3 h4 h5 h6 h7 h8
  rfl
def headA (n : Nat) : List UInt8 := [80, 79, 83, 84, 32, 47, 97, 32, 72, 84, 84, 80, 47, 49, 46, 49, 13, 10, 72, 111, 115, 116, 58, 32, 104, 13, 10, 67, 111, 110, 116, 101, 110, 116, 45, 76, 101, 110, 103, 116, 104, 58, 32] ++ Num.spell 10 n ++ [13, 10, 13, 10]
def headBB : List UInt8 := [80, 79, 83, 84, 32, 47, 98, 32, 72, 84, 84, 80, 47, 49, 46, 49, 13, 10, 72, 111, 115, 116, 58, 32, 104, 13, 10, 84, 114, 97, 110, 115, 102, 101, 114, 45, 69, 110, 99, 111, 100, 105, 110, 103, 58, 32, 99, 104, 117, 110, 107, 101, 100, 13, 10, 13, 10]
def sa : List UInt8 := [47, 97]
/-- A record of the first kind. -/
def isR (r : Rec.R) (x : List UInt8) (ch : Bool) : Bool := r.x.data.toList == x && r.ch == ch
def isA (n : Nat) : Q → Bool
  | .live t => if n = 0 then isFin t && (match t.out with | [r] => isR r [47, 97] false && r.body.isEmpty | _ => false)
    else t.st == 3 && (t.left == n && (isR t.r [47, 97] false && (t.r.body.isEmpty && (t.out.isEmpty && isRdE t.rd))))
  | .dead _ _ => false
theorem headA_new : ∀ n : Fin 201, isA n.val ((Q.live (T.new 0 usual)).feed 0 usual (headA n.val)) = true := by decide +kernel
theorem headA_next : ∀ n : Fin 201, isA n.val ((Q.live t1S).feed 0 usual (headA n.val)) = true := by decide +kernel
theorem isR_eq {r : Rec.R} {x : List UInt8} {ch : Bool} (h : isR r x ch = true) : r.x = ba x ∧ r.ch = ch := by
  unfold isR at h
  simp only [Bool.and_eq_true, beq_iff_eq] at h
  exact ⟨Txt.ba_ext (by rw [h.1]; rfl), h.2⟩
theorem reqA_feed {s0 : T} (hs : s0 = T.new 0 usual ∨ s0 = t1S) (d : List UInt8) (hd : d.length ≤ 200) : ∃ r, (Q.live s0).feed 0 usual (headA d.length ++ d) = .live { t1S with out := [r] } ∧ r.x = ba [47, 97] ∧ r.ch = false ∧ r.body = d := by
  have h : isA d.length ((Q.live s0).feed 0 usual (headA d.length)) = true := by
    rcases hs with rfl | rfl
    · exact headA_new ⟨d.length, by omega⟩
    · exact headA_next ⟨d.length, by omega⟩
  rw [feed_app]
  generalize (Q.live s0).feed 0 usual (headA d.length) = q at h ⊢
  cases q with
  | dead e o => cases h
  | live t =>
    by_cases h0 : d.length = 0
    · have : d = [] := List.eq_nil_of_length_eq_zero h0
      subst this
      have h : (isFin t && (match t.out with | [r] => isR r [47, 97] false && r.body.isEmpty | _ => false)) = true := h
      rw [Bool.and_eq_true] at h
      obtain ⟨h1, h2⟩ := h
      have e := isFin_eq h1
      generalize ho : t.out = o at h2 e
      match o, h2 with
      | [r], h2 =>
        simp only [Bool.and_eq_true, List.isEmpty_iff] at h2
        obtain ⟨e1, e2⟩ := isR_eq h2.1
        exact ⟨r, by rw [e]; rfl, e1, e2, h2.2⟩
    · replace h : (if d.length = 0 then isFin t && (match t.out with | [r] => isR r [47, 97] false && r.body.isEmpty | _ => false) else t.st == 3 && (t.left == d.length && (isR t.r [47, 97] false && (t.r.body.isEmpty && (t.out.isEmpty && isRdE t.rd))))) = true := h
      rw [if_neg h0] at h
      simp only [Bool.and_eq_true, beq_iff_eq, List.isEmpty_iff] at h
      obtain ⟨h1, h2, h3, h4, h5, h6⟩ := h
      obtain ⟨e1, e2⟩ := isR_eq h3
      have hne : d ≠ [] := fun e => h0 (by rw [e]; rfl)
      rw [feed_body (p := 0) (b := usual) d t (by rw [h1]; rfl) hne (by rw [h2]; exact Nat.le_refl _), if_pos h2.symm]
      refine ⟨{ t.r with body := t.r.body ++ d }, ?_, e1, e2, by show t.r.body ++ d = d; rw [h4]; rfl⟩
      unfold T.endData
      rw [if_neg (by show ¬ t.r.ch = true; rw [e2]; decide)]
      show Q.live (⟨1, t.rd, zero, 0, 0, 0, false, 0, t.out ++ [_]⟩ : T) = _
      rw [isRdE_eq h6, h5]
      rfl
/-- Where a chunk's size is read, of the second kind. -/
structure T.ChB (t : T) (body : List UInt8) : Prop extends T.Chunk t body where
  x : t.r.x = ba [47, 98]
  lf : t.rd.lf = false
  cr : t.rd.cr = false
  most9 : t.rd.most = 1024
def isB : Q → Bool
  | .live t => isChunk (.live t) && (isR t.r [47, 98] true && (!t.rd.lf && (!t.rd.cr && t.rd.most == 1024)))
  | .dead _ _ => false
theorem headB_is : isB ((Q.live t1S).feed 0 usual headBB) = true := by decide +kernel
theorem headB_live : ∃ t, (Q.live t1S).feed 0 usual headBB = .live t ∧ t.ChB [] := by
  have h := headB_is
  generalize (Q.live t1S).feed 0 usual headBB = q at h ⊢
  cases q with
  | dead e o => cases h
  | live t =>
    unfold isB at h
    simp only [isChunk, Bool.and_eq_true, Bool.not_eq_true', decide_eq_true_eq, beq_iff_eq, List.isEmpty_iff] at h
    obtain ⟨⟨h1, h2, h3, h4, h5, h6, h7, h8, h9⟩, g1, g2, g3, g4⟩ := h
    exact ⟨t, rfl, ⟨h1, h2, h3, h4, h5, h6, h7, h8, h9⟩, (isR_eq g1).1, g2, g3, g4⟩
theorem sizeU_facts : ∀ n : Fin 201, Chk.sizeV (Qk.has 0 27) (Qk.has 0 28) 32 65536 (Num.spell 16 n.val) = ((n.val : Int), 0) := by decide +kernel
theorem sizeU_plain : ∀ n : Fin 201, (Num.spell 16 n.val).all (fun c => !(c == 10) && !(c == 13)) = true ∧ (Num.spell 16 n.val).length ≤ 8 := by decide +kernel
section
variable {t : T} {body : List UInt8}
theorem chunkU_line (h : t.ChB body) (d : List UInt8) (hn : d.length ≤ 200) : (Q.live t).feed 0 usual (Num.spell 16 d.length ++ [13, 10]) = ends (T.chunk 0 usual (t.went { t.rd with buf := Num.spell 16 d.length, last := 1, pend := false } ((Num.spell 16 d.length).length + 2)) (Num.spell 16 d.length)) := by
  obtain ⟨z2, z3⟩ := sizeU_plain ⟨d.length, by omega⟩
  simp only at z2 z3
  have e := feed_line (p := 0) (b := usual) (t := t) (Num.spell 16 d.length) h.open h.buf (plain_of _ z2) (Nat.le_trans z3 h.most) (h.room _ _)
  rw [e, line_st4 (show (t.went { t.rd with buf := Num.spell 16 d.length, last := 1, pend := false } ((Num.spell 16 d.length).length + 2)).st = 4 from h.st)]
/-- A chunk that the bound lets in. -/
theorem chunkU_step (h : t.ChB body) (d : List UInt8) (hd : d ≠ []) (hn : d.length ≤ 200) (hs : body.length + d.length ≤ 65536) : ∃ t', (Q.live t).feed 0 usual (Chk.chunkL d) = .live t' ∧ t'.ChB (body ++ d) := by
  have z1 := sizeU_facts ⟨d.length, by omega⟩
  simp only at z1
  have hp : 0 < d.length := List.length_pos_iff.2 hd
  obtain ⟨t0, ht0⟩ : ∃ t0, t.went { t.rd with buf := Num.spell 16 d.length, last := 1, pend := false } ((Num.spell 16 d.length).length + 2) = t0 := ⟨_, rfl⟩
  have hb0 : t0.r.body = body := by rw [← ht0]; exact h.body
  have e1 := chunkU_line h d hn
  rw [ht0] at e1
  obtain ⟨t1, ht1⟩ : ∃ t1, ({ t0 with left := d.length, st := 5 } : T) = t1 := ⟨_, rfl⟩
  have hl : T.chunk 0 usual t0 (Num.spell 16 d.length) = (0, t1) := by
    unfold T.chunk
    rw [show Chk.sizeV (Qk.has 0 27) (Qk.has 0 28) usual.x4 usual.x3 (Num.spell 16 d.length) = ((d.length : Int), 0) from z1]
    dsimp only
    rw [if_neg (by decide), if_neg (by omega), if_neg (by rw [hb0]; show ¬ ((65536 : Int) - (body.length : Int) < (d.length : Int)); omega), ← ht1]
    rfl
  rw [hl] at e1
  have e2 := feed_body (p := 0) (b := usual) d t1 (by rw [← ht1]; rfl) hd (by rw [← ht1]; exact Nat.le_refl _)
  rw [if_pos (by rw [← ht1])] at e2
  obtain ⟨t2, ht2⟩ : ∃ t2, (({ t1 with cnt := false, r := { t1.r with body := t1.r.body ++ d }, left := 0 } : T).enter 0 6 0) = t2 := ⟨_, rfl⟩
  have hr1 : t1.r = t.r := by rw [← ht1, ← ht0]; rfl
  have hed : T.endData 0 { t1 with cnt := false, r := { t1.r with body := t1.r.body ++ d }, left := 0 } = t2 := by
    unfold T.endData
    rw [if_pos (by rw [hr1]; exact h.ch), ht2]
  rw [hed] at e2
  have e3 := feed_line (p := 0) (b := usual) (t := t2) [] ⟨by rw [← ht2]; rfl, by rw [← ht2]; rfl, by rw [← ht2]; rfl⟩ (by rw [← ht2]; rfl) (by intro c hc; cases hc) (Nat.zero_le _) (by intro hh; rw [← ht2] at hh; cases hh)
  have hl2 : T.line 0 usual (t2.went { t2.rd with buf := [], last := 1, pend := false } (([] : List UInt8).length + 2)) [] = (0, (t2.went { t2.rd with buf := [], last := 1, pend := false } 2).enter 0 4 1024) := by
    unfold T.line
    have : (t2.went { t2.rd with buf := [], last := 1, pend := false } (([] : List UInt8).length + 2)).st = 6 := by rw [← ht2]; rfl
    rw [this, if_neg (by decide), if_neg (by decide), if_neg (by decide), if_neg (by decide)]
    rfl
  rw [hl2] at e3
  refine ⟨(t2.went { t2.rd with buf := [], last := 1, pend := false } 2).enter 0 4 1024, ?_, ⟨⟨rfl, rfl, rfl, rfl, (by show 8 ≤ (Ln.M.of 0 1024).most; decide), ?_, ?_, ?_, ?_⟩, ?_, none0 1, none0 2, rfl⟩⟩
  · unfold Chk.chunkL
    rw [if_neg hd, feed_app, feed_app, e1]
    show ((Q.live t1).feed 0 usual d).feed 0 usual [13, 10] = _
    rw [e2]
    exact e3
  · show t2.r.ch = true
    rw [← ht2]
    show t1.r.ch = true
    rw [hr1]; exact h.ch
  · show t2.r.body = _
    rw [← ht2]
    show t1.r.body ++ d = _
    rw [hr1, h.body]
  · show t2.out = []
    rw [← ht2, ← ht1, ← ht0]
    exact h.out
  · show (if headed t2.st = true then t2.size + 2 else t2.size) ≤ 100
    rw [← ht2, ← ht1, ← ht0]
    show (if headed t.st = true then t.size + _ else t.size) ≤ 100
    rw [h.st]
    exact h.size
  · show t2.r.x = _
    rw [← ht2]
    show t1.r.x = _
    rw [hr1]; exact h.x
/-- The last chunk, and no trailers. -/
theorem chunkU_end (h : t.ChB body) : ∃ r, (Q.live t).feed 0 usual [48, 13, 10, 13, 10] = .live { t1S with out := [r] } ∧ r.body = body ∧ r.x = ba [47, 98] ∧ r.ch = true := by
  have e1 := chunkU_line h [] (by decide)
  obtain ⟨t0, ht0⟩ : ∃ t0, t.went { t.rd with buf := Num.spell 16 ([] : List UInt8).length, last := 1, pend := false } ((Num.spell 16 ([] : List UInt8).length).length + 2) = t0 := ⟨_, rfl⟩
  rw [ht0] at e1
  have z1 := sizeU_facts ⟨0, by decide⟩
  simp only at z1
  obtain ⟨t1, ht1⟩ : ∃ t1, ({ t0 with st := 7 } : T) = t1 := ⟨_, rfl⟩
  have hl : T.chunk 0 usual t0 (Num.spell 16 ([] : List UInt8).length) = (0, t1) := by
    unfold T.chunk
    rw [show Chk.sizeV (Qk.has 0 27) (Qk.has 0 28) usual.x4 usual.x3 (Num.spell 16 ([] : List UInt8).length) = (((0 : Nat) : Int), 0) from z1]
    dsimp only
    rw [if_neg (by decide), if_pos (by decide), ht1]
  rw [hl] at e1
  have hz : t1.size ≤ 100 := by
    rw [← ht1, ← ht0]
    show (if headed t.st = true then t.size + _ else t.size) ≤ 100
    rw [h.st]
    exact h.size
  have e3 := feed_line (p := 0) (b := usual) (t := t1) [] ⟨by rw [← ht1]; rfl, by rw [← ht1, ← ht0]; rfl, by rw [← ht1, ← ht0]; rfl⟩ (by rw [← ht1, ← ht0]; rfl) (by intro c hc; cases hc) (Nat.zero_le _) (by intro _; show ((t1.size + 2 : Nat) : Int) ≤ 8192; omega)
  have hl2 : T.line 0 usual (t1.went { t1.rd with buf := [], last := 1, pend := false } (([] : List UInt8).length + 2)) [] = (0, (t1.went { t1.rd with buf := [], last := 1, pend := false } 2).fin) := by
    unfold T.line
    have : (t1.went { t1.rd with buf := [], last := 1, pend := false } (([] : List UInt8).length + 2)).st = 7 := by rw [← ht1]; rfl
    rw [this, if_neg (by decide), if_neg (by decide), if_neg (by decide), if_pos rfl]
    rfl
  rw [hl2] at e3
  have hrd : ({ t1.rd with buf := [], last := 1, pend := false } : Ln.M) = rdE := by
    have e : t1.rd = t0.rd := by rw [← ht1]
    rw [e, ← ht0]
    show (⟨t.rd.lf, t.rd.cr, t.rd.most, [], 1, false⟩ : Ln.M) = _
    rw [h.lf, h.cr, h.most9]
    rfl
  have ho : t1.out = [] := by rw [← ht1, ← ht0]; exact h.out
  refine ⟨t1.r, ?_, ?_, ?_, ?_⟩
  · rw [show ([48, 13, 10, 13, 10] : List UInt8) = (Num.spell 16 ([] : List UInt8).length ++ [13, 10]) ++ ([] ++ [13, 10]) by decide +kernel, feed_app, e1]
    refine (show (ends (0, t1)).feed 0 usual ([] ++ [13, 10]) = _ from e3).trans ?_
    show Q.live (⟨1, { t1.rd with buf := [], last := 1, pend := false }, zero, 0, 0, 0, false, 0, t1.out ++ [t1.r]⟩ : T) = _
    rw [hrd, ho]
    rfl
  · rw [← ht1, ← ht0]; exact h.body
  · rw [← ht1, ← ht0]; exact h.x
  · rw [← ht1, ← ht0]; exact h.ch
theorem chunksU (ls : List (List UInt8)) : ∀ {t : T} {body : List UInt8}, t.ChB body → body.length + ls.flatten.length ≤ 200 → ∃ t', (Q.live t).feed 0 usual (ls.flatMap Chk.chunkL) = .live t' ∧ t'.ChB (body ++ ls.flatten) := by
  induction ls with
  | nil =>
    intro t body h _
    exact ⟨t, rfl, by simpa using h⟩
  | cons d ls ih =>
    intro t body h hs
    rw [List.flatten_cons, List.length_append] at hs
    rw [List.flatMap_cons, feed_app]
    by_cases hd : d = []
    · subst hd
      exact ih h (by simpa using hs)
    · obtain ⟨t1, f1, i1⟩ := chunkU_step h d hd (by omega) (by omega)
      rw [f1]
      obtain ⟨t2, f2, i2⟩ := ih i1 (by rw [List.length_append]; omega)
      exact ⟨t2, f2, by rw [List.flatten_cons, ← List.append_assoc]; exact i2⟩
end
theorem reqB_feed (ls : List (List UInt8)) (hs : ls.flatten.length ≤ 200) : ∃ r, (Q.live t1S).feed 0 usual (headBB ++ (Chk.putL ls ++ [13, 10])) = .live { t1S with out := [r] } ∧ r.x = ba [47, 98] ∧ r.ch = true ∧ r.body = ls.flatten := by
  obtain ⟨t, f, h⟩ := headB_live
  obtain ⟨t1, f1, i1⟩ := chunksU ls h (by simpa using hs)
  obtain ⟨r, f2, h3, h4, h5⟩ := chunkU_end i1
  refine ⟨r, ?_, h4, h5, by rw [h3]; rfl⟩
  have e : Chk.putL ls ++ [13, 10] = ls.flatMap Chk.chunkL ++ [48, 13, 10, 13, 10] := by unfold Chk.putL; rw [List.append_assoc]; rfl
  rw [e, feed_app, f, feed_app, f1, f2]
/-- One request of each kind, of the same body. -/
def bothL (d : List UInt8) (ls : List (List UInt8)) : List UInt8 := headA d.length ++ d ++ (headBB ++ (Chk.putL ls ++ [13, 10]))
theorem bothL_feed {s0 : T} (hs : s0 = T.new 0 usual ∨ s0 = t1S) (d : List UInt8) (ls : List (List UInt8)) (hd : d.length ≤ 200) (hl : ls.flatten = d) :
    ∃ r1 r2, (Q.live s0).feed 0 usual (bothL d ls) = .live { t1S with out := [r1, r2] } ∧ (r1.x = ba [47, 97] ∧ r1.ch = false ∧ r1.body = d) ∧ (r2.x = ba [47, 98] ∧ r2.ch = true ∧ r2.body = d) := by
  obtain ⟨r1, f1, h1⟩ := reqA_feed hs d hd
  obtain ⟨r2, f2, h2, h3, h4⟩ := reqB_feed ls (by rw [hl]; exact hd)
  refine ⟨r1, r2, ?_, h1, h2, h3, by rw [h4, hl]⟩
  unfold bothL
  rw [feed_app, f1]
  have e : Q.live { t1S with out := [r1] } = (Q.live t1S).pre [r1] := rfl
  rw [e, feed_pre, f2]
  rfl
/-- What the law asks of the i-th record. -/
def Ith (d : List UInt8) (i : Nat) (r : Rec.R) : Prop := r.body = d ∧ r.ch = (i % 2 == 1) ∧ r.x = (if i % 2 = 0 then ba [47, 97] else ba [47, 98])
theorem many_feed (d : List UInt8) (ls : List (List UInt8)) (hd : d.length ≤ 200) (hl : ls.flatten = d) : ∀ (n : Nat) (s0 : T), (s0 = T.new 0 usual ∨ s0 = t1S) → 0 < n →
    ∃ out, (Q.live s0).feed 0 usual (List.replicate n (bothL d ls)).flatten = .live { t1S with out := out } ∧ out.length = 2 * n ∧ ∀ i (h : i < out.length), Ith d i out[i]
  | 0, _, _, h => absurd h (by decide)
  | n + 1, s0, hs, _ => by
    obtain ⟨r1, r2, f1, h1, h2⟩ := bothL_feed hs d ls hd hl
    have two : ∀ i (h : i < [r1, r2].length), Ith d i [r1, r2][i] := by
      intro i hi
      have hi : i < 2 := hi
      rcases (by omega : i = 0 ∨ i = 1) with rfl | rfl
      · exact ⟨h1.2.2, h1.2.1, h1.1⟩
      · exact ⟨h2.2.2, h2.2.1, h2.1⟩
    rw [List.replicate_succ, List.flatten_cons, feed_app, f1]
    rcases Nat.eq_zero_or_pos n with rfl | hn
    · exact ⟨[r1, r2], rfl, rfl, two⟩
    · obtain ⟨out, f2, hlen, hall⟩ := many_feed d ls hd hl n t1S (.inr rfl) hn
      have e : Q.live { t1S with out := [r1, r2] } = (Q.live t1S).pre [r1, r2] := rfl
      rw [e, feed_pre, f2]
      refine ⟨[r1, r2] ++ out, rfl, by rw [List.length_append, hlen]; simp only [List.length_cons, List.length_nil]; omega, fun i hi => ?_⟩
      rcases Nat.lt_or_ge i 2 with h | h
      · rw [List.getElem_append_left (by exact h)]; exact two i h
      · rw [List.getElem_append_right (by exact h)]
        have h9 := hall (i - 2) (by rw [List.length_append] at hi; simp only [List.length_cons, List.length_nil] at hi; omega)
        have em : (i - 2) % 2 = i % 2 := by omega
        unfold Ith at h9 ⊢
        rw [em] at h9
        exact h9
theorem many_read (d : List UInt8) (ls : List (List UInt8)) (hd : d.length ≤ 200) (hl : ls.flatten = d) (n : Nat) (hn : 0 < n) :
    ∃ out, (Q.read 0 usual (List.replicate n (bothL d ls)).flatten).err = 0 ∧ (Q.read 0 usual (List.replicate n (bothL d ls)).flatten).clean = true ∧ (Q.read 0 usual (List.replicate n (bothL d ls)).flatten).out = out ∧ out.length = 2 * n ∧ ∀ i (h : i < out.length), Ith d i out[i] := by
  obtain ⟨out, f, h1, h2⟩ := many_feed d ls hd hl n (T.new 0 usual) (.inl rfl) hn
  have e : Q.read 0 usual (List.replicate n (bothL d ls)).flatten = .live { t1S with out := out } := by
    unfold Q.read
    rw [head_live (by decide)]
    exact f
  rw [e]
  exact ⟨out, rfl, rfl, rfl, h1, h2⟩
end Go.Proofs.YtlkmpkofgaceiaaGreatDoor.Pg
/- Buf -/
namespace Go.Proofs.YtlkmpkofgaceiaaGreatDoor.By
open Go.RowKit Base

abbrev bv (c : UInt8) : Value := .int .u8 (c.toNat : Int)
/-- A slice of bytes in a block of the call's own; what lies behind it may be written. -/
def Buf (w : World) (B : Nat) (v : Value) (xs : List UInt8) : Prop := ∃ g cap, v = .slice (some ⟨g, 0, none⟩) xs.length cap ∧ B ≤ g ∧ g < w.heap.size ∧ xs.length ≤ cap ∧ (∀ j (h : j < xs.length), w.cell? ⟨g, j, none⟩ = some (bv xs[j])) ∧
  ∀ j, xs.length ≤ j → j < cap → (w.cell? ⟨g, j, none⟩).isSome = true ∧ w.frozen? ⟨g, j, none⟩ = false
/-- A slice of bytes that is read. -/
def Rd (w : World) (v : Value) (ys : List UInt8) : Prop := ∃ a c, v = .slice a ys.length c ∧ Nums .u8 w a ys.length (ys.map fun c => (c.toNat : Int))
theorem row_clear {w : World} {g : Nat} {cs : Array Value} {ty : TypeId} (h : w.heap[g]? = some (.cells cs ty (0, 0))) (k : Nat) : w.frozen? ⟨g, k, none⟩ = false := by simp [World.frozen?, h]
theorem lt_alloc (w : World) (o : Obj) : w.heap.size < (w.drew.alloc o).heap.size := by
  have h : w.drew.heap.size < (w.drew.alloc o).heap.size := by simp
  exact h
section
variable {w w' : World} {B : Nat} {v x : Value} {xs ys : List UInt8}
theorem Buf.below (h : Buf w B v xs) (hb : Below w.heap.size w w') : Buf w' B v xs := by
  obtain ⟨g, cap, e, h1, h2, h3, h4, h5⟩ := h
  exact ⟨g, cap, e, h1, Nat.lt_of_lt_of_le h2 hb.size, h3, fun j hj => (hb.cell (p := ⟨g, j, none⟩) h2).trans (h4 j hj), fun j k1 k2 => ⟨by rw [hb.cell (p := ⟨g, j, none⟩) h2]; exact (h5 j k1 k2).1, by rw [hb.frozen (p := ⟨g, j, none⟩) h2]; exact (h5 j k1 k2).2⟩⟩
theorem Buf.rd (h : Buf w B v xs) : Rd w v xs := by
  obtain ⟨g, cap, e, h1, h2, h3, h4, h5⟩ := h
  exact ⟨_, cap, e, by simp, fun _ => ⟨g, 0, rfl, h2, fun j hj => by rw [Nat.zero_add, h4 j hj]; simp [hj]⟩⟩
theorem u8_info : (Tryz.prog.info? 5).map (fun i => (i.zero, i.size, i.bytes)) = some (some (.int .u8 0), 1, 1) := by kernel_rfl
theorem Rd.src (h : Rd w x ys) : Src Tryz.prog 1 22 x ys.length (ys.map bv) w := by
  obtain ⟨a, c, e, hl, hc⟩ := h
  subst e
  rcases Nat.eq_zero_or_pos ys.length with h0 | h0
  · have : ys = [] := List.eq_nil_of_length_eq_zero h0
    subst this
    cases a with
    | none => exact Src.ofNil w Tryz.underlying22 c
    | some a => exact Src.ofSlice w Tryz.underlying22 a 0 c [] rfl (fun j u hu => by cases hu) (fun u hu => by cases hu)
  · obtain ⟨b, off, rfl, hlt, hcc⟩ := hc h0
    refine Src.ofSlice w Tryz.underlying22 _ _ c _ (by simp) (fun j u hu => ?_) (fun u hu => ?_)
    · have hj : j < ys.length := by have := (List.getElem?_eq_some_iff.1 hu).1; simpa using this
      have e : (⟨b, off, none⟩ : Addr).add j = ⟨b, off + j, none⟩ := by unfold Addr.add; by_cases h : j = 0 <;> simp [h]
      rw [e, hcc j hj]
      rw [List.getElem?_map, List.getElem?_eq_getElem hj] at hu
      simp [hj] at hu ⊢
      exact hu
    · obtain ⟨c, -, rfl⟩ := List.mem_map.1 hu
      rfl
theorem str_src (s : ByteArray) : Src Tryz.prog 1 9 (.string s) s.data.toList.length (s.data.toList.map bv) w := by
  have h := Src.ofString (P := Tryz.prog) (w := w) (tx := 9) Tryz.underlying9 s
  have e : s.data.toList.length = s.size := Array.length_toList
  have e2 : byteCells s = s.data.toList.map bv := rfl
  rw [e, ← e2]; exact h
theorem Buf.mono (h : Buf w B v xs) {B' : Nat} (hB : B' ≤ B) : Buf w B' v xs := by
  obtain ⟨g, cap, rfl, h1, h2⟩ := h
  exact ⟨g, cap, rfl, Nat.le_trans hB h1, h2⟩
/-- Bytes go behind those that are there, where there is no room for them. -/
theorem buf_grow {g cap : Nat} (h4 : ∀ j (h : j < xs.length), w.cell? ⟨g, j, none⟩ = some (bv xs[j])) (tx : TypeId) (hs : Src Tryz.prog 1 tx x ys.length (ys.map bv) w) (hlen : xs.length + ys.length ≤ 1000000000) (hr : cap < xs.length + ys.length) :
    ∃ v' w', (Builtin.append_ #[22, tx] 22 #[.slice (some ⟨g, 0, none⟩) xs.length cap, x]).run Tryz.prog w = .ok v' w' ∧ Buf w' w.heap.size v' (xs ++ ys) ∧ Below w.heap.size w w' := by
  obtain ⟨i, hi, hzz⟩ := Option.map_eq_some_iff.1 u8_info
  simp only [Prod.mk.injEq] at hzz
  obtain ⟨hz, hsz, hby⟩ := hzz
  have hml : (ys.map bv).length = ys.length := by simp
  have hold : (Builtin.firstCells i.size xs.length (.slice (some ⟨g, 0, none⟩) xs.length cap)).run Tryz.prog w.drew = .ok (xs.map bv).toArray w.drew := by
    rw [hsz]
    refine run_firstCells_some w.drew 1 xs.length ⟨g, 0, none⟩ xs.length cap (xs.map bv) (by simp) (fun j u hu => ?_)
    have hj : j < xs.length := by have := (List.getElem?_eq_some_iff.1 hu).1; simpa using this
    have e : (⟨g, 0, none⟩ : Addr).add j = ⟨g, j, none⟩ := by unfold Addr.add; by_cases h : j = 0 <;> simp [h]
    rw [e]
    show w.cell? ⟨g, j, none⟩ = some u
    rw [h4 j hj]
    rw [List.getElem?_map, List.getElem?_eq_getElem hj] at hu
    exact hu
  have hrun := run_append_grow_src (P := Tryz.prog) (w := w) 22 tx 22 5 i (.int .u8 0) Tryz.underlying22 hi hz (some ⟨g, 0, none⟩) xs.length cap (xs.map bv) hold x ys.length (ys.map bv) (by rw [hsz]; exact hs) hr (by omega)
    (by rw [hby]; have := nextslicecap_le hr; omega)
  have hgc := grownCap_ge w (xs.length + ys.length) cap 5
  refine ⟨_, _, hrun, ⟨w.heap.size, _, by rw [List.length_append], Nat.le_refl _, lt_alloc w _, by rw [List.length_append]; exact hgc, fun j hj => ?_, fun j k1 k2 => ?_⟩, (Below.refl _ _).drew.alloc (Nat.le_refl _) _⟩
  · have hrow := cell_of_row (w.drew.alloc (.cells (((xs.map bv) ++ (ys.map bv)).toArray ++ Builtin.zeroCells (Value.int .u8 0).cells (grownCap w (xs.length + ys.length) cap 5 - (xs.length + ys.length))) 5)) w.heap.size j _ 5 (0, 0) (heap_alloc_new w.drew _)
    rw [hrow, Array.getElem?_append_left (by rw [List.length_append] at hj; simpa using hj), List.getElem?_toArray, ← List.map_append, List.getElem?_map, List.getElem?_eq_getElem hj]
    rfl
  · have hrow := cell_of_row (w.drew.alloc (.cells (((xs.map bv) ++ (ys.map bv)).toArray ++ Builtin.zeroCells (Value.int .u8 0).cells (grownCap w (xs.length + ys.length) cap 5 - (xs.length + ys.length))) 5)) w.heap.size j _ 5 (0, 0) (heap_alloc_new w.drew _)
    refine ⟨?_, row_clear (heap_alloc_new w.drew _) j⟩
    rw [hrow]
    have hzl : (Builtin.zeroCells (Value.int .u8 0).cells (grownCap w (xs.length + ys.length) cap 5 - (xs.length + ys.length))).size = grownCap w (xs.length + ys.length) cap 5 - (xs.length + ys.length) := by
      have e1 : (Value.int IntKind.u8 0).cells.size = 1 := rfl
      simp [Builtin.zeroCells, e1]
    rw [List.length_append] at k1
    rw [Array.getElem?_eq_getElem (by rw [Array.size_append, hzl]; simp; omega)]
    rfl
/-- Bytes go behind those that are there. -/
theorem Buf.append (h : Buf w B v xs) (tx : TypeId) (hs : Src Tryz.prog 1 tx x ys.length (ys.map bv) w) (hlen : xs.length + ys.length ≤ 1000000000) (hB : B ≤ w.heap.size) :
    ∃ v' w', (Builtin.append_ #[22, tx] 22 #[v, x]).run Tryz.prog w = .ok v' w' ∧ Buf w' B v' (xs ++ ys) ∧ Below B w w' := by
  obtain ⟨g, cap, rfl, h1, h2, h3, h4, h5⟩ := h
  obtain ⟨i, hi, hzz⟩ := Option.map_eq_some_iff.1 u8_info
  simp only [Prod.mk.injEq] at hzz
  obtain ⟨hz, hsz, hby⟩ := hzz
  have hml : (ys.map bv).length = ys.length := by simp
  rcases Nat.lt_or_ge cap (xs.length + ys.length) with hr | hr
  · obtain ⟨v', w', hrun, hb, hbw⟩ := buf_grow h4 tx hs hlen hr
    exact ⟨v', w', hrun, hb.mono hB, hbw.mono hB⟩
  · have hrun := run_append_room_src (P := Tryz.prog) (w := w) 22 tx 22 5 i Tryz.underlying22 hi g 0 xs.length cap x ys.length (ys.map bv) (by rw [hsz]; exact hs) hr
      (fun j hj => by rw [hsz, Nat.zero_add, Nat.mul_one]; rw [hml] at hj; exact (h5 (xs.length + j) (by omega) (by omega)).1)
      (fun j hj => by rw [hsz, Nat.zero_add, Nat.mul_one]; rw [hml] at hj; exact (h5 (xs.length + j) (by omega) (by omega)).2)
    rw [hsz, Nat.zero_add, Nat.mul_one] at hrun
    have hbw : Below B w (w.setCells g xs.length (ys.map bv)) := Lib.below_setCells_w h1 _ _ _
    refine ⟨_, _, hrun, ⟨g, cap, by rw [List.length_append], h1, Nat.lt_of_lt_of_le h2 hbw.size, by rw [List.length_append]; exact hr, fun j hj => ?_, fun j k1 k2 => ?_⟩, hbw⟩
    · rcases Nat.lt_or_ge j xs.length with hjx | hjx
      · rw [World.cell?_setCells_out g _ _ _ _ (fun _ _ => .inl hjx), h4 j hjx, List.getElem_append_left hjx]
      · have hj' : j - xs.length < (ys.map bv).length := by rw [hml]; rw [List.length_append] at hj; omega
        have := World.cell?_setCells_in g (ys.map bv) xs.length w (fun k hk => by rw [hml] at hk; exact (h5 (xs.length + k) (by omega) (by omega)).1) (j - xs.length) hj'
        rw [show xs.length + (j - xs.length) = j by omega] at this
        rw [this, List.getElem_append_right hjx]
        simp
    · rw [List.length_append] at k1
      refine ⟨?_, by rw [World.frozen?_setCells]; exact (h5 j (by omega) k2).2⟩
      rw [World.cell?_setCells_out g _ _ _ _ (fun _ _ => .inr (by rw [hml]; exact k1))]
      exact (h5 j (by omega) k2).1
theorem exec_append {P : Program} {o : Oper} {ev : Operand → Value} {v u v' : Value} (s z : Operand) (t tx : TypeId) (ho : o.op = .call { callee := .builtin .append, args := #[s, z], argTypes := #[t, tx] }) (hs : ev s = v) (hx : ev z = u)
    (hr : (Builtin.append_ #[t, tx] o.type #[v, u]).run P w = .ok v' w') : (execOp ev o).run P w = .ok (.value v') w' := by
  unfold execOp
  simp only [ho, resolve, invoke, builtin, Sem.run_bind, Sem.run_pure, Result.andThen_ok, List.map_toArray, List.map_cons, List.map_nil, hs, hx, hr]
theorem oper_append {P : Program} {o : Oper} {a : Act} {K : Act → World → Prop} {Q : Exit → Act → World → Prop} {v u v' : Value} (s z : Operand) (t tx : TypeId) (ho : o.op = .call { callee := .builtin .append, args := #[s, z], argTypes := #[t, tx] }) (hs : a.eval s = v) (hx : a.eval z = u)
    (hr : (Builtin.append_ #[t, tx] o.type #[v, u]).run P w = .ok v' w') (h : K (a.put o.dst v') w') : o.wp P a w K Q := by
  unfold Oper.wp
  rw [exec_append s z t tx ho hs hx hr, Oper.upon_value]
  exact h
end
end Go.Proofs.YtlkmpkofgaceiaaGreatDoor.By
/- ReqSeat -/
namespace Go.Proofs.YtlkmpkofgaceiaaGreatDoor.Rq
open Go.RowKit Base Txt

section code
set_option maxHeartbeats 1000000
attribute [local go_sem] Base.some_undef
end code
end Go.Proofs.YtlkmpkofgaceiaaGreatDoor.Rq
/- Stream -/
namespace Go.Proofs.YtlkmpkofgaceiaaGreatDoor.Rq
open Go.RowKit Base Txt

section code
set_option maxHeartbeats 4000000
set_option maxRecDepth 10000
attribute [local go_sem] Base.some_undef
end code
end Go.Proofs.YtlkmpkofgaceiaaGreatDoor.Rq
/- StreamB -/
namespace Go.Proofs.YtlkmpkofgaceiaaGreatDoor.Rq
open Go.RowKit Base Txt

section code
set_option maxHeartbeats 4000000
set_option maxRecDepth 10000
attribute [local go_sem] Base.some_undef
end code
end Go.Proofs.YtlkmpkofgaceiaaGreatDoor.Rq
/- StreamR -/
namespace Go.Proofs.YtlkmpkofgaceiaaGreatDoor.Rq
open Go.RowKit Base Txt Rec

section code
set_option maxHeartbeats 8000000
set_option maxRecDepth 20000
attribute [local go_sem] Base.some_undef
end code
end Go.Proofs.YtlkmpkofgaceiaaGreatDoor.Rq
/- StreamS -/
namespace Go.Proofs.YtlkmpkofgaceiaaGreatDoor.Rq
open Go.RowKit Base Txt

section code
set_option maxHeartbeats 4000000
set_option maxRecDepth 20000
attribute [local go_sem] Base.some_undef
theorem nums_cut {w : World} {b off n : Nat} {zs : List Int} (h : Nums .u8 w (some ⟨b, off, none⟩) n zs) (i m : Nat) (hm : i + m ≤ n) : Nums .u8 w (some ⟨b, off + i, none⟩) m ((zs.drop i).take m) := by
  refine ⟨by rw [List.length_take, List.length_drop, h.1]; omega, fun h0 => ?_⟩
  obtain ⟨b0, o0, e, hlt, hc⟩ := h.2 (by omega)
  cases e
  refine ⟨b, off + i, rfl, hlt, fun k hk => ?_⟩
  have := hc (i + k) (by omega)
  rw [show off + i + k = off + (i + k) by omega, this]
  simp [List.getElem?_drop, hk]
end code
end Go.Proofs.YtlkmpkofgaceiaaGreatDoor.Rq
/- PgRow -/
namespace Go.Proofs.YtlkmpkofgaceiaaGreatDoor.By
open Go.RowKit Base

theorem sl_info : (Tryz.prog.info? 22).map (fun i => (i.zero, i.size, i.bytes)) = some (some (.slice none 0 0), 1, 24) := by kernel_rfl
/-- Slices of bytes, in a row of the call's own. -/
def PRow (w : World) (B : Nat) (V : Value) (ls : List (List UInt8)) : Prop := ∃ cs : List Value, cs.length = ls.length ∧ w.ownsRow B 22 1 V ls.length cs ∧ ∀ j (h : j < ls.length), ∃ u, cs[j]? = some u ∧ Rd w u ls[j]
section
variable {w w' : World} {B : Nat} {V u : Value} {ls : List (List UInt8)} {ys : List UInt8}
theorem Rd.low (h : Rd w u ys) (hlow : ∀ a n c, u = .slice (some a) n c → 0 < n → a.block < B) (hb : Below B w w') : Rd w' u ys := by
  obtain ⟨a, c, e, hl, hc⟩ := h
  refine ⟨a, c, e, hl, fun h0 => ?_⟩
  obtain ⟨b, off, ea, hlt, hcc⟩ := hc h0
  have hbB : b < B := hlow ⟨b, off, none⟩ _ _ (by rw [e, ea]) h0
  exact ⟨b, off, ea, Nat.lt_of_lt_of_le hlt hb.size, fun k hk => (hb.cell (p := ⟨b, off + k, none⟩) hbB).trans (hcc k hk)⟩
/-- A slice's elements lie below a block. -/
def Low (B : Nat) (u : Value) : Prop := ∀ a n c, u = .slice (some a) n c → 0 < n → a.block < B
/-- .. that lie below B all of them. -/
def PLow (w : World) (B : Nat) (V : Value) (ls : List (List UInt8)) : Prop := ∃ cs : List Value, cs.length = ls.length ∧ w.ownsRow B 22 1 V ls.length cs ∧ ∀ j (h : j < ls.length), ∃ u, cs[j]? = some u ∧ Rd w u ls[j] ∧ Low B u ∧ u.oneCell' = true
theorem PLow.nil (w : World) (B : Nat) : PLow w B (.slice none 0 0) [] := ⟨[], rfl, World.ownsRow_nil _ _ _ _, fun j h => by cases h⟩
/-- One more. -/
theorem PLow.snoc (h : PLow w B V ls) (hu : Rd w u ys) (hlow : Low B u) (h1 : u.oneCell' = true) (hB : B ≤ w.heap.size) (hn : ls.length ≤ 1000) :
    ∃ V' w', (Builtin.append_ #[33, 33] 33 #[V, .slice (some ⟨w.heap.size, 0, none⟩) 1 1]).run Tryz.prog (w.alloc (.cells #[u] 22)) = .ok V' w' ∧ PLow w' B V' (ls ++ [ys]) ∧ Below B w w' := by
  obtain ⟨cs, g1, g2, g3⟩ := h
  obtain ⟨i, hi, hzz⟩ := Option.map_eq_some_iff.1 sl_info
  simp only [Prod.mk.injEq] at hzz
  obtain ⟨hz, hsz, hby⟩ := hzz
  have hb1 : Below w.heap.size w (w.alloc (.cells #[u] 22)) := (Below.refl _ _).alloc (Nat.le_refl _) _
  have hown : (w.alloc (.cells #[u] 22)).ownsRow B 22 1 V ls.length cs := by
    refine ⟨g2.1, ?_⟩
    rcases g2.2 with h0 | ⟨g, cap, cur, rfl, hg, hgg, rest⟩
    · exact .inl h0
    · exact .inr ⟨g, cap, cur, rfl, hg, (hb1.block g (Ln.row_lt hgg)).trans hgg, rest⟩
  obtain ⟨V', w', hrun, ho, hg, hor⟩ := App.run_append_list (w.alloc (.cells #[u] 22)) 33 33 B 22 i (.slice none 0 0) 1 24 Tryz.underlying33 hi hz hsz hby rfl (by decide) V ls.length cs hown
    (some ⟨w.heap.size, 0, none⟩) 1 1 [u] rfl (fun _ => ⟨w.heap.size, 0, rfl, fun j x hx => by
      have hj : j = 0 := by
        have := (List.getElem?_eq_some_iff.1 hx).1
        simpa using this
      subst hj
      have hx : some u = some x := hx
      rw [← hx]
      exact (cell_of_row (w.alloc (.cells #[u] 22)) w.heap.size 0 _ 22 (0, 0) (heap_alloc_new w _)).trans rfl⟩)
    (fun x hx => by rw [List.mem_singleton.1 hx]; exact h1) (by unfold maxLen; omega) (by omega) (Nat.le_trans hB hb1.size)
  have hkB : Below B w w' := by
    refine (hb1.mono hB).trans ⟨hg.os, hg.tape, hg.output, hg.size, fun k hk => hg.block k (Nat.lt_of_lt_of_le hk (Nat.le_trans hB hb1.size)) (fun e => ?_)⟩
    have := (World.ownsRow.lt hown k e.symm).1
    omega
  refine ⟨V', w', hrun, ⟨cs ++ [u], by simp [g1], by rw [List.length_append]; exact ho, fun j hj => ?_⟩, hkB⟩
  rw [List.length_append] at hj
  rcases Nat.lt_or_ge j ls.length with hjl | hjl
  · obtain ⟨x, e, hr, hl, ho1⟩ := g3 j hjl
    refine ⟨x, by rw [List.getElem?_append_left (by rw [g1]; exact hjl)]; exact e, ?_, hl, ho1⟩
    rw [List.getElem_append_left hjl]
    exact hr.low hl hkB
  · have hj1 : j = ls.length := by simp at hj; omega
    subst hj1
    refine ⟨u, by rw [List.getElem?_append_right (by rw [g1]; exact Nat.le_refl _)]; simp [g1], ?_, hlow, h1⟩
    rw [List.getElem_append_right (Nat.le_refl _)]
    simp only [Nat.sub_self, List.getElem_cons_zero]
    exact hu.low hlow hkB
theorem PLow.below (h : PLow w B V ls) {B' : Nat} (hB : ∀ k, V.ownBlock = some k → k < B') (hBB : B ≤ B') (hb : Below B' w w') : PLow w' B V ls := by
  obtain ⟨cs, h1, h2, h3⟩ := h
  refine ⟨cs, h1, ⟨h2.1, ?_⟩, fun j hj => by obtain ⟨u, e, hr, hl, ho⟩ := h3 j hj; exact ⟨u, e, hr.low (fun a n c e1 e2 => Nat.lt_of_lt_of_le (hl a n c e1 e2) hBB) hb, hl, ho⟩⟩
  rcases h2.2 with h0 | ⟨g, cap, cur, rfl, hg, hgg, rest⟩
  · exact .inl h0
  · exact .inr ⟨g, cap, cur, rfl, hg, (hb.block g (hB g rfl)).trans hgg, rest⟩
theorem PLow.lt (h : PLow w B V ls) : ∀ k, V.ownBlock = some k → k < w.heap.size := by
  obtain ⟨cs, -, h2, -⟩ := h
  exact fun k e => (World.ownsRow.lt h2 k e).2
theorem PLow.lines (h : PLow w B V ls) : ∃ a c, V = .slice a ls.length c ∧ Txt.Lines w a ls.length ls := by
  obtain ⟨cs, h1, h2, h3⟩ := h
  obtain ⟨a, c, e, -⟩ := Ln.own_slice h2
  subst e
  refine ⟨a, c, rfl, rfl, fun h0 => ?_⟩
  obtain ⟨bk, cf, hform, -, hlt⟩ := h2.form h0
  simp only [Value.slice.injEq, true_and] at hform
  obtain ⟨rfl, rfl⟩ := hform
  refine ⟨bk, 0, rfl, hlt, fun k hk => ?_⟩
  obtain ⟨u, e, ⟨ak, ck, eu, hn⟩, -, -⟩ := h3 k hk
  have hc := h2.cellAt k (by rw [Nat.mul_one]; exact hk)
  have e2 : ls[k]?.getD [] = ls[k] := by rw [List.getElem?_eq_getElem hk]; rfl
  rw [e2, Nat.zero_add]
  exact ⟨ak, ck, hc.trans (e.trans (by rw [eu])), hn⟩
/-- A cut of bytes, wherever it ends. -/
theorem cut_any {a : Option Addr} {n cap : Nat} {bs : List UInt8} (h : Nums .u8 w a n (bs.map fun c => (c.toNat : Int))) (hc : n ≤ cap) (f g : Nat) (hfg : f ≤ g) (hg : g ≤ n) (hlow : ∀ ad, a = some ad → 0 < n → ad.block < B) :
    Rd w (sliced a f g cap 1) ((bs.drop f).take (g - f)) ∧ Low B (sliced a f g cap 1) ∧ (sliced a f g cap 1).oneCell' = true ∧ ((bs.drop f).take (g - f)).length = g - f := by
  have hbl : bs.length = n := by have := h.1; simpa using this
  have hl : ((bs.drop f).take (g - f)).length = g - f := by rw [List.length_take, List.length_drop]; omega
  have key : ∀ A C, (0 < g - f → ∃ b off, A = some ⟨b, off, none⟩ ∧ a = some ⟨b, off - f, none⟩ ∧ f ≤ off) → Rd w (.slice A (g - f) C) ((bs.drop f).take (g - f)) ∧ Low B (.slice A (g - f) C) := by
    intro A C hA
    refine ⟨⟨A, C, by rw [hl], by simp, fun h0 => ?_⟩, fun ad m c e h0 => ?_⟩
    · rw [hl] at h0 ⊢
      obtain ⟨b, off, rfl, ea, hof⟩ := hA h0
      subst ea
      have h2 := Rq.nums_cut h f (g - f) (by omega)
      rw [show off - f + f = off by omega] at h2
      obtain ⟨b0, o0, e0, hlt, hcc⟩ := h2.2 h0
      cases e0
      refine ⟨b, off, rfl, hlt, fun k hk => ?_⟩
      rw [hcc k hk, ← List.map_drop, ← List.map_take]
    · cases e
      obtain ⟨b, off, e1, ea, -⟩ := hA h0
      cases e1
      have h9 := hlow ⟨b, off - f, none⟩ ea (by omega)
      exact h9
  unfold sliced
  by_cases hcf : cap = f
  · rw [if_pos hcf]
    obtain ⟨k1, k2⟩ := key a (cap - f) (fun h0 => by omega)
    exact ⟨k1, k2, rfl, hl⟩
  · rw [if_neg hcf]
    obtain ⟨k1, k2⟩ := key (a.map (·.add (f * 1))) (cap - f) (fun h0 => by
      obtain ⟨b, off, ea, -, -⟩ := h.2 (by omega)
      subst ea
      refine ⟨b, off + f, ?_, by rw [show off + f - f = off by omega], by omega⟩
      simp [Addr.add])
    exact ⟨k1, k2, rfl, hl⟩
end
theorem conv_buf (s : ByteArray) (w : World) : ∃ W V, (convert 9 22 (.string s)).run Tryz.prog w = .ok V W ∧ Buf W w.heap.size V s.data.toList ∧ Below w.heap.size w W := by
  have hcv := run_bytes_of_string (P := Tryz.prog) w 9 22 5 s Tryz.underlying9 Tryz.underlying22 Tryz.underlying5
  have hl : s.data.toList.length = s.size := Array.length_toList
  have hge := grownCap_ge w s.size 0 5
  have hbs : (bytesRow s (grownCap w s.size 0 5)).size = grownCap w s.size 0 5 := by
    unfold bytesRow
    have e1 : s.data.size = s.size := rfl
    rw [Array.size_append, Array.size_map, Array.size_replicate, e1]
    omega
  refine ⟨_, _, hcv, ⟨w.heap.size, _, by rw [hl], Nat.le_refl _, by simp, by rw [hl]; exact hge, fun j hj => ?_, fun j h1 h2 => ?_⟩, (Below.refl _ _).drew.alloc (Nat.le_refl _) _⟩
  · have hj' : j < s.data.size := by simpa using hj
    exact (World.cell?_alloc_mark w.drew _ _ _ j).trans (bytesRow_at s _ j hj')
  · refine ⟨?_, (World.frozen?_alloc_mark w.drew _ _ _ _ j).trans ?_⟩
    · have e := World.cell?_alloc_mark w.drew (bytesRow s (grownCap w s.size 0 5)) 5 ((bytesRow s (grownCap w s.size 0 5)).size, (bytesRow s (grownCap w s.size 0 5)).size + 1) j
      have e2 : (w.drew.alloc (.cells (bytesRow s (grownCap w s.size 0 5)) 5 ((bytesRow s (grownCap w s.size 0 5)).size, (bytesRow s (grownCap w s.size 0 5)).size + 1))).cell? ⟨w.heap.size, j, none⟩ = (bytesRow s (grownCap w s.size 0 5))[j]? := e
      rw [e2, Array.getElem?_eq_getElem (by rw [hbs]; exact h2)]
      rfl
    · have : ¬ (bytesRow s (grownCap w s.size 0 5)).size ≤ j := by rw [hbs]; omega
      simp [this]
/-- Bytes go behind nothing. -/
theorem buf_first {w : World} {x : Value} {ys : List UInt8} (tx : TypeId) (hs : Src Tryz.prog 1 tx x ys.length (ys.map bv) w) (hlen : ys.length ≤ 1000000000) (h0 : 0 < ys.length) :
    ∃ v' w', (Builtin.append_ #[22, tx] 22 #[.slice none 0 0, x]).run Tryz.prog w = .ok v' w' ∧ Buf w' w.heap.size v' ys ∧ Below w.heap.size w w' := by
  obtain ⟨i, hi, hzz⟩ := Option.map_eq_some_iff.1 u8_info
  simp only [Prod.mk.injEq] at hzz
  obtain ⟨hz, hsz, hby⟩ := hzz
  have hml : (ys.map bv).length = ys.length := by simp
  have hold : (Builtin.firstCells i.size 0 (.slice none 0 0)).run Tryz.prog w.drew = .ok ([] : List Value).toArray w.drew := by
    rw [hsz]
    exact run_firstCells_none w.drew 1 0 0 0
  have hrun := run_append_grow_src (P := Tryz.prog) (w := w) 22 tx 22 5 i (.int .u8 0) Tryz.underlying22 hi hz none 0 0 [] hold x ys.length (ys.map bv) (by rw [hsz]; exact hs) (by omega) (by omega)
    (by rw [hby]; have := nextslicecap_le (need := 0 + ys.length) (old := 0) (by omega); omega)
  have hgc := grownCap_ge w ys.length 0 5
  rw [Nat.zero_add] at hrun
  refine ⟨_, _, hrun, ⟨w.heap.size, grownCap w ys.length 0 5, rfl, Nat.le_refl _, lt_alloc w _, by omega, fun j hj => ?_, fun j k1 k2 => ?_⟩, (Below.refl _ _).drew.alloc (Nat.le_refl _) _⟩
  · have hrow := cell_of_row (w.drew.alloc (.cells (([] ++ (ys.map bv)).toArray ++ Builtin.zeroCells (Value.int .u8 0).cells (grownCap w ys.length 0 5 - ys.length)) 5)) w.heap.size j _ 5 (0, 0) (heap_alloc_new w.drew _)
    rw [hrow, Array.getElem?_append_left (by simpa using hj), List.getElem?_toArray, List.nil_append, List.getElem?_map, List.getElem?_eq_getElem hj]
    rfl
  · have hrow := cell_of_row (w.drew.alloc (.cells (([] ++ (ys.map bv)).toArray ++ Builtin.zeroCells (Value.int .u8 0).cells (grownCap w ys.length 0 5 - ys.length)) 5)) w.heap.size j _ 5 (0, 0) (heap_alloc_new w.drew _)
    refine ⟨?_, row_clear (heap_alloc_new w.drew _) j⟩
    rw [hrow]
    have hzl : (Builtin.zeroCells (Value.int .u8 0).cells (grownCap w ys.length 0 5 - ys.length)).size = grownCap w ys.length 0 5 - ys.length := by
      have e1 : (Value.int IntKind.u8 0).cells.size = 1 := rfl
      simp [Builtin.zeroCells, e1]
    rw [Array.getElem?_eq_getElem (by rw [Array.size_append, hzl]; simp; omega)]
    rfl
section
variable {P : Program} {w w' : World} {ops : Array Oper} {rest : List Oper} {o : Oper} {a : Act} {Q : Exit → Act → World → Prop}
theorem wpList_append_run2 (hw : Region.wanted o (yielded ops a.tmps) = true) (s x : Operand) (t tx : TypeId) (ho : o.op = .call { callee := .builtin .append, args := #[s, x], argTypes := #[t, tx] }) (v u : Value) (hs : a.eval s = v) (hx : a.eval x = u) (v' : Value)
    (hr : (Builtin.append_ #[t, tx] o.type #[v, u]).run P w = .ok v' w') (h : wpList P ops Q rest (a.put o.dst v') w') : wpList P ops Q (o :: rest) a w := by
  unfold wpList
  rw [if_pos hw]
  left
  exact oper_append s x t tx ho hs hx hr h
end
end Go.Proofs.YtlkmpkofgaceiaaGreatDoor.By
/- PgBodies -/
namespace Go.Proofs.YtlkmpkofgaceiaaGreatDoor.Pg
open Go.RowKit Base Txt Mem Par

/-- A literal slice of the two targets. -/
def TwoF : Each.Fact := fun v w => ∃ g, v = .slice (some ⟨g, 0, none⟩) 2 2 ∧ g < w.heap.size ∧ ∀ k, k < 2 → w.cell? ⟨g, k, none⟩ = some (.string (if k = 0 then ba [47, 97] else ba [47, 98]))
theorem TwoF.lasts : Each.Lasts TwoF := fun _ _ _ hb ⟨g, e, h1, h2⟩ => ⟨g, e, Nat.lt_of_lt_of_le h1 hb.size, fun k hk => (hb.cell (p := ⟨g, k, none⟩) h1).trans (h2 k hk)⟩
theorem two_made (w : World) (t : TypeId) : ∀ k, k < 2 → (w.alloc (.cells #[.string ⟨#[47, 97]⟩, .string ⟨#[47, 98]⟩] t)).cell? ⟨w.heap.size, k, none⟩ = some (.string (if k = 0 then ba [47, 97] else ba [47, 98])) := by
  intro k hk
  rw [cell_of_row _ _ k _ t (0, 0) (heap_alloc_new w _)]
  rcases (by omega : k = 0 ∨ k = 1) with rfl | rfl <;> rfl
theorem w64 (x : Nat) (h : x ≤ 1000000) : IntKind.i64.wrap (x : Int) = (x : Int) ∧ wrap64 (x : Int) = (x : Int) := Rec.wraps (x : Int) ⟨by omega, by omega⟩
theorem w64s (x : Nat) (h : x ≤ 1000000) : IntKind.i64.wrap ((x : Int) + 1) = (x : Int) + 1 ∧ wrap64 ((x : Int) + 1) = (x : Int) + 1 := Rec.wraps ((x : Int) + 1) ⟨by omega, by omega⟩
theorem w64t (x : Nat) (h : x ≤ 1000000) : IntKind.i64.wrap (2 * ((x : Int) + 1)) = 2 * ((x : Int) + 1) ∧ wrap64 (2 * ((x : Int) + 1)) = 2 * ((x : Int) + 1) := Rec.wraps (2 * ((x : Int) + 1)) ⟨by omega, by omega⟩
theorem tmod_nat (z d : Nat) : ((z : Nat) : Int).tmod ((d : Int) + 1) = ((z % (d + 1) : Nat) : Int) := by
  have e : ((d : Int) + 1) = ((d + 1 : Nat) : Int) := by omega
  rw [e]
  exact (Int.ofNat_tmod z (d + 1)).symm
theorem od_two (q2 : Nat) (h : q2 < 2) : ((q2 : Int) == 1) = (q2 == 1) ∧ decide ((q2 : Int) = 1) = (q2 == 1) := by
  rcases (by omega : q2 = 0 ∨ q2 = 1) with rfl | rfl <;> exact ⟨rfl, rfl⟩
theorem lt_two (q : Nat) (h : q < 2) : (q : Int) < 2 := by omega
theorem tmod_two (i : Nat) : ((i : Nat) : Int).tmod 2 = ((i % 2 : Nat) : Int) := (Int.ofNat_tmod i 2).symm
/-- Bytes gathered: nothing yet, or a slice of the call's own. -/
def AllAt (w : World) (B : Nat) (V : Value) (xs : List UInt8) : Prop := (V = .slice none 0 0 ∧ xs = []) ∨ By.Buf w B V xs
section code
set_option maxHeartbeats 8000000
set_option maxRecDepth 100000
attribute [local go_sem] Base.some_undef
theorem parserBodies_any (aa : Option Addr) (bs : List UInt8) (bcap : Nat) (ca : Option Addr) (cs : List UInt8) (ccap : Nat) (ag : Int) (w : World) (hv : Nums .u8 w aa bs.length (bs.map fun c => (c.toNat : Int))) (hbl : bs.length ≤ maxLen) (hbc : bs.length ≤ bcap)
    (hu : Nums .u8 w ca cs.length (cs.map fun c => (c.toNat : Int))) (hcl : cs.length ≤ maxLen) (hag : 0 ≤ ag) :
    Calls Tryz.prog 6 #[.slice aa bs.length bcap, .slice ca cs.length ccap, .int .u8 ag] w fun e w' => e = .returned (.bool true) ∧ Below w.heap.size w w' := by
  obtain ⟨n, hn⟩ : ∃ n, bs.length = n := ⟨_, rfl⟩
  obtain ⟨m, hm⟩ : ∃ m, cs.length = m := ⟨_, rfl⟩
  rw [hn] at hv hbl hbc ⊢
  rw [hm] at hu hcl ⊢
  have hmx : n ≤ 9223372036854775807 := by unfold maxLen at hbl; omega
  have hmx2 : m ≤ 9223372036854775807 := by unfold maxLen at hcl; omega
  have HN := Lib.hid hn; have HM := Lib.hid hm; have HV := Lib.hid hv; have HU := Lib.hid hu; have HBC := Lib.hid hbc
  clear hn hm hv hu hbc hbl hcl
  by_cases h2 : 200 < n
  · have t1 : (200 : Int) < (n : Int) := by omega
    go_enter Tryz.func6, Tryz.ntmps6
    go_wp2_with
      (go_at_call 13; with_reducible refine (known_any _).mono ?_; rintro r w1 ⟨rfl, hb⟩
       have HB1 := Lib.hid hb
       clear hb)
    go_ret
    exact ⟨rfl, HB1.out⟩
  by_cases h3 : 10 < m
  · have t1 : ¬ (200 : Int) < (n : Int) := by omega
    have t2 : (10 : Int) < (m : Int) := by omega
    go_enter Tryz.func6, Tryz.ntmps6
    go_wp2_with
      (go_at_call 13; with_reducible refine (known_any _).mono ?_; rintro r w1 ⟨rfl, hb⟩
       have HB1 := Lib.hid hb
       clear hb)
    go_ret
    exact ⟨rfl, HB1.out⟩
  have t1 : ¬ (200 : Int) < (n : Int) := by omega
  have t2 : ¬ (10 : Int) < (m : Int) := by omega
  obtain ⟨q3, hq3, hq3e⟩ := rem_of ag 3 (by decide) hag
  have HQ3 := Lib.hid (And.intro hq3e (And.intro (w64 q3 (by omega)) (w64s q3 (by omega))))
  have HQ3L := Lib.hid (show q3 < 3 by omega)
  have hpu := fun w => Num.rput_any (n : Int) w (by omega) (by omega)
  obtain ⟨P, hPx⟩ : ∃ P, Num.str (Num.spell 10 (n : Int).toNat) = P := ⟨_, rfl⟩
  have hPl : P.data.toList = Num.spell 10 n := by rw [← hPx, Int.toNat_natCast]; rfl
  have hPs : P.size ≤ 3 := by
    have h2 : ∀ x : Fin 201, (Num.spell 10 x.val).length ≤ 3 := by decide +kernel
    rw [← len, hPl]; exact h2 ⟨n, by omega⟩
  rw [hPx] at hpu
  have HPU := Lib.hid hpu; have HPL := Lib.hid hPl
  clear hpu hPx hPl hq3 hq3e hag
  go_enter Tryz.func6, Tryz.ntmps6
  go_upto_region 6 with (first
    | (go_at_call 32; with_reducible refine (Bnd.rusual_any _).mono ?_; rintro r w2 ⟨rfl, hb⟩
       have HB2 := Lib.hid (Base.below_step HB1.out hb)
       clear hb)
    | (go_at_call 13; with_reducible refine (known_any _).mono ?_; rintro r w1 ⟨rfl, hb⟩
       have HB1 := Lib.hid hb
       clear hb))
  clear t1 t2
  have HZ2 := Lib.hid (Rec.Bk.new w2 w2.heap.size rfl 29 [.int .i64 1024, .int .i64 32, .int .i64 8192, .int .i64 65536, .int .i64 32, .int .i64 8, .int .i64 4, .int .i64 20, .bool true, .bool true])
  have HBW := Lib.hid (HB2.out.alloc HB2.out.size (.cells #[.int .i64 1024, .int .i64 32, .int .i64 8192, .int .i64 65536, .int .i64 32, .int .i64 8, .int .i64 4, .int .i64 20, .bool true, .bool true] 29))
  generalize w2.alloc (.cells #[.int .i64 1024, .int .i64 32, .int .i64 8192, .int .i64 65536, .int .i64 32, .int .i64 8, .int .i64 4, .int .i64 20, .bool true, .bool true] 29) = W2 at *
  generalize w2.heap.size = gB at *
  go_upto_region 9 with fail
  go_loopw [8, 9, 10] (fun V fv i wr => ∃ (k f : Nat) (ls : List (List UInt8)), k ≤ m ∧ i = .int .i64 k ∧ fv = .int .i64 f ∧ f ≤ n ∧ Hid (ls.length = k ∧ ls.flatten = bs.take f ∧ By.PLow wr W2.heap.size V ls ∧ Below W2.heap.size W2 wr)) (fun _ _ i _ => m - (intOf i).toNat)
  case atStart => exact ⟨0, 0, [], Nat.zero_le _, rfl, rfl, Nat.zero_le _, Lib.hid ⟨rfl, rfl, By.PLow.nil _ _, Below.refl _ _⟩⟩
  case round =>
    obtain ⟨k, f, ls, hk, rfl, rfl, hf, hR⟩ := hrel
    obtain ⟨VP, hVP⟩ : ∃ x, x = u8 := ⟨_, rfl⟩
    subst hVP
    have hsz2 : Below w.heap.size w wr := HBW.out.trans (hR.out.2.2.2.mono HBW.out.size)
    have HSZ2 := Lib.hid hsz2
    have hlw : ∀ ad, aa = some ad → 0 < n → ad.block < W2.heap.size := fun ad e h0 => by
      obtain ⟨b, off, e2, hlt, -⟩ := HV.out.2 h0
      rw [e] at e2
      cases e2
      exact Nat.lt_of_lt_of_le hlt HBW.out.size
    have hvr := HV.out.below hsz2
    rcases Nat.lt_or_ge k m with hlt | hge
    · have t1 : (k : Int) < (m : Int) := by omega
      have hkl : k < cs.length := by rw [HM.out]; exact hlt
      obtain ⟨zb, zo, rfl, hzb, hz⟩ := HU.out.2 (by omega)
      have hcell := (hsz2.cell (p := ⟨zb, zo + k, none⟩) hzb).trans (hz k hlt)
      have hgi : (cs.map fun c => (c.toNat : Int))[k]?.getD 0 = ((cs[k].toNat : Nat) : Int) := by simp [hkl]
      rw [hgi] at hcell
      obtain ⟨z, hzz⟩ : ∃ z, cs[k].toNat = z := ⟨_, rfl⟩
      have hz9 : z < 256 := by rw [← hzz]; exact UInt8.toNat_lt _
      rw [hzz] at hcell
      obtain ⟨d, hd⟩ : ∃ d, n - f = d := ⟨_, rfl⟩
      obtain ⟨r, hr⟩ : ∃ r, z % (d + 1) = r := ⟨_, rfl⟩
      have hrd : r ≤ d := by rw [← hr]; have := Nat.mod_lt z (show 0 < d + 1 by omega); omega
      obtain ⟨g, hg⟩ : ∃ g, f + r = g := ⟨_, rfl⟩
      have hgn : g ≤ n := by omega
      have hfg : f ≤ g := by omega
      have l1 : d ≤ 1000000 := by omega
      have l2 : r ≤ 1000000 := by omega
      have l3 : g ≤ 1000000 := by omega
      have l4 : z ≤ 1000000 := by omega
      have e1 : (n : Int) - (f : Int) = (d : Int) := by omega
      have e4 : (f : Int) + (r : Int) = (g : Int) := by omega
      have nz : ¬ ((d : Int) + 1) = 0 := by omega
      have nz2 : (((d : Int) + 1) == 0) = false := beq_eq_false_iff_ne.2 nz
      have e3 : ((z : Nat) : Int).tmod ((d : Int) + 1) = (r : Int) := by rw [tmod_nat, hr]
      obtain ⟨a1, a2⟩ := w64 d l1
      obtain ⟨a3, a4⟩ := w64s d l1
      obtain ⟨a5, a6⟩ := w64 r l2
      obtain ⟨a7, a8⟩ := w64 g l3
      obtain ⟨a9, a10⟩ := w64 z l4
      clear l1 l2 l3 l4
      have HCUT := Lib.hid (By.cut_any hvr HBC.out f g hfg hgn hlw)
      have HFG := Lib.hid (And.intro hfg hgn)
      have HKL := Lib.hid (And.intro hkl hlt)
      clear hz hzb hgi hzz hz9 hd hr hrd hg hf hlw hvr hsz2
      go_upto_region 12 with fail
      clear e1 e3 e4 a1 a2 a3 a4 a5 a6 a7 a8 a9 a10 nz nz2 hcell t1
      obtain ⟨hrd, hlow, hone, hcl⟩ := HCUT.out
      obtain ⟨U, hU⟩ : ∃ U, sliced aa f g bcap 1 = U := ⟨_, rfl⟩
      rw [hU] at hrd hlow hone
      obtain ⟨r1, r2, r3, r4⟩ := hR.out
      obtain ⟨V', w6, hrun, hP6, hb6⟩ := By.PLow.snoc r3 hrd hlow hone r4.size (by omega)
      obtain ⟨A, hA⟩ : ∃ A, (if bcap = f then aa else aa.map (·.add (f * 1))) = A := ⟨_, rfl⟩
      have hA2 : (if bcap = f then aa else aa.map (·.add f)) = A := by rw [← hA, Nat.mul_one]
      have hUA : U = .slice A (g - f) (bcap - f) := by rw [← hU, ← hA]; rfl
      rw [hUA] at hrun
      have i1 : (0 : Int) ≤ (f : Int) := by omega
      have i2 : (f : Int) ≤ (g : Int) := by omega
      have i3 : (g : Int) ≤ (bcap : Int) := by have := HBC.out; omega
      have HP6 := Lib.hid hP6; have HB6 := Lib.hid (r4.trans hb6); have HR1 := Lib.hid (And.intro r1 r2); have HCL := Lib.hid hcl
      clear hP6 hb6 r1 r2 r3 r4 hrd hlow hone hcl hU hUA hR HSZ2
      go_wp2_with (at_builtin; (refine By.wpList_append_run2 rfl _ _ 33 33 rfl _ _ rfl rfl _ hrun ?_))
      go_roundw
      case rel =>
        refine ⟨k + 1, g, ls ++ [(bs.drop f).take (g - f)], by omega, by go_num, rfl, HFG.out.2, Lib.hid ⟨by rw [List.length_append, HR1.out.1]; rfl, ?_, HP6.out, HB6.out⟩⟩
        rw [List.flatten_append, HR1.out.2]
        simp only [List.flatten_cons, List.flatten_nil, List.append_nil]
        have hfg := HFG.out.1
        rw [← List.take_add, show f + (g - f) = g by omega]
      case measure => simp [intOf]; omega
    · obtain rfl : k = m := by omega
      have t1 : ¬ (k : Int) < (k : Int) := by omega
      have HCUT := Lib.hid (By.cut_any hvr HBC.out f n hf (Nat.le_refl _) hlw)
      obtain ⟨hrd, hlow, hone, hcl⟩ := HCUT.out
      obtain ⟨r1, r2, r3, r4⟩ := hR.out
      have HR4 := Lib.hid r4
      obtain ⟨A, hA⟩ : ∃ A, (if bcap = f then aa else aa.map (·.add (f * 1))) = A := ⟨_, rfl⟩
      have hA2 : (if bcap = f then aa else aa.map (·.add f)) = A := by rw [← hA, Nat.mul_one]
      have hUA : sliced aa f n bcap 1 = .slice A (n - f) (bcap - f) := by rw [← hA]; rfl
      rw [hUA] at hrd hlow hone
      obtain ⟨V', w6, hrun, hP6, hb6⟩ := By.PLow.snoc r3 hrd hlow hone r4.size (by omega)
      have hfl : (ls ++ [(bs.drop f).take (n - f)]).flatten = bs := by
        rw [List.flatten_append, r2]
        simp only [List.flatten_cons, List.flatten_nil, List.append_nil]
        rw [← List.take_add, show f + (n - f) = n by omega, ← HN.out, List.take_length]
      have hll : (ls ++ [(bs.drop f).take (n - f)]).length ≤ 11 := by rw [List.length_append, r1]; simp; omega
      generalize ls ++ [(bs.drop f).take (n - f)] = ls2 at hP6 hfl hll
      have i1 : (0 : Int) ≤ (f : Int) := by omega
      have i2 : (f : Int) ≤ (n : Int) := by omega
      have HP6 := Lib.hid hP6; have HB6 := Lib.hid (r4.trans hb6); have HFL := Lib.hid hfl; have HLL := Lib.hid hll
      clear hP6 hb6 r1 r2 r3 r4 hrd hlow hone hcl hUA hR HSZ2 hlw hvr hsz2 hfl hll HCUT
      go_upto_region 15 with (at_builtin; (refine By.wpList_append_run2 rfl _ _ 33 33 rfl _ _ rfl rfl _ hrun ?_))
      clear hA hA2 hrun i1 i2 t1
      obtain ⟨N0, hN0⟩ : ∃ N0, (((⟨#[80, 79, 83, 84, 32, 47, 97, 32, 72, 84, 84, 80, 47, 49, 46, 49, 13, 10, 72, 111, 115, 116, 58, 32, 104, 13, 10, 67, 111, 110, 116, 101, 110, 116, 45, 76, 101, 110, 103, 116, 104, 58, 32]⟩ : ByteArray) ++ P) ++ (⟨#[13, 10, 13, 10]⟩ : ByteArray)).size = N0 := ⟨_, rfl⟩
      have hN9 : N0 ≤ 1000 := by rw [← hN0, ByteArray.size_append, ByteArray.size_append]; show 43 + P.size + 4 ≤ _; omega
      have hll2 : (((⟨#[80, 79, 83, 84, 32, 47, 97, 32, 72, 84, 84, 80, 47, 49, 46, 49, 13, 10, 72, 111, 115, 116, 58, 32, 104, 13, 10, 67, 111, 110, 116, 101, 110, 116, 45, 76, 101, 110, 103, 116, 104, 58, 32]⟩ : ByteArray) ++ P) ++ (⟨#[13, 10, 13, 10]⟩ : ByteArray)).data.toList = headA n := by rw [ByteArray.data_append, Array.toList_append, ByteArray.data_append, Array.toList_append, HPL.out]; rfl
      have HHL := Lib.hid (show (headA n).length ≤ 1000 by rw [← hll2, len, hN0]; exact hN9)
      have HLL2 := Lib.hid hll2
      have v1 : ¬ 9223372036854775807 < 43 + P.size := by omega
      have v2 : ¬ 9223372036854775807 < 43 + P.size + 4 := by omega
      have HBX := Lib.hid (show Below w.heap.size w w6 from HBW.out.trans (HB6.out.mono HBW.out.size))
      clear hN0 hN9 hll2
      go_upto_region 16 with
        (go_at_call 35; with_reducible refine (HPU.out _).mono ?_; rintro r w7 ⟨rfl, mk, hw⟩
         have hb7 : Below w6.heap.size w6 w7 := by rw [hw]; exact Base.below_drewN (Below.refl _ _) mk
         clear hw
         obtain ⟨W7, V7, hcv, hbuf7, hb8⟩ := By.conv_buf (((⟨#[80, 79, 83, 84, 32, 47, 97, 32, 72, 84, 84, 80, 47, 49, 46, 49, 13, 10, 72, 111, 115, 116, 58, 32, 104, 13, 10, 67, 111, 110, 116, 101, 110, 116, 45, 76, 101, 110, 103, 116, 104, 58, 32]⟩ : ByteArray) ++ P) ++ (⟨#[13, 10, 13, 10]⟩ : ByteArray)) w7
         rw [HLL2.out] at hbuf7
         have HBUF := Lib.hid hbuf7
         have HB7 := Lib.hid (Base.below_step hb7 hb8)
         have HS7 := Lib.hid (show w6.heap.size ≤ w7.heap.size from hb7.size)
         clear hbuf7 hb7 hb8)
      clear v1 v2
      have hbB : By.Buf W7 w6.heap.size V7 (headA n) := HBUF.out.mono HS7.out
      have hrd7 : By.Rd W7 (.slice aa n bcap) bs := ⟨aa, bcap, by rw [HN.out], by rw [HN.out]; exact HV.out.below (Base.below_step HBX.out HB7.out)⟩
      have hsz7 := HB7.out.size
      obtain ⟨V8, w8, hrun, hbuf8, hb8⟩ := By.Buf.append hbB 22 hrd7.src (by have := HHL.out; have := HN.out; omega) hsz7
      have HBUF8 := Lib.hid hbuf8; have HB8 := Lib.hid (HB7.out.trans hb8)
      clear hbB hrd7 hsz7 hbuf8 hb8
      go_upto_region 17 with (at_builtin; (refine By.wpList_append_run2 rfl _ _ 22 22 rfl _ _ rfl rfl _ hrun ?_))
      clear hrun
      obtain ⟨V9, w9, hrun, hbuf9, hb9⟩ := By.Buf.append HBUF8.out 9 (By.str_src (w := w8) ⟨#[80, 79, 83, 84, 32, 47, 98, 32, 72, 84, 84, 80, 47, 49, 46, 49, 13, 10, 72, 111, 115, 116, 58, 32, 104, 13, 10, 84, 114, 97, 110, 115, 102, 101, 114, 45, 69, 110, 99, 111, 100, 105, 110, 103, 58, 32, 99, 104, 117, 110, 107, 101, 100, 13, 10, 13, 10]⟩) (by rw [List.length_append]; have := HHL.out; have := HN.out; show _ + 57 ≤ _; omega) HB8.out.size
      have HBUF9 := Lib.hid hbuf9; have HB9 := Lib.hid (HB8.out.trans hb9)
      clear hbuf9 hb9
      go_upto_region 18 with (at_builtin; (refine By.wpList_append_run2 rfl _ _ 22 9 rfl _ _ rfl rfl _ hrun ?_))
      clear hrun
      obtain ⟨pa, pc, rfl, hpl⟩ := ((HP6.out.below (HP6.out.lt) HB6.out.size HB9.out)).lines
      have hput : (Chk.putL ls2).length ≤ 20000 := by
        have hpl2 : ∀ (ls : List (List UInt8)), ls.flatten.length ≤ 200 → (ls.flatMap Chk.chunkL).length ≤ 40 * ls.length + ls.flatten.length := by
          intro ls
          induction ls with
          | nil => intro _; exact Nat.le_refl _
          | cons x xs ih =>
            intro hs
            rw [List.flatten_cons, List.length_append] at hs
            have ih := ih (by omega)
            rw [List.flatMap_cons, List.length_append, List.flatten_cons, List.length_append, List.length_cons]
            have hx : (Chk.chunkL x).length ≤ 40 + x.length := by
              unfold Chk.chunkL
              split
              · simp
              · rw [List.length_append, List.length_append, List.length_append]
                have : (Num.spell 16 x.length).length ≤ 8 := (sizeU_plain ⟨x.length, by omega⟩).2
                simp only [List.length_cons, List.length_nil]
                omega
            omega
        unfold Chk.putL
        rw [List.length_append]
        have h1 := hpl2 ls2 (by rw [HFL.out, HN.out]; omega)
        rw [HFL.out, HN.out] at h1
        have := HLL.out
        simp only [List.length_cons, List.length_nil]
        omega
      have HPUT := Lib.hid hput
      have HCH := Lib.hid (Chk.rput_any pa ls2.length pc ls2 w9 hpl (by have := HLL.out; unfold maxLen; omega) (Nat.le_trans hput (by decide)))
      clear hpl hput
      obtain ⟨X, hX⟩ : ∃ X, bothL bs ls2 = X := ⟨_, rfl⟩
      have hXe : headA n ++ bs ++ [80, 79, 83, 84, 32, 47, 98, 32, 72, 84, 84, 80, 47, 49, 46, 49, 13, 10, 72, 111, 115, 116, 58, 32, 104, 13, 10, 84, 114, 97, 110, 115, 102, 101, 114, 45, 69, 110, 99, 111, 100, 105, 110, 103, 58, 32, 99, 104, 117, 110, 107, 101, 100, 13, 10, 13, 10] ++ Chk.putL ls2 ++ [13, 10] = X := by
        rw [← hX]; unfold bothL headBB
        rw [HN.out]
        simp only [List.append_assoc]
      have HXE := Lib.hid hXe; have HX := Lib.hid hX
      clear hXe hX
      go_upto_region 19 with (first
        | (at_builtin; (refine By.wpList_append_run2 rfl _ _ 22 22 rfl _ _ rfl rfl _ hrun1 ?_))
        | (at_builtin; (refine By.wpList_append_run2 rfl _ _ 22 9 rfl _ _ rfl rfl _ hrun2 ?_))
        | (go_at_call 36; with_reducible refine HCH.out.mono ?_; rintro r w10 ⟨A10, c10, rfl, hn10, hb10⟩
           have hbB := HBUF9.out.below hb10
           have hrd : By.Rd w10 (.slice A10 (Chk.putL ls2).length c10) (Chk.putL ls2) := ⟨A10, c10, rfl, hn10⟩
           have hs10 : w6.heap.size ≤ w10.heap.size := Nat.le_trans HB9.out.size hb10.size
           obtain ⟨V11, w11, hrun1, hbuf11, hb11⟩ := By.Buf.append hbB 22 hrd.src (by have := HHL.out; have := HN.out; have := HPUT.out; simp only [List.length_append, List.length_cons, List.length_nil] at *; show _ ≤ _; omega) hs10
           have hb911 : Below w6.heap.size w6 w11 := (HB9.out.trans (hb10.mono HB9.out.size)).trans hb11
           obtain ⟨V12, w12, hrun2, hbuf12, hb12⟩ := By.Buf.append hbuf11 9 (By.str_src (w := w11) ⟨#[13, 10]⟩) (by have := HHL.out; have := HN.out; have := HPUT.out; simp only [List.length_append, List.length_cons, List.length_nil] at *; show _ ≤ _; omega) hb911.size
           have e12 : headA n ++ bs ++ (⟨#[80, 79, 83, 84, 32, 47, 98, 32, 72, 84, 84, 80, 47, 49, 46, 49, 13, 10, 72, 111, 115, 116, 58, 32, 104, 13, 10, 84, 114, 97, 110, 115, 102, 101, 114, 45, 69, 110, 99, 111, 100, 105, 110, 103, 58, 32, 99, 104, 117, 110, 107, 101, 100, 13, 10, 13, 10]⟩ : ByteArray).data.toList ++ Chk.putL ls2 ++ (⟨#[13, 10]⟩ : ByteArray).data.toList = X := HXE.out
           rw [e12] at hbuf12
           have HBUF12 := Lib.hid hbuf12; have HB12 := Lib.hid (hb911.trans hb12)
           clear hbB hrd hs10 hbuf11 hb911 hbuf12 hb12 hb10 hn10 hb11 e12))
      clear hrun1 hrun2 HBUF HBUF8 HBUF9 HB7 HB8 HB9
      obtain ⟨f1, ⟨f2, f3⟩, f4, f5⟩ := HQ3.out
      go_upto_region 22 with fail
      clear f1 f2 f3 f4 f5
      have HBY := Lib.hid (show Below w.heap.size w w12 from HBX.out.trans (HB12.out.mono HBX.out.size))
      have HXL := Lib.hid (show X.length ≤ 30000 by
        rw [← HX.out]; unfold bothL
        have := HHL.out; have := HN.out; have := HPUT.out
        have e : headBB.length = 57 := rfl
        simp only [List.length_append, List.length_cons, List.length_nil]
        rw [HN.out] at *
        omega)
      have HX0 := Lib.hid (show 0 < X.length by
        rw [← HX.out]; unfold bothL
        have e : headBB.length = 57 := rfl
        simp only [List.length_append]
        omega)
      have HZ12 := Lib.hid (HZ2.out.below (HB6.out.trans (HB12.out.mono HB6.out.size)))
      go_loopw [13, 15] (fun U iv wq => ∃ (j : Nat), j ≤ q3 + 1 ∧ iv = .int .i64 j ∧ Hid (AllAt wq w12.heap.size U (List.replicate j X).flatten ∧ Below w12.heap.size w12 wq)) (fun _ iv _ => q3 + 1 - (intOf iv).toNat)
      case atStart => exact ⟨0, Nat.zero_le _, rfl, Lib.hid ⟨.inl ⟨rfl, rfl⟩, Below.refl _ _⟩⟩
      case round =>
        obtain ⟨wA, hwA⟩ : ∃ x, x = wr := ⟨_, rfl⟩
        obtain ⟨j, hj, rfl, hR2⟩ := hrel
        obtain ⟨U13, hU13⟩ : ∃ x, x = u13 := ⟨_, rfl⟩
        subst hU13
        have hq3 := HQ3L.out
        obtain ⟨hall, hbl⟩ := hR2.out
        rcases Nat.lt_or_ge j (q3 + 1) with hlt | hge
        · have t1 : (j : Int) < (q3 : Int) + 1 := by omega
          have hrx := (HBUF12.out.below hbl).rd
          have hlen : (List.replicate j X).flatten.length ≤ 100000 := by
            have h1 : (List.replicate j X).flatten.length = j * X.length := by simp
            have h2 := HXL.out
            rw [h1]
            have : j ≤ 2 := by omega
            calc j * X.length ≤ 2 * X.length := Nat.mul_le_mul_right _ this
              _ ≤ 100000 := by omega
          have hnext : (List.replicate (j + 1) X).flatten = (List.replicate j X).flatten ++ X := by
            rw [List.replicate_succ', List.flatten_append]; simp
          have HNX := Lib.hid hnext
          have hap : ∃ v' w', (Builtin.append_ #[22, 22] 22 #[U13, V12]).run Tryz.prog wr = .ok v' w' ∧ AllAt w' w12.heap.size v' (List.replicate (j + 1) X).flatten ∧ Below w12.heap.size w12 w' := by
            rw [hnext]
            rcases hall with ⟨rfl, hnil⟩ | hbuf
            · obtain ⟨v', w', h1, h2, h3⟩ := By.buf_first 22 hrx.src (by have := HXL.out; omega) HX0.out
              exact ⟨v', w', h1, .inr (by rw [hnil]; exact h2.mono hbl.size), hbl.trans (h3.mono hbl.size)⟩
            · obtain ⟨v', w', h1, h2, h3⟩ := By.Buf.append hbuf 22 hrx.src (by have := HXL.out; omega) hbl.size
              exact ⟨v', w', h1, .inr h2, hbl.trans h3⟩
          obtain ⟨V14, w14, hrun, hal, hb14⟩ := hap
          have HAL := Lib.hid hal; have HB14 := Lib.hid hb14
          clear hrx hlen hnext hal hb14 hall hbl hR2
          go_wp2_with (at_builtin; (refine By.wpList_append_run2 rfl _ _ 22 22 rfl _ _ rfl rfl _ hrun ?_))
          go_roundw
          case rel => exact ⟨j + 1, by omega, by go_num, Lib.hid ⟨HAL.out, HB14.out⟩⟩
          case measure => simp [intOf]; omega
        · obtain rfl : j = q3 + 1 := by omega
          have t1 : ¬ (((q3 + 1 : Nat) : Int)) < (q3 : Int) + 1 := by omega
          obtain ⟨out, k1, k2, k3, k4, k5⟩ := many_read bs ls2 (by rw [HN.out]; omega) HFL.out (q3 + 1) (by omega)
          rw [HX.out] at k1 k2 k3
          obtain ⟨NX, hNX⟩ : ∃ NX, (List.replicate (q3 + 1) X).flatten.length = NX := ⟨_, rfl⟩
          have hNX9 : NX ≤ 200000 := by
            have h1 : (List.replicate (q3 + 1) X).flatten.length = (q3 + 1) * X.length := by simp
            have h2 := HXL.out
            rw [← hNX, h1]
            calc (q3 + 1) * X.length ≤ 3 * X.length := Nat.mul_le_mul_right _ (by omega)
              _ ≤ 200000 := by omega
          have hbuf : By.Buf wr w12.heap.size U13 (List.replicate (q3 + 1) X).flatten := by
            rcases hall with ⟨-, hnil⟩ | hbuf
            · exfalso
              have h1 : (List.replicate (q3 + 1) X).flatten.length = (q3 + 1) * X.length := by simp
              have h2 := HX0.out
              rw [hnil] at h1
              have : 0 < (q3 + 1) * X.length := Nat.mul_pos (by omega) h2
              simp at h1
              omega
            · exact hbuf
          obtain ⟨g9, cap9, e9, -, h92, -, -, -⟩ := id hbuf
          have hbts : Bts [] wr (some ⟨g9, 0, none⟩) (List.replicate (q3 + 1) X).flatten := by
            obtain ⟨a, c, e, hn⟩ := hbuf.rd
            rw [e9] at e
            cases e
            exact ⟨hn, fun ad e => by cases e; exact ⟨(fun hm => by cases hm), h92⟩⟩
          rw [hNX] at e9
          subst e9
          have hrd := read_said (p := 0) (by decide) usual wr (some ⟨g9, 0, none⟩) cap9 _ hbts (by rw [hNX]; omega) 0 true out k1 k2 k3
          rw [hNX] at hrd
          have HRD := Lib.hid (show Calls Tryz.prog 30 #[.int .u32 0, .agg #[.int .i64 1024, .int .i64 32, .int .i64 8192, .int .i64 65536, .int .i64 32, .int .i64 8, .int .i64 4, .int .i64 20, .bool true, .bool true], .slice (some ⟨g9, 0, none⟩) NX cap9] wr fun e w' => ∃ o, e = .returned (.tuple #[o, .int .i64 0, .bool true]) ∧ Said w' o out ∧ Below wr.heap.size wr w' from hrd)
          have HBZ := Lib.hid (show Below w.heap.size w wr from HBY.out.trans (hbl.mono HBY.out.size))
          have HZR := Lib.hid (HZ12.out.below hbl)
          obtain ⟨NO, hNO⟩ : ∃ NO, out.length = NO := ⟨_, rfl⟩
          have hno2 : NO = 2 * (q3 + 1) := hNO.symm.trans k4
          have HK5 := Lib.hid k5; have HNO := Lib.hid hNO
          have n1 : ((NO : Int) != 2 * ((q3 : Int) + 1)) = false := by
            have : (NO : Int) = 2 * ((q3 : Int) + 1) := by omega
            rw [this]; simp
          obtain ⟨b1, b2⟩ := w64t q3 (by omega)
          have n2 : (NO : Int) = 2 * ((q3 : Int) + 1) := by omega
          have HNN := Lib.hid (And.intro n1 (And.intro n2 (And.intro b1 b2)))
          clear hbts hrd k1 k2 k3 k4 k5 hall hbl hR2 hbuf hNX hNX9 h92 hNO hno2 n1 n2 b1 b2 hq3
          have y0 := HZR.out.c 0 _ rfl; have y1 := HZR.out.c 1 _ rfl; have y2 := HZR.out.c 2 _ rfl; have y3 := HZR.out.c 3 _ rfl; have y4 := HZR.out.c 4 _ rfl; have y5 := HZR.out.c 5 _ rfl; have y6 := HZR.out.c 6 _ rfl; have y7 := HZR.out.c 7 _ rfl; have y8 := HZR.out.c 8 _ rfl; have y9 := HZR.out.c 9 _ rfl
          go_upto_region 26 with
            (go_at_call 30; with_reducible refine HRD.out.mono ?_; rintro e w15 ⟨o, rfl, hT, hb⟩
             obtain ⟨a8, c8, e8, hc⟩ := hT
             rw [HNO.out] at e8
             subst e8
             have HC8 := Lib.hid hc
             have HB15 := Lib.hid (Base.below_step HBZ.out hb)
             clear hb hc)
          clear y0 y1 y2 y3 y4 y5 y6 y7 y8 y9
          obtain ⟨n1, n2, b1, b2⟩ := HNN.out
          go_upto_region 29 with fail
          clear n1 b1 b2
          have hq3 := HQ3L.out
          have h0 : 0 < NO := by omega
          obtain ⟨bk, rfl, hbk, hat⟩ := HC8.out (by rw [HNO.out]; exact h0)
          have HBK := Lib.hid hbk; have HAT := Lib.hid hat
          have HNOL := Lib.hid (show NO ≤ 6 by omega)
          clear n2 h0 hbk hat hq3 t1
          go_loopw [19] (fun iv wq => ∃ (i : Nat), i ≤ NO ∧ iv = .int .i64 i ∧ Hid (Below w15.heap.size w15 wq)) (fun iv _ => NO - (intOf iv).toNat)
          case atStart => exact ⟨0, Nat.zero_le _, rfl, Lib.hid (Below.refl _ _)⟩
          case round =>
            obtain ⟨i, hi, rfl, hR3⟩ := hrel
            rcases Nat.lt_or_ge i NO with hlt | hge
            · have t1 : (i : Int) < (NO : Int) := by omega
              have hil : i < out.length := by rw [HNO.out]; exact hlt
              obtain ⟨i1, i2, i3⟩ := HK5.out i hil
              obtain ⟨fa, fc, ra, rc, ta, tc, -, hnr, -, -, c1, -, -, c4, c5, -⟩ := HAT.out i hil
              rw [i1] at hnr c5
              rw [i2] at c4
              rw [i3] at c1
              rw [HN.out] at hnr c5
              obtain ⟨q2, hq2⟩ : ∃ q2, i % 2 = q2 := ⟨_, rfl⟩
              have hq22 : q2 < 2 := by omega
              obtain ⟨od, hod⟩ : ∃ od, (i % 2 == 1) = od := ⟨_, rfl⟩
              obtain ⟨tg, htg⟩ : ∃ tg, (if i % 2 = 0 then ba [47, 97] else ba [47, 98]) = tg := ⟨_, rfl⟩
              rw [hod] at c4
              rw [htg] at c1
              have HTG := Lib.hid (show (if q2 = 0 then ba [47, 97] else ba [47, 98]) = tg by rw [← hq2]; exact htg)
              have HQ2 := Lib.hid (And.intro (show ((i : Nat) : Int).tmod 2 = (q2 : Int) by rw [tmod_two, hq2]) (And.intro (w64 q2 (by omega)) hq22))
              have HOD := Lib.hid (show ((q2 : Int) == 1) = od by rw [← hod, hq2]; exact (od_two q2 hq22).1)
              have HOD2 := Lib.hid (show (decide ((q2 : Int) = 1)) = od by rw [← hod, hq2]; exact (od_two q2 hq22).2)
              have HOX := Lib.hid (show (od != od) = false by cases od <;> rfl)
              have HT8 := Lib.hid (show (i : Int) < (NO : Int) from t1)
              have hbw : Below w15.heap.size w15 (wr.drewN 1) := Base.below_drewN hR3.out 1
              have HC := Lib.hid (fun w1 (hb : Below (wr.drewN 1).heap.size (wr.drewN 1) w1) => (⟨((hbw.trans (hb.mono hbw.size)).cell (p := ⟨bk, i * 7 + 1, none⟩) HBK.out).trans c1, ((hbw.trans (hb.mono hbw.size)).cell (p := ⟨bk, i * 7 + 4, none⟩) HBK.out).trans c4, ((hbw.trans (hb.mono hbw.size)).cell (p := ⟨bk, i * 7 + 5, none⟩) HBK.out).trans c5⟩ : w1.cell? ⟨bk, i * 7 + 1, none⟩ = some (.string tg) ∧ w1.cell? ⟨bk, i * 7 + 4, none⟩ = some (.bool od) ∧ w1.cell? ⟨bk, i * 7 + 5, none⟩ = some (.slice ra n rc)))
              have HCV := Lib.hid (fun w1 (hb : Below (wr.drewN 1).heap.size (wr.drewN 1) w1) => Txt.conv_str w1 ra n rc bs (hnr.below (hbw.trans (hb.mono hbw.size))))
              have HCA := Lib.hid (fun w1 (hb : Below (wr.drewN 1).heap.size (wr.drewN 1) w1) => Txt.conv_str w1 aa n bcap bs (HV.out.below (Base.below_step HB15.out (hbw.trans (hb.mono hbw.size)))))
              have HR3 := Lib.hid hR3.out
              clear i1 i2 i3 hnr c1 c4 c5 hq2 hq22 hod htg hbw hR3 hil
              go_upto_region 31 with fail
              clear t1
              refine Each.region_all 33 [118, 119, 120, 121, 122, 123, 124, 125, 126, 127, 128, 129, 130, 131, 132, 133, 134, 135, 136, 137, 138, 139, 140, 141, 142, 143, 144, 145, 146, 147, 148, 149, 150]
                  [fun v _ => v = .slice (some ⟨bk, 0, none⟩) NO c8,
                    fun v _ => v = .int .i64 (i : Int),
                    fun v _ => v = .pointer (some ⟨bk, i * 7, none⟩),
                    fun v _ => v = .pointer (some ⟨bk, i * 7 + 5, none⟩),
                    fun v _ => v = .slice ra n rc,
                    fun v _ => v = .string (ba bs),
                    fun v _ => v = .slice aa n bcap,
                    fun v _ => v = .string (ba bs),
                    fun v _ => v = .bool false,
                    fun v _ => v = .bool false,
                    Each.When (false) false (fun v _ => v = .slice (some ⟨bk, 0, none⟩) NO c8),
                    Each.When (false) false (fun v _ => v = .int .i64 (i : Int)),
                    Each.When (false) false (fun v _ => v = .pointer (some ⟨bk, i * 7, none⟩)),
                    Each.When (false) false (fun v _ => v = .pointer (some ⟨bk, i * 7 + 4, none⟩)),
                    Each.When (false) false (fun v _ => v = .bool od),
                    Each.When (false) false (fun v _ => v = .int .i64 (i : Int)),
                    Each.When (false) false (fun v _ => v = .int .i64 (q2 : Int)),
                    Each.When (false) false (fun v _ => v = .bool od),
                    Each.When (false) false (fun v _ => v = .bool false),
                    fun v _ => v = .bool ((false && true)),
                    fun v _ => v = .bool ((false && true)),
                    Each.When ((false && true)) false (fun v _ => v = .slice (some ⟨bk, 0, none⟩) NO c8),
                    Each.When ((false && true)) false (fun v _ => v = .int .i64 (i : Int)),
                    Each.When ((false && true)) false (fun v _ => v = .pointer (some ⟨bk, i * 7, none⟩)),
                    Each.When ((false && true)) false (fun v _ => v = .pointer (some ⟨bk, i * 7 + 1, none⟩)),
                    Each.When ((false && true)) false (fun v _ => v = .string tg),
                    Each.When ((false && true)) false (TwoF),
                    Each.When ((false && true)) false (fun v _ => v = .int .i64 (i : Int)),
                    Each.When ((false && true)) false (fun v _ => v = .int .i64 (q2 : Int)),
                    Each.When ((false && true)) false (fun v w => ∃ g, v = .pointer (some ⟨g, q2, none⟩) ∧ g < w.heap.size ∧ w.cell? ⟨g, q2, none⟩ = some (.string tg)),
                    Each.When ((false && true)) false (fun v _ => v = .string tg),
                    Each.When ((false && true)) false (fun v _ => v = .bool false),
                    fun v _ => v = .bool (((false && true) && true))]
                   (by kernel_rfl) (by kernel_rfl) (by kernel_rfl) (by kernel_rfl) (fun _ _ d _ _ h => by cases d <;> exact h) (by rfl) (by rfl)
                  ⟨Each.Lasts.eq _, Each.Lasts.eq _, Each.Lasts.eq _, Each.Lasts.eq _, Each.Lasts.eq _, Each.Lasts.eq _, Each.Lasts.eq _, Each.Lasts.eq _, Each.Lasts.eq _, Each.Lasts.eq _, Each.Lasts.when (Each.Lasts.eq _), Each.Lasts.when (Each.Lasts.eq _), Each.Lasts.when (Each.Lasts.eq _), Each.Lasts.when (Each.Lasts.eq _), Each.Lasts.when (Each.Lasts.eq _), Each.Lasts.when (Each.Lasts.eq _), Each.Lasts.when (Each.Lasts.eq _), Each.Lasts.when (Each.Lasts.eq _), Each.Lasts.when (Each.Lasts.eq _), Each.Lasts.eq _, Each.Lasts.eq _, Each.Lasts.when (Each.Lasts.eq _), Each.Lasts.when (Each.Lasts.eq _), Each.Lasts.when (Each.Lasts.eq _), Each.Lasts.when (Each.Lasts.eq _), Each.Lasts.when (Each.Lasts.eq _), Each.Lasts.when (TwoF.lasts), Each.Lasts.when (Each.Lasts.eq _), Each.Lasts.when (Each.Lasts.eq _), Each.Lasts.when (fun _ _ _ hb ⟨g, e, h1, h2⟩ => ⟨g, e, Nat.lt_of_lt_of_le h1 hb.size, (hb.cell (p := ⟨g, q2, none⟩) h1).trans h2⟩), Each.Lasts.when (Each.Lasts.eq _), Each.Lasts.when (Each.Lasts.eq _), Each.Lasts.eq _, trivial⟩ ?_ ?_
              · refine ⟨?_, ?_, ?_, ?_, ?_, ?_, ?_, ?_, ?_, ?_, ?_, ?_, ?_, ?_, ?_, ?_, ?_, ?_, ?_, ?_, ?_, ?_, ?_, ?_, ?_, ?_, ?_, ?_, ?_, ?_, ?_, ?_, ?_, trivial⟩
                · refine Each.fine rfl (fun ev w1 hR hb hh => ?_)
                  clear hh
                  have e16 := hR.old 16 rfl
                  simp only [Array.getD_eq_getD_getElem?, List.getElem?_toArray, List.getElem?_cons_succ, List.getElem?_cons_zero, Option.getD_some] at e16
                  refine Each.Goes.same ?_
                  go_simp
                  try with_reducible rfl
                · refine Each.fine rfl (fun ev w1 hR hb hh => ?_)
                  clear hh
                  have e19 := hR.old 19 rfl
                  simp only [Array.getD_eq_getD_getElem?, List.getElem?_toArray, List.getElem?_cons_succ, List.getElem?_cons_zero, Option.getD_some] at e19
                  refine Each.Goes.same ?_
                  go_simp
                  try with_reducible rfl
                · refine Each.fine rfl (fun ev w1 hR hb hh => ?_)
                  have e118 : (ev (.tmp 118) = .slice (some ⟨bk, 0, none⟩) NO c8) := hh.at 0
                  have e119 : (ev (.tmp 119) = .int .i64 (i : Int)) := hh.at 1
                  clear hh
                  have t8 := HT8.out
                  have t0 : (0 : Int) ≤ (i : Int) := by omega
                  refine Each.Goes.same ?_
                  go_simp
                  try with_reducible rfl
                · refine Each.fine rfl (fun ev w1 hR hb hh => ?_)
                  have e120 : (ev (.tmp 120) = .pointer (some ⟨bk, i * 7, none⟩)) := hh.at 0
                  clear hh
                  refine Each.Goes.same ?_
                  go_simp
                  try with_reducible rfl
                · refine Each.fine rfl (fun ev w1 hR hb hh => ?_)
                  have e121 : (ev (.tmp 121) = .pointer (some ⟨bk, i * 7 + 5, none⟩)) := hh.at 0
                  clear hh
                  obtain ⟨u1, u4, u5⟩ := HC.out w1 hb
                  refine Each.Goes.same ?_
                  go_simp
                  try with_reducible rfl
                · refine Each.fine rfl (fun ev w1 hR hb hh => ?_)
                  have e122 : (ev (.tmp 122) = .slice ra n rc) := hh.at 0
                  clear hh
                  have cv := HCV.out w1 hb
                  refine Each.Goes.same ?_
                  go_simp
                  try with_reducible rfl
                · refine Each.fine rfl (fun ev w1 hR hb hh => ?_)
                  clear hh
                  have e0 := hR.old 0 rfl
                  simp only [Array.getD_eq_getD_getElem?, List.getElem?_toArray, List.getElem?_cons_zero, Option.getD_some] at e0
                  refine Each.Goes.same ?_
                  go_simp
                  try with_reducible rfl
                · refine Each.fine rfl (fun ev w1 hR hb hh => ?_)
                  have e124 : (ev (.tmp 124) = .slice aa n bcap) := hh.at 0
                  clear hh
                  have cv := HCA.out w1 hb
                  refine Each.Goes.same ?_
                  go_simp
                  try with_reducible rfl
                · refine Each.fine rfl (fun ev w1 hR hb hh => ?_)
                  have e123 : (ev (.tmp 123) = .string (ba bs)) := hh.at 0
                  have e125 : (ev (.tmp 125) = .string (ba bs)) := hh.at 1
                  clear hh
                  refine Each.Goes.same ?_
                  go_simp
                  try with_reducible rfl
                · refine Each.fine rfl (fun ev w1 hR hb hh => ?_)
                  have e126 : (ev (.tmp 126) = .bool false) := hh.at 0
                  clear hh
                  refine Each.Goes.same ?_
                  go_simp
                  try with_reducible rfl
                · refine Each.fine_when 9 127 rfl rfl (fun ev w1 hh => ?_) (fun hg ev w1 hR hb hh => ?_)
                  · exact hh.at 0
                  · clear hh
                    have e16 := hR.old 16 rfl
                    simp only [Array.getD_eq_getD_getElem?, List.getElem?_toArray, List.getElem?_cons_succ, List.getElem?_cons_zero, Option.getD_some] at e16
                    refine Each.Goes.same ?_
                    go_simp
                    try with_reducible rfl
                · refine Each.fine_when 9 127 rfl rfl (fun ev w1 hh => ?_) (fun hg ev w1 hR hb hh => ?_)
                  · exact hh.at 0
                  · clear hh
                    have e19 := hR.old 19 rfl
                    simp only [Array.getD_eq_getD_getElem?, List.getElem?_toArray, List.getElem?_cons_succ, List.getElem?_cons_zero, Option.getD_some] at e19
                    refine Each.Goes.same ?_
                    go_simp
                    try with_reducible rfl
                · refine Each.fine_when 9 127 rfl rfl (fun ev w1 hh => ?_) (fun hg ev w1 hR hb hh => ?_)
                  · exact hh.at 2
                  · have e128 := (show ((false) = false → ev (.tmp 128) = .slice (some ⟨bk, 0, none⟩) NO c8) from hh.at 0) hg
                    have e129 := (show ((false) = false → ev (.tmp 129) = .int .i64 (i : Int)) from hh.at 1) hg
                    clear hh
                    have t8 := HT8.out
                    have t0 : (0 : Int) ≤ (i : Int) := by omega
                    refine Each.Goes.same ?_
                    go_simp
                    try with_reducible rfl
                · refine Each.fine_when 9 127 rfl rfl (fun ev w1 hh => ?_) (fun hg ev w1 hR hb hh => ?_)
                  · exact hh.at 1
                  · have e130 := (show ((false) = false → ev (.tmp 130) = .pointer (some ⟨bk, i * 7, none⟩)) from hh.at 0) hg
                    clear hh
                    refine Each.Goes.same ?_
                    go_simp
                    try with_reducible rfl
                · refine Each.fine_when 9 127 rfl rfl (fun ev w1 hh => ?_) (fun hg ev w1 hR hb hh => ?_)
                  · exact hh.at 1
                  · have e131 := (show ((false) = false → ev (.tmp 131) = .pointer (some ⟨bk, i * 7 + 4, none⟩)) from hh.at 0) hg
                    clear hh
                    obtain ⟨u1, u4, u5⟩ := HC.out w1 hb
                    refine Each.Goes.same ?_
                    go_simp
                    try with_reducible rfl
                · refine Each.fine_when 9 127 rfl rfl (fun ev w1 hh => ?_) (fun hg ev w1 hR hb hh => ?_)
                  · exact hh.at 0
                  · clear hh
                    have e19 := hR.old 19 rfl
                    simp only [Array.getD_eq_getD_getElem?, List.getElem?_toArray, List.getElem?_cons_succ, List.getElem?_cons_zero, Option.getD_some] at e19
                    refine Each.Goes.same ?_
                    go_simp
                    try with_reducible rfl
                · refine Each.fine_when 9 127 rfl rfl (fun ev w1 hh => ?_) (fun hg ev w1 hR hb hh => ?_)
                  · exact hh.at 1
                  · have e133 := (show ((false) = false → ev (.tmp 133) = .int .i64 (i : Int)) from hh.at 0) hg
                    clear hh
                    have ec := hR.const
                    obtain ⟨f1, f2, f3⟩ := HQ2.out
                    refine Each.Goes.same ?_
                    go_simp
                    try with_reducible rfl
                · refine Each.fine_when 9 127 rfl rfl (fun ev w1 hh => ?_) (fun hg ev w1 hR hb hh => ?_)
                  · exact hh.at 1
                  · have e134 := (show ((false) = false → ev (.tmp 134) = .int .i64 (q2 : Int)) from hh.at 0) hg
                    clear hh
                    have ec := hR.const
                    have f4 := HOD.out
                    have f5 := HOD2.out
                    refine Each.Goes.same ?_
                    go_simp
                    try with_reducible rfl
                · refine Each.fine_when 9 127 rfl rfl (fun ev w1 hh => ?_) (fun hg ev w1 hR hb hh => ?_)
                  · exact hh.at 2
                  · have e132 := (show ((false) = false → ev (.tmp 132) = .bool od) from hh.at 0) hg
                    have e135 := (show ((false) = false → ev (.tmp 135) = .bool od) from hh.at 1) hg
                    clear hh
                    have f6 := HOX.out
                    refine Each.Goes.same ?_
                    go_simp
                    try with_reducible rfl
                · refine Each.fine rfl (fun ev w1 hR hb hh => ?_)
                  have e127 : (ev (.tmp 127) = .bool false) := hh.at 0
                  have h136 : ((false) = false → ev (.tmp 136) = .bool false) := hh.at 1
                  clear hh
                  have ec := hR.const
                  refine Each.Goes.same ?_
                  have e136 := h136 rfl
                  go_simp
                  try with_reducible rfl
                · refine Each.fine rfl (fun ev w1 hR hb hh => ?_)
                  have e137 : (ev (.tmp 137) = .bool ((false && true))) := hh.at 0
                  clear hh
                  refine Each.Goes.same ?_
                  go_simp
                  try with_reducible rfl
                · refine Each.fine_when 20 138 rfl rfl (fun ev w1 hh => ?_) (fun hg ev w1 hR hb hh => ?_)
                  · exact hh.at 0
                  · clear hh
                    have e16 := hR.old 16 rfl
                    simp only [Array.getD_eq_getD_getElem?, List.getElem?_toArray, List.getElem?_cons_succ, List.getElem?_cons_zero, Option.getD_some] at e16
                    refine Each.Goes.same ?_
                    go_simp
                    try with_reducible rfl
                · refine Each.fine_when 20 138 rfl rfl (fun ev w1 hh => ?_) (fun hg ev w1 hR hb hh => ?_)
                  · exact hh.at 0
                  · clear hh
                    have e19 := hR.old 19 rfl
                    simp only [Array.getD_eq_getD_getElem?, List.getElem?_toArray, List.getElem?_cons_succ, List.getElem?_cons_zero, Option.getD_some] at e19
                    refine Each.Goes.same ?_
                    go_simp
                    try with_reducible rfl
                · refine Each.fine_when 20 138 rfl rfl (fun ev w1 hh => ?_) (fun hg ev w1 hR hb hh => ?_)
                  · exact hh.at 2
                  · have e139 := (show (((false && true)) = false → ev (.tmp 139) = .slice (some ⟨bk, 0, none⟩) NO c8) from hh.at 0) hg
                    have e140 := (show (((false && true)) = false → ev (.tmp 140) = .int .i64 (i : Int)) from hh.at 1) hg
                    clear hh
                    have t8 := HT8.out
                    have t0 : (0 : Int) ≤ (i : Int) := by omega
                    refine Each.Goes.same ?_
                    go_simp
                    try with_reducible rfl
                · refine Each.fine_when 20 138 rfl rfl (fun ev w1 hh => ?_) (fun hg ev w1 hR hb hh => ?_)
                  · exact hh.at 1
                  · have e141 := (show (((false && true)) = false → ev (.tmp 141) = .pointer (some ⟨bk, i * 7, none⟩)) from hh.at 0) hg
                    clear hh
                    refine Each.Goes.same ?_
                    go_simp
                    try with_reducible rfl
                · refine Each.fine_when 20 138 rfl rfl (fun ev w1 hh => ?_) (fun hg ev w1 hR hb hh => ?_)
                  · exact hh.at 1
                  · have e142 := (show (((false && true)) = false → ev (.tmp 142) = .pointer (some ⟨bk, i * 7 + 1, none⟩)) from hh.at 0) hg
                    clear hh
                    obtain ⟨u1, u4, u5⟩ := HC.out w1 hb
                    refine Each.Goes.same ?_
                    go_simp
                    try with_reducible rfl
                · refine Each.fine_when 20 138 rfl rfl (fun ev w1 hh => ?_) (fun hg ev w1 hR hb hh => ?_)
                  · exact hh.at 0
                  · clear hh
                    have ec := hR.const
                    exact Each.Goes.value (.slice (some ⟨w1.heap.size, 0, none⟩) 2 2) (w1.alloc (.cells #[.string ⟨#[47, 97]⟩, .string ⟨#[47, 98]⟩] 9)) (by go_simp) ((Below.refl _ _).alloc (Nat.le_refl _) _) ⟨w1.heap.size, rfl, by simp, two_made w1 _⟩
                · refine Each.fine_when 20 138 rfl rfl (fun ev w1 hh => ?_) (fun hg ev w1 hR hb hh => ?_)
                  · exact hh.at 0
                  · clear hh
                    have e19 := hR.old 19 rfl
                    simp only [Array.getD_eq_getD_getElem?, List.getElem?_toArray, List.getElem?_cons_succ, List.getElem?_cons_zero, Option.getD_some] at e19
                    refine Each.Goes.same ?_
                    go_simp
                    try with_reducible rfl
                · refine Each.fine_when 20 138 rfl rfl (fun ev w1 hh => ?_) (fun hg ev w1 hR hb hh => ?_)
                  · exact hh.at 1
                  · have e145 := (show (((false && true)) = false → ev (.tmp 145) = .int .i64 (i : Int)) from hh.at 0) hg
                    clear hh
                    have ec := hR.const
                    obtain ⟨f1, f2, f3⟩ := HQ2.out
                    refine Each.Goes.same ?_
                    go_simp
                    try with_reducible rfl
                · refine Each.fine_when 20 138 rfl rfl (fun ev w1 hh => ?_) (fun hg ev w1 hR hb hh => ?_)
                  · exact hh.at 2
                  · have e144 := (show (((false && true)) = false → (TwoF) (ev (.tmp 144)) w1) from hh.at 0) hg
                    have e146 := (show (((false && true)) = false → ev (.tmp 146) = .int .i64 (q2 : Int)) from hh.at 1) hg
                    clear hh
                    obtain ⟨g7, eg, hg7, hc7⟩ := e144
                    obtain ⟨f1, f2, f3⟩ := HQ2.out
                    have f8 := lt_two q2 f3
                    have f9 : (0 : Int) ≤ (q2 : Int) := Int.natCast_nonneg q2
                    refine Each.Goes.value (.pointer (some ⟨g7, q2, none⟩)) w1 ?_ (Below.refl _ _) ⟨g7, rfl, hg7, HTG.out ▸ hc7 q2 f3⟩
                    go_simp
                · refine Each.fine_when 20 138 rfl rfl (fun ev w1 hh => ?_) (fun hg ev w1 hR hb hh => ?_)
                  · exact hh.at 1
                  · have e147 := (show (((false && true)) = false → (fun v w => ∃ g, v = .pointer (some ⟨g, q2, none⟩) ∧ g < w.heap.size ∧ w.cell? ⟨g, q2, none⟩ = some (.string tg)) (ev (.tmp 147)) w1) from hh.at 0) hg
                    clear hh
                    obtain ⟨g7, eg, hg7, hc7⟩ := e147
                    refine Each.Goes.same ?_
                    go_simp
                    try with_reducible rfl
                · refine Each.fine_when 20 138 rfl rfl (fun ev w1 hh => ?_) (fun hg ev w1 hR hb hh => ?_)
                  · exact hh.at 2
                  · have e143 := (show (((false && true)) = false → ev (.tmp 143) = .string tg) from hh.at 0) hg
                    have e148 := (show (((false && true)) = false → ev (.tmp 148) = .string tg) from hh.at 1) hg
                    clear hh
                    refine Each.Goes.same ?_
                    go_simp
                    try with_reducible rfl
                · refine Each.fine rfl (fun ev w1 hR hb hh => ?_)
                  have e138 : (ev (.tmp 138) = .bool ((false && true))) := hh.at 0
                  have h149 : (((false && true)) = false → ev (.tmp 149) = .bool false) := hh.at 1
                  clear hh
                  have ec := hR.const
                  refine Each.Goes.same ?_
                  rcases Bool.eq_false_or_eq_true ((false && true)) with hx | hx
                  · rw [hx] at e138 ⊢
                    go_simp
                    try with_reducible rfl
                  · rw [hx] at e138 ⊢
                    have e149 := h149 hx
                    go_simp
                    try with_reducible rfl
              intro ga w9x hb9 hf
              have z150 : (ga 150 = .bool (((false && true) && true))) := hf.at 32
              clear hf
              simp only [Each.putg, Act.put, List.setIfInBounds_toArray, List.set_cons_zero, List.set_cons_succ]
              rw [z150]
              have HB31 := Lib.hid (HR3.out.trans (hb9.mono HR3.out.size))
              clear hb9 HC HCV HCA
              have hno := HNOL.out
              have hi9 : i ≤ 6 := by omega
              obtain ⟨c1, c2⟩ := w64s i (by omega)
              go_wp2_with fail
              go_roundw
              case rel => exact ⟨i + 1, by omega, by go_num, Lib.hid HB31.out⟩
              case measure => simp [intOf]; omega
            · obtain rfl : i = NO := by omega
              have t1 : ¬ (i : Int) < (i : Int) := by omega
              have HB30 := Lib.hid (Base.below_step HB15.out hR3.out)
              clear hR3
              go_wp2_with fail
              go_ret
              exact ⟨rfl, HB30.out⟩
end code
end Go.Proofs.YtlkmpkofgaceiaaGreatDoor.Pg
/- PgBodSaid -/
namespace Go.Proofs.YtlkmpkofgaceiaaGreatDoor.Pg
open Go.RowKit Base Mem Par

theorem parserBodies_law (la : Option Addr) (ln cap : Nat) (zs : List Int) (ma : Option Addr) (mn mcap : Nat) (ms : List Int) (ag : Int) (w : World) (hv : Nums .u8 w la ln zs) (hln : ln ≤ maxLen) (hlc : ln ≤ cap) (hz : ∀ x ∈ zs, (Lit.int .u8 x).wf = true)
    (hm : Nums .u8 w ma mn ms) (hmn : mn ≤ maxLen) (hw : ∀ x ∈ ms, (Lit.int .u8 x).wf = true) (hag : 0 ≤ ag) :
    Calls Tryz.prog 6 #[.slice la ln cap, .slice ma mn mcap, .int .u8 ag] w fun e w' => e = .returned (.bool true) ∧ Below w.heap.size w w' := by
  obtain ⟨bs, rfl⟩ := Txt.bytes_of zs fun x hx => bounds_u8 (hz x hx)
  obtain ⟨cs, rfl⟩ := Txt.bytes_of ms fun x hx => bounds_u8 (hw x hx)
  have hl : bs.length = ln := by have := hv.1; simpa [Txt.nums] using this
  have hl2 : cs.length = mn := by have := hm.1; simpa [Txt.nums] using this
  subst hl hl2
  exact parserBodies_any la bs cap ma cs mcap ag w hv hln hlc hm hmn hag
end Go.Proofs.YtlkmpkofgaceiaaGreatDoor.Pg
