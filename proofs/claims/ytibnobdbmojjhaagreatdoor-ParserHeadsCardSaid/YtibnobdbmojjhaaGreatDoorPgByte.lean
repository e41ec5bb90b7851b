/-
  Layer 13 (parser): contracts of the program's parser: what it does with a byte. (Printed by tools/gen_pgbyte.py.)
-/
import Derived.Test.YtibnobdbmojjhaaGreatDoorPgLines
import Derived.LoopN
namespace Go.Proofs.YtibnobdbmojjhaaGreatDoor.Pg
open Go.RowKit Base Txt Mem Par

/-- A parser, that goes on or has failed, by its blocks. -/
def At (w : World) (B g : Nat) (p : Nat) (b : Bd) (L : List (Option Nat)) : Q → Prop
  | .live s => ∃ q v f bd t o, L = blks g q v f bd t o ∧ PR w B g q v f bd t o p b s
  | .dead e out => ∃ o, L = [some g, o.ownBlock] ∧ Dead w B g e o out
theorem ba_list (l : List UInt8) : (ba l).data.toList = l := rfl
section
variable {w w' : World} {B g q : Nat} {v f bd t o : Value} {p : Nat} {rd : Ln.M} {fs ts : List Fld} {body : List UInt8} {out : List Rec.R}
/-- Its line has gone on. -/
theorem Own.reader (h : Own w B g q v f bd t o rd fs body ts out) {v' : Value} {rd' : Ln.M} (hk : Ln.Kept q v.ownBlock w w') (hm : Ln.Moved w v.ownBlock v'.ownBlock) (hr : Ln.Rd w' B q v' rd') :
    Own w' B g q v' f bd t o rd' fs body ts out ∧ Step (blks g q v f bd t o) (blks g q v' f bd t o) w w' ∧ Keeps [some q, v.ownBlock] w w' := by
  have hk2 : Keeps [some q, v.ownBlock] w w' := Keeps.of_kept hk (by simp) fun k e => by simp [e]
  have hn : ∀ i j, i ≠ 1 → i ≠ 2 → (blks g q v f bd t o)[i]? = some (some j) → some j ∉ [some q, v.ownBlock] := fun i j h1 h2 hj hm => by
    rcases (by simpa using hm : j = q ∨ some j = v.ownBlock) with e | e
    · exact h1 (h.lone i 1 j hj (by rw [e]; rfl))
    · exact h2 (h.lone i 2 j hj (by rw [e]; rfl))
  have e : blks g q v' f bd t o = (blks g q v f bd t o).set 2 v'.ownBlock := rfl
  have ho : v'.ownBlock = none ∨ (blks g q v f bd t o)[2]? = some v'.ownBlock ∨ ∃ k, v'.ownBlock = some k ∧ w.heap.size ≤ k := by
    rcases hm with e | e | e
    · exact .inr (.inl (by rw [e]; rfl))
    · exact .inl e
    · exact .inr (.inr e)
  have hof : Of w (blks g q v f bd t o) (blks g q v' f bd t o) := by rw [e]; exact Of.set 2 _ ho
  have hkL : Keeps (blks g q v f bd t o) w w' := hk2.mono fun k hk => by
    rcases (by simpa using hk : k = q ∨ some k = v.ownBlock) with e | e
    · simp [e]
    · simp [e]
  obtain ⟨ps, h1, h2, h3⟩ := h.O
  refine ⟨⟨hr, hk2.own h.F fun j e => hn 3 j (by decide) (by decide) (by rw [← e]; rfl), hk2.own h.D fun j e => hn 4 j (by decide) (by decide) (by rw [← e]; rfl), hk2.own h.TR fun j e => hn 5 j (by decide) (by decide) (by rw [← e]; rfl),
    ⟨ps, h1, fun x hx => ⟨(h2 x hx).1, by
      have hx2 := (h2 x hx).2.keeps hkL
      exact ⟨hx2.reads, fun k hb => ⟨fun hm => by
        rcases hof k hm with e | e
        · exact (hx2.far k hb).1 e
        · exact absurd ((h2 x hx).2.far k hb).2 (by omega), (hx2.far k hb).2⟩⟩⟩, hk2.own h3 fun j e => hn 6 j (by decide) (by decide) (by rw [← e]; rfl)⟩, ?_, h.ge, Nat.lt_of_lt_of_le h.lt hk2.size⟩, ⟨hkL, hof⟩, hk2⟩
  rw [e]
  exact h.lone.set h.in 2 _ ho
theorem PR.reader {b : Bd} {s : T} (h : PR w B g q v f bd t o p b s) {v' : Value} {rd' : Ln.M} (hk : Ln.Kept q v.ownBlock w w') (hm : Ln.Moved w v.ownBlock v'.ownBlock) (hr : Ln.Rd w' B q v' rd') :
    PR w' B g q v' f bd t o p b { s with rd := rd' } ∧ Step (blks g q v f bd t o) (blks g q v' f bd t o) w w' := by
  obtain ⟨h1, h2, h3⟩ := h.own.reader hk hm hr
  refine ⟨⟨h3.row h.row fun hm => ?_, h1⟩, h2⟩
  rcases (by simpa using hm : g = q ∨ some g = v.ownBlock) with e | e
  · exact absurd (h.own.lone 0 1 g rfl (by rw [e]; rfl)) (by decide)
  · exact absurd (h.own.lone 0 2 g rfl (by rw [e]; rfl)) (by decide)
end
section code
set_option maxHeartbeats 4000000
set_option maxRecDepth 20000
attribute [local go_sem] Base.some_undef
variable {w : World} {B g q : Nat} {v f bd t o : Value} {p : Nat} {b : Bd} {s : T}
/-- Its line goes on by a byte. -/
theorem reader_any (c : UInt8) (hm : s.rd.Ok) (h : PR w B g q v f bd t o p b s) : Calls Tryz.prog 103 #[ptr q, .int .u8 (c.toNat : Int)] w fun r w' =>
    ∃ v1, r = .returned (.int .i64 (s.rd.clear.next c)) ∧ PR w' B g q v1 f bd t o p b { s with rd := s.rd.byte c } ∧ Step (blks g q v f bd t o) (blks g q v1 f bd t o) w w' := by
  refine (Ln.byte_any c s.rd hm w B q v h.own.R).mono ?_
  rintro r w' ⟨v1, rfl, h1, h2, h3⟩
  obtain ⟨h4, h5⟩ := h.reader h2 h3 h1
  exact ⟨v1, rfl, h4, h5⟩
theorem inLine_any (hp : p < 4294967296) (hb0 : b.right = true) (c : UInt8) (h : PR w B g q v f bd t o p b s) (ok : s.Ok) (hout : s.out.length ≤ 1000000000) : Calls Tryz.prog 87 #[ptr g, .int .u8 (c.toNat : Int)] w fun r w' =>
    r = .returned (.bool (s.inLine p b c).2) ∧ ∃ L1, At w' B g p b L1 (s.inLine p b c).1 ∧ Step (blks g q v f bd t o) L1 w w' := by
  have hby := reader_any c ok.rd h
  rcases Ln.M.next_is s.rd.clear c with hhow | hhow | hhow | hhow | hhow
  · have HBY := Lib.hid (show Calls Tryz.prog 103 #[ptr q, .int .u8 (c.toNat : Int)] w fun r w' => ∃ v1, r = .returned (.int .i64 0) ∧ PR w' B g q v1 f bd t o p b { s with rd := s.rd.byte c } ∧ Step (blks g q v f bd t o) (blks g q v1 f bd t o) w w' from by rw [← hhow]; exact hby)
    have e0 : s.inLine p b c = (.live { s with rd := s.rd.byte c }, true) := by
      unfold T.inLine
      dsimp only
      rw [hhow, if_pos rfl]
    rw [e0]
    have c25 := h.cs.c25
    clear h hby ok hout e0 hhow
    go_enter Tryz.func87, Tryz.ntmps87
    go_wp2_with
      (go_at_call 103; with_reducible refine HBY.out.mono ?_; rintro r w2 ⟨v1, rfl, h2, hS2⟩
       have HP := Lib.hid h2; have HS := Lib.hid hS2
       clear h2 hS2 c25)
    go_ret
    exact ⟨rfl, _, ⟨_, _, _, _, _, _, rfl, HP.out⟩, HS.out⟩
  · have HBY := Lib.hid (show Calls Tryz.prog 103 #[ptr q, .int .u8 (c.toNat : Int)] w fun r w' => ∃ v1, r = .returned (.int .i64 1) ∧ PR w' B g q v1 f bd t o p b { s with rd := s.rd.byte c } ∧ Step (blks g q v f bd t o) (blks g q v1 f bd t o) w w' from by rw [← hhow]; exact hby)
    have ok2 : ({ s with rd := s.rd.byte c } : T).Ok := ok.byteR c (by rw [hhow]; rfl)
    have hln := line_len ok c
    obtain ⟨ln, hl⟩ : ∃ ln, (s.rd.byte c).line = ln := ⟨_, rfl⟩
    rw [hl] at hln
    obtain ⟨⟨e, t2⟩, hx⟩ : ∃ x, T.line p b { s with rd := s.rd.byte c } ln = x := ⟨_, rfl⟩
    have e0 : s.inLine p b c = (ends (e, t2), true) := by
      unfold T.inLine
      dsimp only
      rw [hhow, if_neg (by decide), if_neg (by decide), if_neg (by decide), hl, hx]
      rfl
    rw [e0]
    have HEN := Lib.hid (fun (w2 : World) (v1 : Value) (h2 : PR w2 B g q v1 f bd t o p b { s with rd := s.rd.byte c }) => endLine_any hp hb0 (ba ln) (by rw [size_ba]; exact hln) h2 ok2 hout)
    have HLI := Lib.hid (fun (w2 : World) (v1 : Value) (h2 : PR w2 B g q v1 f bd t o p b { s with rd := s.rd.byte c }) => Ln.line_any h2.own.R.row h2.own.R.own)
    have HLN := Lib.hid hl; have HX := Lib.hid hx
    have c25 := h.cs.c25
    clear h hby ok2 hln hl hx e0 hhow ok
    rcases Nat.eq_zero_or_pos e with he | he
    · subst he
      go_enter Tryz.func87, Tryz.ntmps87
      go_wp2_with (first
        | (go_at_call 86; with_reducible refine (HFZ.out).mono ?_; rintro r w5 ⟨rfl, hw⟩; rw [hw]; clear hw)
        | (go_at_call 104; with_reducible refine HEN2.out.mono ?_; rintro r w4 ⟨rfl, q1, v2, f1, bd1, t1, o1, hP, hS⟩
           have HP := Lib.hid hP; have HS := Lib.hid (HS2.out.trans hS); have HFZ := Lib.hid (fail_zero w4 g)
           clear hP hS)
        | (go_at_call 105; with_reducible refine HLI2.out.mono ?_; rintro r w3 ⟨rfl, hw⟩; rw [hw]; clear hw)
        | (go_at_call 103; with_reducible refine HBY.out.mono ?_; rintro r w2 ⟨v1, rfl, h2, hS2⟩
           have d25 := h2.cs.c25
           have HS2 := Lib.hid hS2
           have HEN2 := HEN.out w2 v1 h2; have HLI2 := HLI.out w2 v1 h2
           replace HEN2 := Lib.hid (show Calls Tryz.prog 104 #[ptr g, .string (Ln.ba ln)] w2 fun r w' => r = .returned (.int .i64 0) ∧ ∃ q1 v2 f1 bd1 t1 o1, PR w' B g q1 v2 f1 bd1 t1 o1 p b t2 ∧ Step (blks g q v1 f bd t o) (blks g q1 v2 f1 bd1 t1 o1) w2 w' from by rw [ba_list, HX.out] at HEN2; exact HEN2)
           rw [HLN.out] at HLI2
           replace HLI2 := Lib.hid HLI2
           clear h2 hS2 c25))
      go_ret
      exact ⟨rfl, _, ⟨_, _, _, _, _, _, rfl, HP.out⟩, HS.out⟩
    · have hne : e ≠ 0 := by omega
      have e1 : ends (e, t2) = .dead e t2.out := by unfold ends; rw [if_neg hne]
      rw [e1]
      have HNE := Lib.hid hne
      clear he hne e1
      go_enter Tryz.func87, Tryz.ntmps87
      go_wp2_with (first
        | (go_at_call 86; with_reducible refine HFA.out.mono ?_; rintro r w5 ⟨rfl, hD, hS5⟩)
        | (go_at_call 104; with_reducible refine HEN2.out.mono ?_; rintro r w4 ⟨rfl, q1, v2, f1, bd1, t1, o1, hP, hS⟩
           have HS := Lib.hid (HS2.out.trans hS); have HFA := Lib.hid (fail_any hP e HNE.out _ rfl)
           clear hP hS)
        | (go_at_call 105; with_reducible refine HLI2.out.mono ?_; rintro r w3 ⟨rfl, hw⟩; rw [hw]; clear hw)
        | (go_at_call 103; with_reducible refine HBY.out.mono ?_; rintro r w2 ⟨v1, rfl, h2, hS2⟩
           have d25 := h2.cs.c25
           have HS2 := Lib.hid hS2
           have HEN2 := HEN.out w2 v1 h2; have HLI2 := HLI.out w2 v1 h2
           replace HEN2 := Lib.hid (show Calls Tryz.prog 104 #[ptr g, .string (Ln.ba ln)] w2 fun r w' => r = .returned (.int .i64 (e : Int)) ∧ ∃ q1 v2 f1 bd1 t1 o1, PR w' B g q1 v2 f1 bd1 t1 o1 p b t2 ∧ Step (blks g q v1 f bd t o) (blks g q1 v2 f1 bd1 t1 o1) w2 w' from by rw [ba_list, HX.out] at HEN2; exact HEN2)
           rw [HLN.out] at HLI2
           replace HLI2 := Lib.hid HLI2
           clear h2 hS2 c25))
      go_ret
      exact ⟨rfl, _, ⟨_, rfl, hD⟩, HS.out.trans hS5⟩
  · have HBY := Lib.hid (show Calls Tryz.prog 103 #[ptr q, .int .u8 (c.toNat : Int)] w fun r w' => ∃ v1, r = .returned (.int .i64 2) ∧ PR w' B g q v1 f bd t o p b { s with rd := s.rd.byte c } ∧ Step (blks g q v f bd t o) (blks g q v1 f bd t o) w w' from by rw [← hhow]; exact hby)
    have ok2 : ({ s with rd := s.rd.byte c } : T).Ok := ok.byteR c (by rw [hhow]; rfl)
    have hln := line_len ok c
    obtain ⟨ln, hl⟩ : ∃ ln, (s.rd.byte c).line = ln := ⟨_, rfl⟩
    rw [hl] at hln
    obtain ⟨⟨e, t2⟩, hx⟩ : ∃ x, T.line p b { s with rd := s.rd.byte c } ln = x := ⟨_, rfl⟩
    have e0 : s.inLine p b c = (ends (e, t2), false) := by
      unfold T.inLine
      dsimp only
      rw [hhow, if_neg (by decide), if_neg (by decide), if_neg (by decide), hl, hx]
      rfl
    rw [e0]
    have HEN := Lib.hid (fun (w2 : World) (v1 : Value) (h2 : PR w2 B g q v1 f bd t o p b { s with rd := s.rd.byte c }) => endLine_any hp hb0 (ba ln) (by rw [size_ba]; exact hln) h2 ok2 hout)
    have HLI := Lib.hid (fun (w2 : World) (v1 : Value) (h2 : PR w2 B g q v1 f bd t o p b { s with rd := s.rd.byte c }) => Ln.line_any h2.own.R.row h2.own.R.own)
    have HLN := Lib.hid hl; have HX := Lib.hid hx
    have c25 := h.cs.c25
    clear h hby ok2 hln hl hx e0 hhow ok
    rcases Nat.eq_zero_or_pos e with he | he
    · subst he
      go_enter Tryz.func87, Tryz.ntmps87
      go_wp2_with (first
        | (go_at_call 86; with_reducible refine (HFZ.out).mono ?_; rintro r w5 ⟨rfl, hw⟩; rw [hw]; clear hw)
        | (go_at_call 104; with_reducible refine HEN2.out.mono ?_; rintro r w4 ⟨rfl, q1, v2, f1, bd1, t1, o1, hP, hS⟩
           have HP := Lib.hid hP; have HS := Lib.hid (HS2.out.trans hS); have HFZ := Lib.hid (fail_zero w4 g)
           clear hP hS)
        | (go_at_call 105; with_reducible refine HLI2.out.mono ?_; rintro r w3 ⟨rfl, hw⟩; rw [hw]; clear hw)
        | (go_at_call 103; with_reducible refine HBY.out.mono ?_; rintro r w2 ⟨v1, rfl, h2, hS2⟩
           have d25 := h2.cs.c25
           have HS2 := Lib.hid hS2
           have HEN2 := HEN.out w2 v1 h2; have HLI2 := HLI.out w2 v1 h2
           replace HEN2 := Lib.hid (show Calls Tryz.prog 104 #[ptr g, .string (Ln.ba ln)] w2 fun r w' => r = .returned (.int .i64 0) ∧ ∃ q1 v2 f1 bd1 t1 o1, PR w' B g q1 v2 f1 bd1 t1 o1 p b t2 ∧ Step (blks g q v1 f bd t o) (blks g q1 v2 f1 bd1 t1 o1) w2 w' from by rw [ba_list, HX.out] at HEN2; exact HEN2)
           rw [HLN.out] at HLI2
           replace HLI2 := Lib.hid HLI2
           clear h2 hS2 c25))
      go_ret
      exact ⟨rfl, _, ⟨_, _, _, _, _, _, rfl, HP.out⟩, HS.out⟩
    · have hne : e ≠ 0 := by omega
      have e1 : ends (e, t2) = .dead e t2.out := by unfold ends; rw [if_neg hne]
      rw [e1]
      have HNE := Lib.hid hne
      clear he hne e1
      go_enter Tryz.func87, Tryz.ntmps87
      go_wp2_with (first
        | (go_at_call 86; with_reducible refine HFA.out.mono ?_; rintro r w5 ⟨rfl, hD, hS5⟩)
        | (go_at_call 104; with_reducible refine HEN2.out.mono ?_; rintro r w4 ⟨rfl, q1, v2, f1, bd1, t1, o1, hP, hS⟩
           have HS := Lib.hid (HS2.out.trans hS); have HFA := Lib.hid (fail_any hP e HNE.out _ rfl)
           clear hP hS)
        | (go_at_call 105; with_reducible refine HLI2.out.mono ?_; rintro r w3 ⟨rfl, hw⟩; rw [hw]; clear hw)
        | (go_at_call 103; with_reducible refine HBY.out.mono ?_; rintro r w2 ⟨v1, rfl, h2, hS2⟩
           have d25 := h2.cs.c25
           have HS2 := Lib.hid hS2
           have HEN2 := HEN.out w2 v1 h2; have HLI2 := HLI.out w2 v1 h2
           replace HEN2 := Lib.hid (show Calls Tryz.prog 104 #[ptr g, .string (Ln.ba ln)] w2 fun r w' => r = .returned (.int .i64 (e : Int)) ∧ ∃ q1 v2 f1 bd1 t1 o1, PR w' B g q1 v2 f1 bd1 t1 o1 p b t2 ∧ Step (blks g q v1 f bd t o) (blks g q1 v2 f1 bd1 t1 o1) w2 w' from by rw [ba_list, HX.out] at HEN2; exact HEN2)
           rw [HLN.out] at HLI2
           replace HLI2 := Lib.hid HLI2
           clear h2 hS2 c25))
      go_ret
      exact ⟨rfl, _, ⟨_, rfl, hD⟩, HS.out.trans hS5⟩
  · have HBY := Lib.hid (show Calls Tryz.prog 103 #[ptr q, .int .u8 (c.toNat : Int)] w fun r w' => ∃ v1, r = .returned (.int .i64 3) ∧ PR w' B g q v1 f bd t o p b { s with rd := s.rd.byte c } ∧ Step (blks g q v f bd t o) (blks g q v1 f bd t o) w w' from by rw [← hhow]; exact hby)
    have e0 : s.inLine p b c = (.dead 400 s.out, true) := by
      unfold T.inLine
      dsimp only
      rw [hhow, if_neg (by decide), if_pos rfl]
    rw [e0]
    have c25 := h.cs.c25
    clear h hby ok hout e0 hhow
    go_enter Tryz.func87, Tryz.ntmps87
    go_wp2_with (first
      | (go_at_call 86; with_reducible refine HFA.out.mono ?_; rintro r w5 ⟨rfl, hD, hS5⟩)
      | (go_at_call 103; with_reducible refine HBY.out.mono ?_; rintro r w2 ⟨v1, rfl, h2, hS2⟩
         have HS2 := Lib.hid hS2; have HFA := Lib.hid (fail_any h2 400 (by decide) 400 rfl)
         clear h2 hS2 c25))
    go_ret
    exact ⟨rfl, _, ⟨_, rfl, hD⟩, HS2.out.trans hS5⟩
  · have HBY := Lib.hid (show Calls Tryz.prog 103 #[ptr q, .int .u8 (c.toNat : Int)] w fun r w' => ∃ v1, r = .returned (.int .i64 4) ∧ PR w' B g q v1 f bd t o p b { s with rd := s.rd.byte c } ∧ Step (blks g q v f bd t o) (blks g q v1 f bd t o) w w' from by rw [← hhow]; exact hby)
    have HH0 := fun w => Qk.has_any p hp 29 w
    have c25 := h.cs.c25
    have e0 : s.inLine p b c = (if (s.st == 6 && Qk.has p 29) = true then (.live (({ s with rd := s.rd.byte c } : T).enter p 4 b.x0), false) else (.dead (longE s.st) s.out, true)) := by
      unfold T.inLine
      dsimp only
      rw [hhow, if_neg (by decide), if_neg (by decide), if_pos rfl]
    rw [e0]
    have HEN := Lib.hid (fun (w2 : World) (v1 : Value) (h2 : PR w2 B g q v1 f bd t o p b { s with rd := s.rd.byte c }) => enter_any hp h2 4 4 rfl b.x0)
    have HTL := Lib.hid (fun (w2 : World) (v1 : Value) (h2 : PR w2 B g q v1 f bd t o p b { s with rd := s.rd.byte c }) => tooLong_any h2.cs.c24)
    have hlong : longE s.st ≠ 0 := by unfold longE; split <;> first | decide | (split <;> decide)
    have HLE := Lib.hid hlong
    clear h hby ok hout e0 hhow hlong
    by_cases h6 : s.st = 6
    · cases hh : Qk.has p 29 with
      | true =>
        rw [hh] at HH0
        have HH := Lib.hid HH0
        have H6 := Lib.hid h6
        rw [h6, if_pos (by decide)]
        clear HH0 hh h6
        go_enter Tryz.func87, Tryz.ntmps87
        go_wp2_with (first
          | (go_at_call 44; with_reducible refine HE2.out.mono ?_; rintro r w5 ⟨rfl, q1, hP, hS5⟩)
          | (go_at_call 82; with_reducible refine (HH.out _).mono ?_; rintro r w4 ⟨rfl, hw⟩; rw [hw]; clear hw)
          | (go_at_call 103; with_reducible refine HBY.out.mono ?_; rintro r w2 ⟨v1, rfl, h2, hS2⟩
             have HS2 := Lib.hid hS2; have HE2 := Lib.hid (HEN.out w2 v1 h2)
             have c24 : w2.cell? ⟨g, 24, none⟩ = some (.int .i64 6) := by have := h2.cs.c24; rw [show ({ s with rd := s.rd.byte c } : T).st = 6 from H6.out] at this; exact this
             have c13 := h2.cs.c13; have c14 := h2.cs.c14
             clear h2 hS2 c25))
        go_ret
        exact ⟨rfl, _, ⟨_, _, _, _, _, _, rfl, hP⟩, HS2.out.trans hS5⟩
      | false =>
        rw [hh] at HH0
        have HH := Lib.hid HH0
        have H6 := Lib.hid h6
        have e1 : (s.st == 6 && false) = false := Bool.and_false _
        rw [e1, if_neg (by decide)]
        clear HH0 hh h6 e1
        go_enter Tryz.func87, Tryz.ntmps87
        go_wp2_with (first
          | (go_at_call 86; with_reducible refine HFA.out.mono ?_; rintro r w5 ⟨rfl, hD, hS5⟩)
          | (go_at_call 106; with_reducible refine HT2.out.mono ?_; rintro r w4 ⟨rfl, hw⟩; rw [hw]; clear hw)
          | (go_at_call 82; with_reducible refine (HH.out _).mono ?_; rintro r w4 ⟨rfl, hw⟩; rw [hw]; clear hw)
          | (go_at_call 103; with_reducible refine HBY.out.mono ?_; rintro r w2 ⟨v1, rfl, h2, hS2⟩
             have HS2 := Lib.hid hS2; have HT2 := Lib.hid (HTL.out w2 v1 h2); have HFA := Lib.hid (fail_any h2 (longE s.st) HLE.out _ rfl)
             have c24 : w2.cell? ⟨g, 24, none⟩ = some (.int .i64 6) := by have := h2.cs.c24; rw [show ({ s with rd := s.rd.byte c } : T).st = 6 from H6.out] at this; exact this
             have c13 := h2.cs.c13
             clear h2 hS2 c25))
        go_ret
        exact ⟨rfl, _, ⟨_, rfl, hD⟩, HS2.out.trans hS5⟩
    · have t6 : ((s.st : Int) == 6) = false := beq_eq_false_iff_ne.2 (by omega)
      have m6 : ¬ (s.st : Int) = 6 := by omega
      have m6n : ¬ s.st = 6 := h6
      rw [beq_eq_false_iff_ne.2 h6, Bool.false_and, if_neg (by decide)]
      clear HH0 h6
      go_enter Tryz.func87, Tryz.ntmps87
      go_wp2_with (first
        | (go_at_call 86; with_reducible refine HFA.out.mono ?_; rintro r w5 ⟨rfl, hD, hS5⟩)
        | (go_at_call 106; with_reducible refine HT2.out.mono ?_; rintro r w4 ⟨rfl, hw⟩; rw [hw]; clear hw)
        | (go_at_call 103; with_reducible refine HBY.out.mono ?_; rintro r w2 ⟨v1, rfl, h2, hS2⟩
           have HS2 := Lib.hid hS2; have HT2 := Lib.hid (HTL.out w2 v1 h2); have HFA := Lib.hid (fail_any h2 (longE s.st) HLE.out _ rfl)
           have c24 : w2.cell? ⟨g, 24, none⟩ = some (.int .i64 (s.st : Int)) := h2.cs.c24
           clear h2 hS2 c25))
      go_ret
      exact ⟨rfl, _, ⟨_, rfl, hD⟩, HS2.out.trans hS5⟩
theorem look_any (hp : p < 4294967296) (hb0 : b.right = true) (c : UInt8) (h : PR w B g q v f bd t o p b s) (ok : s.Ok) (hout : s.out.length ≤ 1000000000) : Calls Tryz.prog 70 #[ptr g, .int .u8 (c.toNat : Int)] w fun r w' =>
    r = .returned (.bool (s.look p b c).2) ∧ ∃ L1, At w' B g p b L1 (s.look p b c).1 ∧ Step (blks g q v f bd t o) L1 w w' := by
  have H := Lib.hid h
  have c24 := h.cs.c24
  by_cases hbd : bodied s.st = true
  · have hl := ok.left hbd
    have hbl := ok.body
    have HK0 := keep_any c h ⟨hl, by omega⟩ (by omega)
    have HK9 := Lib.hid (fun (w2 : World) (bd1 : Value) (h2 : PR w2 B g q v f bd1 t o p b (s.keep c)) => endData_any hp h2 hout)
    have hst : s.st = 3 ∨ s.st = 5 := by
      unfold bodied at hbd
      simpa using hbd
    unfold T.look
    rw [if_pos hbd]
    clear h hb0 hbl hout ok hbd
    by_cases h1 : s.left = 1
    · rw [decide_eq_true h1] at HK0
      have HK := Lib.hid HK0
      rw [if_pos h1]
      clear HK0 h1 hl
      rcases hst with hst | hst
      · rw [hst] at c24
        clear hst
        go_enter Tryz.func70, Tryz.ntmps70
        go_wp2_with (first
          | (go_at_call 84; with_reducible refine HED.out.mono ?_; rintro r w5 ⟨rfl, q1, v1, f1, bd2, t1, o1, hP, hS5⟩)
          | (go_at_call 83; with_reducible refine HK.out.mono ?_; rintro r w4 ⟨rfl, bd1, h2, hS2⟩
             have HS2 := Lib.hid hS2; have HED := Lib.hid (HK9.out w4 bd1 h2)
             clear h2 hS2))
        go_ret
        exact ⟨rfl, _, ⟨_, _, _, _, _, _, rfl, hP⟩, HS2.out.trans hS5⟩
      · rw [hst] at c24
        clear hst
        go_enter Tryz.func70, Tryz.ntmps70
        go_wp2_with (first
          | (go_at_call 84; with_reducible refine HED.out.mono ?_; rintro r w5 ⟨rfl, q1, v1, f1, bd2, t1, o1, hP, hS5⟩)
          | (go_at_call 83; with_reducible refine HK.out.mono ?_; rintro r w4 ⟨rfl, bd1, h2, hS2⟩
             have HS2 := Lib.hid hS2; have HED := Lib.hid (HK9.out w4 bd1 h2)
             clear h2 hS2))
        go_ret
        exact ⟨rfl, _, ⟨_, _, _, _, _, _, rfl, hP⟩, HS2.out.trans hS5⟩
    · rw [decide_eq_false h1] at HK0
      have HK := Lib.hid HK0
      rw [if_neg h1]
      clear HK0 h1 hl
      rcases hst with hst | hst
      · rw [hst] at c24
        clear hst
        go_enter Tryz.func70, Tryz.ntmps70
        go_wp2_with (go_at_call 83; with_reducible refine HK.out.mono ?_; rintro r w4 ⟨rfl, bd1, h2, hS2⟩)
        go_ret
        exact ⟨rfl, _, ⟨_, _, _, _, _, _, rfl, h2⟩, hS2⟩
      · rw [hst] at c24
        clear hst
        go_enter Tryz.func70, Tryz.ntmps70
        go_wp2_with (go_at_call 83; with_reducible refine HK.out.mono ?_; rintro r w4 ⟨rfl, bd1, h2, hS2⟩)
        go_ret
        exact ⟨rfl, _, ⟨_, _, _, _, _, _, rfl, h2⟩, hS2⟩
  · have hbd : bodied s.st = false := by simpa using hbd
    unfold T.look
    rw [if_neg (by rw [hbd]; decide)]
    have hn : ¬ s.st = 3 ∧ ¬ s.st = 5 := by
      unfold bodied at hbd
      simpa using hbd
    by_cases hhd : headed s.st = true
    · rw [if_pos hhd]
      have hst : s.st = 1 ∨ s.st = 2 ∨ s.st = 7 := by
        unfold headed at hhd
        simp only [Bool.or_eq_true, beq_iff_eq] at hhd
        omega
      have hsz : s.size ≤ 1000000 := Nat.le_trans ok.size (by decide)
      have HQ := Lib.hid ((h.drew 1).bk)
      clear hhd hn
      by_cases hov : b.x2 < (s.counted.size : Int)
      · rw [if_pos hov]
        have HTR := Lib.hid (show (!decide (b.x2 < (s.counted.size : Int))) = false by rw [decide_eq_true hov]; rfl)
        clear hov h hbd hout hb0 ok
        rcases hst with hst | hst | hst
        · rw [hst] at c24
          go_enter Tryz.func70, Tryz.ntmps70
          go_upto_region 10 with fail
          refine Each.region 8 [23, 24, 25, 26, 27, 28, 29, 30]
              [fun v _ => v = .pointer (some ⟨g, 0, none⟩),
                fun v _ => v = .pointer (some ⟨g, 0, none⟩),
                fun v _ => v = .pointer (some ⟨g, 1, none⟩),
                fun v _ => v = .pointer (some ⟨g, 0, none⟩),
                fun v _ => v = .pointer (some ⟨g, 0, none⟩),
                fun v _ => v = .pointer (some ⟨g, 14, none⟩),
                fun v _ => v = .pointer (some ⟨g, 16, none⟩),
                fun v _ => v = .int .i64 b.x2]
              (.act 8 (.quiet 9 .done)) (by kernel_rfl) (by kernel_rfl) (by kernel_rfl) (by kernel_rfl) (fun _ _ d _ _ h => by cases d <;> exact h) (by rfl) (by rfl)
              ⟨Each.Lasts.eq _, Each.Lasts.eq _, Each.Lasts.eq _, Each.Lasts.eq _, Each.Lasts.eq _, Each.Lasts.eq _, Each.Lasts.eq _, Each.Lasts.eq _, trivial⟩ ?_ ?_
          · refine ⟨?_, ?_, ?_, ?_, ?_, ?_, ?_, ?_, trivial⟩
            · refine Each.fine rfl (fun ev w1 hR hb hh => ?_)
              clear hh
              have e0 := hR.old 0 rfl
              simp only [Array.getD_eq_getD_getElem?, List.getElem?_toArray, List.getElem?_cons_zero, Option.getD_some] at e0
              refine Each.Goes.same ?_
              go_simp
              try with_reducible rfl
            · refine Each.fine rfl (fun ev w1 hR hb hh => ?_)
              have e23 : (ev (.tmp 23) = .pointer (some ⟨g, 0, none⟩)) := hh.at 0
              clear hh
              refine Each.Goes.same ?_
              go_simp
              try with_reducible rfl
            · refine Each.fine rfl (fun ev w1 hR hb hh => ?_)
              have e24 : (ev (.tmp 24) = .pointer (some ⟨g, 0, none⟩)) := hh.at 0
              clear hh
              refine Each.Goes.same ?_
              go_simp
              try with_reducible rfl
            · refine Each.fine rfl (fun ev w1 hR hb hh => ?_)
              clear hh
              have e0 := hR.old 0 rfl
              simp only [Array.getD_eq_getD_getElem?, List.getElem?_toArray, List.getElem?_cons_zero, Option.getD_some] at e0
              refine Each.Goes.same ?_
              go_simp
              try with_reducible rfl
            · refine Each.fine rfl (fun ev w1 hR hb hh => ?_)
              have e26 : (ev (.tmp 26) = .pointer (some ⟨g, 0, none⟩)) := hh.at 0
              clear hh
              refine Each.Goes.same ?_
              go_simp
              try with_reducible rfl
            · refine Each.fine rfl (fun ev w1 hR hb hh => ?_)
              have e27 : (ev (.tmp 27) = .pointer (some ⟨g, 0, none⟩)) := hh.at 0
              clear hh
              refine Each.Goes.same ?_
              go_simp
              try with_reducible rfl
            · refine Each.fine rfl (fun ev w1 hR hb hh => ?_)
              have e28 : (ev (.tmp 28) = .pointer (some ⟨g, 14, none⟩)) := hh.at 0
              clear hh
              refine Each.Goes.same ?_
              go_simp
              try with_reducible rfl
            · refine Each.fine rfl (fun ev w1 hR hb hh => ?_)
              have e29 : (ev (.tmp 29) = .pointer (some ⟨g, 16, none⟩)) := hh.at 0
              clear hh
              have q16 := (HQ.out.below hb).c 16 _ rfl
              refine Each.Goes.same ?_
              go_simp
              try with_reducible rfl
          intro g1 w2 hb hf
          have z25 : (g1 25 = .pointer (some ⟨g, 1, none⟩)) := hf.at 2
          have z30 : (g1 30 = .int .i64 b.x2) := hf.at 7
          clear hf
          simp only [Each.putg, Act.put, List.setIfInBounds_toArray, List.set_cons_zero, List.set_cons_succ]
          rw [z25, z30]
          simp only [Tree.grow, Tree.put1, List.getElem?_cons_zero, List.getElem?_cons_succ]
          have HS1 := Lib.hid (Step.of_below hb (L := blks g q v f bd t o))
          have HFI := Lib.hid (count_any b.x2 (H.out.below hb) hsz)
          clear hb HQ
          rw [HTR.out] at HFI
          refine Tree.change (by rfl) (fun K hK => ?_)
          refine Each.oper_enter (g := 85) (args := #[.pointer (some ⟨g, 1, none⟩), .int .i64 b.x2]) (by go_simp) (HFI.out.mono ?_)
          rintro r w3 ⟨rfl, hP, hS⟩
          refine ⟨_, rfl, ?_⟩
          refine hK _ _ trivial ?_
          clear hK K
          simp only [Act.put, List.setIfInBounds_toArray, List.set_cons_zero, List.set_cons_succ]
          refine Tree.quiet (by rfl) (.bool true) (fun _ _ => by go_simp) ?_
          simp only [Act.put, List.setIfInBounds_toArray, List.set_cons_zero, List.set_cons_succ]
          refine Tree.done ?_
          have HP2 := Lib.hid hP; have HS2 := Lib.hid (HS1.out.trans hS)
          clear HFI HS1 hS
          have HF := Lib.hid (fail_any hP 431 (by decide) 431 rfl)
          clear hP
          go_wp2_with (go_at_call 86; with_reducible refine HF.out.mono ?_; rintro r w4 ⟨rfl, hD, hS4⟩)
          go_ret
          exact ⟨rfl, _, ⟨_, rfl, by rw [counted_out] at hD; exact hD⟩, HS2.out.trans hS4⟩
        · rw [hst] at c24
          go_enter Tryz.func70, Tryz.ntmps70
          go_upto_region 10 with fail
          refine Each.region 8 [23, 24, 25, 26, 27, 28, 29, 30]
              [fun v _ => v = .pointer (some ⟨g, 0, none⟩),
                fun v _ => v = .pointer (some ⟨g, 0, none⟩),
                fun v _ => v = .pointer (some ⟨g, 1, none⟩),
                fun v _ => v = .pointer (some ⟨g, 0, none⟩),
                fun v _ => v = .pointer (some ⟨g, 0, none⟩),
                fun v _ => v = .pointer (some ⟨g, 14, none⟩),
                fun v _ => v = .pointer (some ⟨g, 16, none⟩),
                fun v _ => v = .int .i64 b.x2]
              (.act 8 (.quiet 9 .done)) (by kernel_rfl) (by kernel_rfl) (by kernel_rfl) (by kernel_rfl) (fun _ _ d _ _ h => by cases d <;> exact h) (by rfl) (by rfl)
              ⟨Each.Lasts.eq _, Each.Lasts.eq _, Each.Lasts.eq _, Each.Lasts.eq _, Each.Lasts.eq _, Each.Lasts.eq _, Each.Lasts.eq _, Each.Lasts.eq _, trivial⟩ ?_ ?_
          · refine ⟨?_, ?_, ?_, ?_, ?_, ?_, ?_, ?_, trivial⟩
            · refine Each.fine rfl (fun ev w1 hR hb hh => ?_)
              clear hh
              have e0 := hR.old 0 rfl
              simp only [Array.getD_eq_getD_getElem?, List.getElem?_toArray, List.getElem?_cons_zero, Option.getD_some] at e0
              refine Each.Goes.same ?_
              go_simp
              try with_reducible rfl
            · refine Each.fine rfl (fun ev w1 hR hb hh => ?_)
              have e23 : (ev (.tmp 23) = .pointer (some ⟨g, 0, none⟩)) := hh.at 0
              clear hh
              refine Each.Goes.same ?_
              go_simp
              try with_reducible rfl
            · refine Each.fine rfl (fun ev w1 hR hb hh => ?_)
              have e24 : (ev (.tmp 24) = .pointer (some ⟨g, 0, none⟩)) := hh.at 0
              clear hh
              refine Each.Goes.same ?_
              go_simp
              try with_reducible rfl
            · refine Each.fine rfl (fun ev w1 hR hb hh => ?_)
              clear hh
              have e0 := hR.old 0 rfl
              simp only [Array.getD_eq_getD_getElem?, List.getElem?_toArray, List.getElem?_cons_zero, Option.getD_some] at e0
              refine Each.Goes.same ?_
              go_simp
              try with_reducible rfl
            · refine Each.fine rfl (fun ev w1 hR hb hh => ?_)
              have e26 : (ev (.tmp 26) = .pointer (some ⟨g, 0, none⟩)) := hh.at 0
              clear hh
              refine Each.Goes.same ?_
              go_simp
              try with_reducible rfl
            · refine Each.fine rfl (fun ev w1 hR hb hh => ?_)
              have e27 : (ev (.tmp 27) = .pointer (some ⟨g, 0, none⟩)) := hh.at 0
              clear hh
              refine Each.Goes.same ?_
              go_simp
              try with_reducible rfl
            · refine Each.fine rfl (fun ev w1 hR hb hh => ?_)
              have e28 : (ev (.tmp 28) = .pointer (some ⟨g, 14, none⟩)) := hh.at 0
              clear hh
              refine Each.Goes.same ?_
              go_simp
              try with_reducible rfl
            · refine Each.fine rfl (fun ev w1 hR hb hh => ?_)
              have e29 : (ev (.tmp 29) = .pointer (some ⟨g, 16, none⟩)) := hh.at 0
              clear hh
              have q16 := (HQ.out.below hb).c 16 _ rfl
              refine Each.Goes.same ?_
              go_simp
              try with_reducible rfl
          intro g1 w2 hb hf
          have z25 : (g1 25 = .pointer (some ⟨g, 1, none⟩)) := hf.at 2
          have z30 : (g1 30 = .int .i64 b.x2) := hf.at 7
          clear hf
          simp only [Each.putg, Act.put, List.setIfInBounds_toArray, List.set_cons_zero, List.set_cons_succ]
          rw [z25, z30]
          simp only [Tree.grow, Tree.put1, List.getElem?_cons_zero, List.getElem?_cons_succ]
          have HS1 := Lib.hid (Step.of_below hb (L := blks g q v f bd t o))
          have HFI := Lib.hid (count_any b.x2 (H.out.below hb) hsz)
          clear hb HQ
          rw [HTR.out] at HFI
          refine Tree.change (by rfl) (fun K hK => ?_)
          refine Each.oper_enter (g := 85) (args := #[.pointer (some ⟨g, 1, none⟩), .int .i64 b.x2]) (by go_simp) (HFI.out.mono ?_)
          rintro r w3 ⟨rfl, hP, hS⟩
          refine ⟨_, rfl, ?_⟩
          refine hK _ _ trivial ?_
          clear hK K
          simp only [Act.put, List.setIfInBounds_toArray, List.set_cons_zero, List.set_cons_succ]
          refine Tree.quiet (by rfl) (.bool true) (fun _ _ => by go_simp) ?_
          simp only [Act.put, List.setIfInBounds_toArray, List.set_cons_zero, List.set_cons_succ]
          refine Tree.done ?_
          have HP2 := Lib.hid hP; have HS2 := Lib.hid (HS1.out.trans hS)
          clear HFI HS1 hS
          have HF := Lib.hid (fail_any hP 431 (by decide) 431 rfl)
          clear hP
          go_wp2_with (go_at_call 86; with_reducible refine HF.out.mono ?_; rintro r w4 ⟨rfl, hD, hS4⟩)
          go_ret
          exact ⟨rfl, _, ⟨_, rfl, by rw [counted_out] at hD; exact hD⟩, HS2.out.trans hS4⟩
        · rw [hst] at c24
          go_enter Tryz.func70, Tryz.ntmps70
          go_upto_region 10 with fail
          refine Each.region 8 [23, 24, 25, 26, 27, 28, 29, 30]
              [fun v _ => v = .pointer (some ⟨g, 0, none⟩),
                fun v _ => v = .pointer (some ⟨g, 0, none⟩),
                fun v _ => v = .pointer (some ⟨g, 1, none⟩),
                fun v _ => v = .pointer (some ⟨g, 0, none⟩),
                fun v _ => v = .pointer (some ⟨g, 0, none⟩),
                fun v _ => v = .pointer (some ⟨g, 14, none⟩),
                fun v _ => v = .pointer (some ⟨g, 16, none⟩),
                fun v _ => v = .int .i64 b.x2]
              (.act 8 (.quiet 9 .done)) (by kernel_rfl) (by kernel_rfl) (by kernel_rfl) (by kernel_rfl) (fun _ _ d _ _ h => by cases d <;> exact h) (by rfl) (by rfl)
              ⟨Each.Lasts.eq _, Each.Lasts.eq _, Each.Lasts.eq _, Each.Lasts.eq _, Each.Lasts.eq _, Each.Lasts.eq _, Each.Lasts.eq _, Each.Lasts.eq _, trivial⟩ ?_ ?_
          · refine ⟨?_, ?_, ?_, ?_, ?_, ?_, ?_, ?_, trivial⟩
            · refine Each.fine rfl (fun ev w1 hR hb hh => ?_)
              clear hh
              have e0 := hR.old 0 rfl
              simp only [Array.getD_eq_getD_getElem?, List.getElem?_toArray, List.getElem?_cons_zero, Option.getD_some] at e0
              refine Each.Goes.same ?_
              go_simp
              try with_reducible rfl
            · refine Each.fine rfl (fun ev w1 hR hb hh => ?_)
              have e23 : (ev (.tmp 23) = .pointer (some ⟨g, 0, none⟩)) := hh.at 0
              clear hh
              refine Each.Goes.same ?_
              go_simp
              try with_reducible rfl
            · refine Each.fine rfl (fun ev w1 hR hb hh => ?_)
              have e24 : (ev (.tmp 24) = .pointer (some ⟨g, 0, none⟩)) := hh.at 0
              clear hh
              refine Each.Goes.same ?_
              go_simp
              try with_reducible rfl
            · refine Each.fine rfl (fun ev w1 hR hb hh => ?_)
              clear hh
              have e0 := hR.old 0 rfl
              simp only [Array.getD_eq_getD_getElem?, List.getElem?_toArray, List.getElem?_cons_zero, Option.getD_some] at e0
              refine Each.Goes.same ?_
              go_simp
              try with_reducible rfl
            · refine Each.fine rfl (fun ev w1 hR hb hh => ?_)
              have e26 : (ev (.tmp 26) = .pointer (some ⟨g, 0, none⟩)) := hh.at 0
              clear hh
              refine Each.Goes.same ?_
              go_simp
              try with_reducible rfl
            · refine Each.fine rfl (fun ev w1 hR hb hh => ?_)
              have e27 : (ev (.tmp 27) = .pointer (some ⟨g, 0, none⟩)) := hh.at 0
              clear hh
              refine Each.Goes.same ?_
              go_simp
              try with_reducible rfl
            · refine Each.fine rfl (fun ev w1 hR hb hh => ?_)
              have e28 : (ev (.tmp 28) = .pointer (some ⟨g, 14, none⟩)) := hh.at 0
              clear hh
              refine Each.Goes.same ?_
              go_simp
              try with_reducible rfl
            · refine Each.fine rfl (fun ev w1 hR hb hh => ?_)
              have e29 : (ev (.tmp 29) = .pointer (some ⟨g, 16, none⟩)) := hh.at 0
              clear hh
              have q16 := (HQ.out.below hb).c 16 _ rfl
              refine Each.Goes.same ?_
              go_simp
              try with_reducible rfl
          intro g1 w2 hb hf
          have z25 : (g1 25 = .pointer (some ⟨g, 1, none⟩)) := hf.at 2
          have z30 : (g1 30 = .int .i64 b.x2) := hf.at 7
          clear hf
          simp only [Each.putg, Act.put, List.setIfInBounds_toArray, List.set_cons_zero, List.set_cons_succ]
          rw [z25, z30]
          simp only [Tree.grow, Tree.put1, List.getElem?_cons_zero, List.getElem?_cons_succ]
          have HS1 := Lib.hid (Step.of_below hb (L := blks g q v f bd t o))
          have HFI := Lib.hid (count_any b.x2 (H.out.below hb) hsz)
          clear hb HQ
          rw [HTR.out] at HFI
          refine Tree.change (by rfl) (fun K hK => ?_)
          refine Each.oper_enter (g := 85) (args := #[.pointer (some ⟨g, 1, none⟩), .int .i64 b.x2]) (by go_simp) (HFI.out.mono ?_)
          rintro r w3 ⟨rfl, hP, hS⟩
          refine ⟨_, rfl, ?_⟩
          refine hK _ _ trivial ?_
          clear hK K
          simp only [Act.put, List.setIfInBounds_toArray, List.set_cons_zero, List.set_cons_succ]
          refine Tree.quiet (by rfl) (.bool true) (fun _ _ => by go_simp) ?_
          simp only [Act.put, List.setIfInBounds_toArray, List.set_cons_zero, List.set_cons_succ]
          refine Tree.done ?_
          have HP2 := Lib.hid hP; have HS2 := Lib.hid (HS1.out.trans hS)
          clear HFI HS1 hS
          have HF := Lib.hid (fail_any hP 431 (by decide) 431 rfl)
          clear hP
          go_wp2_with (go_at_call 86; with_reducible refine HF.out.mono ?_; rintro r w4 ⟨rfl, hD, hS4⟩)
          go_ret
          exact ⟨rfl, _, ⟨_, rfl, by rw [counted_out] at hD; exact hD⟩, HS2.out.trans hS4⟩
      · rw [if_neg hov]
        have HTR := Lib.hid (show (!decide (b.x2 < (s.counted.size : Int))) = true by rw [decide_eq_false hov]; rfl)
        clear h hbd
        rcases hst with hst | hst | hst
        · rw [hst] at c24
          go_enter Tryz.func70, Tryz.ntmps70
          go_upto_region 10 with fail
          refine Each.region 8 [23, 24, 25, 26, 27, 28, 29, 30]
              [fun v _ => v = .pointer (some ⟨g, 0, none⟩),
                fun v _ => v = .pointer (some ⟨g, 0, none⟩),
                fun v _ => v = .pointer (some ⟨g, 1, none⟩),
                fun v _ => v = .pointer (some ⟨g, 0, none⟩),
                fun v _ => v = .pointer (some ⟨g, 0, none⟩),
                fun v _ => v = .pointer (some ⟨g, 14, none⟩),
                fun v _ => v = .pointer (some ⟨g, 16, none⟩),
                fun v _ => v = .int .i64 b.x2]
              (.act 8 (.quiet 9 .done)) (by kernel_rfl) (by kernel_rfl) (by kernel_rfl) (by kernel_rfl) (fun _ _ d _ _ h => by cases d <;> exact h) (by rfl) (by rfl)
              ⟨Each.Lasts.eq _, Each.Lasts.eq _, Each.Lasts.eq _, Each.Lasts.eq _, Each.Lasts.eq _, Each.Lasts.eq _, Each.Lasts.eq _, Each.Lasts.eq _, trivial⟩ ?_ ?_
          · refine ⟨?_, ?_, ?_, ?_, ?_, ?_, ?_, ?_, trivial⟩
            · refine Each.fine rfl (fun ev w1 hR hb hh => ?_)
              clear hh
              have e0 := hR.old 0 rfl
              simp only [Array.getD_eq_getD_getElem?, List.getElem?_toArray, List.getElem?_cons_zero, Option.getD_some] at e0
              refine Each.Goes.same ?_
              go_simp
              try with_reducible rfl
            · refine Each.fine rfl (fun ev w1 hR hb hh => ?_)
              have e23 : (ev (.tmp 23) = .pointer (some ⟨g, 0, none⟩)) := hh.at 0
              clear hh
              refine Each.Goes.same ?_
              go_simp
              try with_reducible rfl
            · refine Each.fine rfl (fun ev w1 hR hb hh => ?_)
              have e24 : (ev (.tmp 24) = .pointer (some ⟨g, 0, none⟩)) := hh.at 0
              clear hh
              refine Each.Goes.same ?_
              go_simp
              try with_reducible rfl
            · refine Each.fine rfl (fun ev w1 hR hb hh => ?_)
              clear hh
              have e0 := hR.old 0 rfl
              simp only [Array.getD_eq_getD_getElem?, List.getElem?_toArray, List.getElem?_cons_zero, Option.getD_some] at e0
              refine Each.Goes.same ?_
              go_simp
              try with_reducible rfl
            · refine Each.fine rfl (fun ev w1 hR hb hh => ?_)
              have e26 : (ev (.tmp 26) = .pointer (some ⟨g, 0, none⟩)) := hh.at 0
              clear hh
              refine Each.Goes.same ?_
              go_simp
              try with_reducible rfl
            · refine Each.fine rfl (fun ev w1 hR hb hh => ?_)
              have e27 : (ev (.tmp 27) = .pointer (some ⟨g, 0, none⟩)) := hh.at 0
              clear hh
              refine Each.Goes.same ?_
              go_simp
              try with_reducible rfl
            · refine Each.fine rfl (fun ev w1 hR hb hh => ?_)
              have e28 : (ev (.tmp 28) = .pointer (some ⟨g, 14, none⟩)) := hh.at 0
              clear hh
              refine Each.Goes.same ?_
              go_simp
              try with_reducible rfl
            · refine Each.fine rfl (fun ev w1 hR hb hh => ?_)
              have e29 : (ev (.tmp 29) = .pointer (some ⟨g, 16, none⟩)) := hh.at 0
              clear hh
              have q16 := (HQ.out.below hb).c 16 _ rfl
              refine Each.Goes.same ?_
              go_simp
              try with_reducible rfl
          intro g1 w2 hb hf
          have z25 : (g1 25 = .pointer (some ⟨g, 1, none⟩)) := hf.at 2
          have z30 : (g1 30 = .int .i64 b.x2) := hf.at 7
          clear hf
          simp only [Each.putg, Act.put, List.setIfInBounds_toArray, List.set_cons_zero, List.set_cons_succ]
          rw [z25, z30]
          simp only [Tree.grow, Tree.put1, List.getElem?_cons_zero, List.getElem?_cons_succ]
          have HS1 := Lib.hid (Step.of_below hb (L := blks g q v f bd t o))
          have HFI := Lib.hid (count_any b.x2 (H.out.below hb) hsz)
          clear hb HQ
          rw [HTR.out] at HFI
          refine Tree.change (by rfl) (fun K hK => ?_)
          refine Each.oper_enter (g := 85) (args := #[.pointer (some ⟨g, 1, none⟩), .int .i64 b.x2]) (by go_simp) (HFI.out.mono ?_)
          rintro r w3 ⟨rfl, hP, hS⟩
          refine ⟨_, rfl, ?_⟩
          refine hK _ _ trivial ?_
          clear hK K
          simp only [Act.put, List.setIfInBounds_toArray, List.set_cons_zero, List.set_cons_succ]
          refine Tree.quiet (by rfl) (.bool false) (fun _ _ => by go_simp) ?_
          simp only [Act.put, List.setIfInBounds_toArray, List.set_cons_zero, List.set_cons_succ]
          refine Tree.done ?_
          have HP2 := Lib.hid hP; have HS2 := Lib.hid (HS1.out.trans hS)
          clear HFI HS1 hS
          have HI := Lib.hid (inLine_any hp hb0 c hP (ok.counted hb0 hov) (by rw [counted_out]; exact hout))
          clear hP
          go_wp2_with (go_at_call 87; with_reducible refine HI.out.mono ?_; rintro r w4 ⟨rfl, L4, hA, hS4⟩)
          go_ret
          exact ⟨rfl, L4, hA, HS2.out.trans hS4⟩
        · rw [hst] at c24
          go_enter Tryz.func70, Tryz.ntmps70
          go_upto_region 10 with fail
          refine Each.region 8 [23, 24, 25, 26, 27, 28, 29, 30]
              [fun v _ => v = .pointer (some ⟨g, 0, none⟩),
                fun v _ => v = .pointer (some ⟨g, 0, none⟩),
                fun v _ => v = .pointer (some ⟨g, 1, none⟩),
                fun v _ => v = .pointer (some ⟨g, 0, none⟩),
                fun v _ => v = .pointer (some ⟨g, 0, none⟩),
                fun v _ => v = .pointer (some ⟨g, 14, none⟩),
                fun v _ => v = .pointer (some ⟨g, 16, none⟩),
                fun v _ => v = .int .i64 b.x2]
              (.act 8 (.quiet 9 .done)) (by kernel_rfl) (by kernel_rfl) (by kernel_rfl) (by kernel_rfl) (fun _ _ d _ _ h => by cases d <;> exact h) (by rfl) (by rfl)
              ⟨Each.Lasts.eq _, Each.Lasts.eq _, Each.Lasts.eq _, Each.Lasts.eq _, Each.Lasts.eq _, Each.Lasts.eq _, Each.Lasts.eq _, Each.Lasts.eq _, trivial⟩ ?_ ?_
          · refine ⟨?_, ?_, ?_, ?_, ?_, ?_, ?_, ?_, trivial⟩
            · refine Each.fine rfl (fun ev w1 hR hb hh => ?_)
              clear hh
              have e0 := hR.old 0 rfl
              simp only [Array.getD_eq_getD_getElem?, List.getElem?_toArray, List.getElem?_cons_zero, Option.getD_some] at e0
              refine Each.Goes.same ?_
              go_simp
              try with_reducible rfl
            · refine Each.fine rfl (fun ev w1 hR hb hh => ?_)
              have e23 : (ev (.tmp 23) = .pointer (some ⟨g, 0, none⟩)) := hh.at 0
              clear hh
              refine Each.Goes.same ?_
              go_simp
              try with_reducible rfl
            · refine Each.fine rfl (fun ev w1 hR hb hh => ?_)
              have e24 : (ev (.tmp 24) = .pointer (some ⟨g, 0, none⟩)) := hh.at 0
              clear hh
              refine Each.Goes.same ?_
              go_simp
              try with_reducible rfl
            · refine Each.fine rfl (fun ev w1 hR hb hh => ?_)
              clear hh
              have e0 := hR.old 0 rfl
              simp only [Array.getD_eq_getD_getElem?, List.getElem?_toArray, List.getElem?_cons_zero, Option.getD_some] at e0
              refine Each.Goes.same ?_
              go_simp
              try with_reducible rfl
            · refine Each.fine rfl (fun ev w1 hR hb hh => ?_)
              have e26 : (ev (.tmp 26) = .pointer (some ⟨g, 0, none⟩)) := hh.at 0
              clear hh
              refine Each.Goes.same ?_
              go_simp
              try with_reducible rfl
            · refine Each.fine rfl (fun ev w1 hR hb hh => ?_)
              have e27 : (ev (.tmp 27) = .pointer (some ⟨g, 0, none⟩)) := hh.at 0
              clear hh
              refine Each.Goes.same ?_
              go_simp
              try with_reducible rfl
            · refine Each.fine rfl (fun ev w1 hR hb hh => ?_)
              have e28 : (ev (.tmp 28) = .pointer (some ⟨g, 14, none⟩)) := hh.at 0
              clear hh
              refine Each.Goes.same ?_
              go_simp
              try with_reducible rfl
            · refine Each.fine rfl (fun ev w1 hR hb hh => ?_)
              have e29 : (ev (.tmp 29) = .pointer (some ⟨g, 16, none⟩)) := hh.at 0
              clear hh
              have q16 := (HQ.out.below hb).c 16 _ rfl
              refine Each.Goes.same ?_
              go_simp
              try with_reducible rfl
          intro g1 w2 hb hf
          have z25 : (g1 25 = .pointer (some ⟨g, 1, none⟩)) := hf.at 2
          have z30 : (g1 30 = .int .i64 b.x2) := hf.at 7
          clear hf
          simp only [Each.putg, Act.put, List.setIfInBounds_toArray, List.set_cons_zero, List.set_cons_succ]
          rw [z25, z30]
          simp only [Tree.grow, Tree.put1, List.getElem?_cons_zero, List.getElem?_cons_succ]
          have HS1 := Lib.hid (Step.of_below hb (L := blks g q v f bd t o))
          have HFI := Lib.hid (count_any b.x2 (H.out.below hb) hsz)
          clear hb HQ
          rw [HTR.out] at HFI
          refine Tree.change (by rfl) (fun K hK => ?_)
          refine Each.oper_enter (g := 85) (args := #[.pointer (some ⟨g, 1, none⟩), .int .i64 b.x2]) (by go_simp) (HFI.out.mono ?_)
          rintro r w3 ⟨rfl, hP, hS⟩
          refine ⟨_, rfl, ?_⟩
          refine hK _ _ trivial ?_
          clear hK K
          simp only [Act.put, List.setIfInBounds_toArray, List.set_cons_zero, List.set_cons_succ]
          refine Tree.quiet (by rfl) (.bool false) (fun _ _ => by go_simp) ?_
          simp only [Act.put, List.setIfInBounds_toArray, List.set_cons_zero, List.set_cons_succ]
          refine Tree.done ?_
          have HP2 := Lib.hid hP; have HS2 := Lib.hid (HS1.out.trans hS)
          clear HFI HS1 hS
          have HI := Lib.hid (inLine_any hp hb0 c hP (ok.counted hb0 hov) (by rw [counted_out]; exact hout))
          clear hP
          go_wp2_with (go_at_call 87; with_reducible refine HI.out.mono ?_; rintro r w4 ⟨rfl, L4, hA, hS4⟩)
          go_ret
          exact ⟨rfl, L4, hA, HS2.out.trans hS4⟩
        · rw [hst] at c24
          go_enter Tryz.func70, Tryz.ntmps70
          go_upto_region 10 with fail
          refine Each.region 8 [23, 24, 25, 26, 27, 28, 29, 30]
              [fun v _ => v = .pointer (some ⟨g, 0, none⟩),
                fun v _ => v = .pointer (some ⟨g, 0, none⟩),
                fun v _ => v = .pointer (some ⟨g, 1, none⟩),
                fun v _ => v = .pointer (some ⟨g, 0, none⟩),
                fun v _ => v = .pointer (some ⟨g, 0, none⟩),
                fun v _ => v = .pointer (some ⟨g, 14, none⟩),
                fun v _ => v = .pointer (some ⟨g, 16, none⟩),
                fun v _ => v = .int .i64 b.x2]
              (.act 8 (.quiet 9 .done)) (by kernel_rfl) (by kernel_rfl) (by kernel_rfl) (by kernel_rfl) (fun _ _ d _ _ h => by cases d <;> exact h) (by rfl) (by rfl)
              ⟨Each.Lasts.eq _, Each.Lasts.eq _, Each.Lasts.eq _, Each.Lasts.eq _, Each.Lasts.eq _, Each.Lasts.eq _, Each.Lasts.eq _, Each.Lasts.eq _, trivial⟩ ?_ ?_
          · refine ⟨?_, ?_, ?_, ?_, ?_, ?_, ?_, ?_, trivial⟩
            · refine Each.fine rfl (fun ev w1 hR hb hh => ?_)
              clear hh
              have e0 := hR.old 0 rfl
              simp only [Array.getD_eq_getD_getElem?, List.getElem?_toArray, List.getElem?_cons_zero, Option.getD_some] at e0
              refine Each.Goes.same ?_
              go_simp
              try with_reducible rfl
            · refine Each.fine rfl (fun ev w1 hR hb hh => ?_)
              have e23 : (ev (.tmp 23) = .pointer (some ⟨g, 0, none⟩)) := hh.at 0
              clear hh
              refine Each.Goes.same ?_
              go_simp
              try with_reducible rfl
            · refine Each.fine rfl (fun ev w1 hR hb hh => ?_)
              have e24 : (ev (.tmp 24) = .pointer (some ⟨g, 0, none⟩)) := hh.at 0
              clear hh
              refine Each.Goes.same ?_
              go_simp
              try with_reducible rfl
            · refine Each.fine rfl (fun ev w1 hR hb hh => ?_)
              clear hh
              have e0 := hR.old 0 rfl
              simp only [Array.getD_eq_getD_getElem?, List.getElem?_toArray, List.getElem?_cons_zero, Option.getD_some] at e0
              refine Each.Goes.same ?_
              go_simp
              try with_reducible rfl
            · refine Each.fine rfl (fun ev w1 hR hb hh => ?_)
              have e26 : (ev (.tmp 26) = .pointer (some ⟨g, 0, none⟩)) := hh.at 0
              clear hh
              refine Each.Goes.same ?_
              go_simp
              try with_reducible rfl
            · refine Each.fine rfl (fun ev w1 hR hb hh => ?_)
              have e27 : (ev (.tmp 27) = .pointer (some ⟨g, 0, none⟩)) := hh.at 0
              clear hh
              refine Each.Goes.same ?_
              go_simp
              try with_reducible rfl
            · refine Each.fine rfl (fun ev w1 hR hb hh => ?_)
              have e28 : (ev (.tmp 28) = .pointer (some ⟨g, 14, none⟩)) := hh.at 0
              clear hh
              refine Each.Goes.same ?_
              go_simp
              try with_reducible rfl
            · refine Each.fine rfl (fun ev w1 hR hb hh => ?_)
              have e29 : (ev (.tmp 29) = .pointer (some ⟨g, 16, none⟩)) := hh.at 0
              clear hh
              have q16 := (HQ.out.below hb).c 16 _ rfl
              refine Each.Goes.same ?_
              go_simp
              try with_reducible rfl
          intro g1 w2 hb hf
          have z25 : (g1 25 = .pointer (some ⟨g, 1, none⟩)) := hf.at 2
          have z30 : (g1 30 = .int .i64 b.x2) := hf.at 7
          clear hf
          simp only [Each.putg, Act.put, List.setIfInBounds_toArray, List.set_cons_zero, List.set_cons_succ]
          rw [z25, z30]
          simp only [Tree.grow, Tree.put1, List.getElem?_cons_zero, List.getElem?_cons_succ]
          have HS1 := Lib.hid (Step.of_below hb (L := blks g q v f bd t o))
          have HFI := Lib.hid (count_any b.x2 (H.out.below hb) hsz)
          clear hb HQ
          rw [HTR.out] at HFI
          refine Tree.change (by rfl) (fun K hK => ?_)
          refine Each.oper_enter (g := 85) (args := #[.pointer (some ⟨g, 1, none⟩), .int .i64 b.x2]) (by go_simp) (HFI.out.mono ?_)
          rintro r w3 ⟨rfl, hP, hS⟩
          refine ⟨_, rfl, ?_⟩
          refine hK _ _ trivial ?_
          clear hK K
          simp only [Act.put, List.setIfInBounds_toArray, List.set_cons_zero, List.set_cons_succ]
          refine Tree.quiet (by rfl) (.bool false) (fun _ _ => by go_simp) ?_
          simp only [Act.put, List.setIfInBounds_toArray, List.set_cons_zero, List.set_cons_succ]
          refine Tree.done ?_
          have HP2 := Lib.hid hP; have HS2 := Lib.hid (HS1.out.trans hS)
          clear HFI HS1 hS
          have HI := Lib.hid (inLine_any hp hb0 c hP (ok.counted hb0 hov) (by rw [counted_out]; exact hout))
          clear hP
          go_wp2_with (go_at_call 87; with_reducible refine HI.out.mono ?_; rintro r w4 ⟨rfl, L4, hA, hS4⟩)
          go_ret
          exact ⟨rfl, L4, hA, HS2.out.trans hS4⟩
    · rw [if_neg hhd]
      have hn2 : ¬ s.st = 1 ∧ ¬ s.st = 2 ∧ ¬ s.st = 7 := by
        unfold headed at hhd
        simp only [Bool.or_eq_true, beq_iff_eq] at hhd
        omega
      have t1 : ((s.st : Int) == 1) = false := beq_eq_false_iff_ne.2 (by omega); have m1 : ¬ (s.st : Int) = 1 := by omega
      have t2 : ((s.st : Int) == 2) = false := beq_eq_false_iff_ne.2 (by omega); have m2 : ¬ (s.st : Int) = 2 := by omega
      have t3 : ((s.st : Int) == 3) = false := beq_eq_false_iff_ne.2 (by omega); have m3 : ¬ (s.st : Int) = 3 := by omega
      have t5 : ((s.st : Int) == 5) = false := beq_eq_false_iff_ne.2 (by omega); have m5 : ¬ (s.st : Int) = 5 := by omega
      have t7 : ((s.st : Int) == 7) = false := beq_eq_false_iff_ne.2 (by omega); have m7 : ¬ (s.st : Int) = 7 := by omega
      have HI := Lib.hid (inLine_any hp hb0 c h ok hout)
      clear h hbd ok hout hb0 hhd hn hn2
      go_enter Tryz.func70, Tryz.ntmps70
      go_wp2_with (go_at_call 87; with_reducible refine HI.out.mono ?_; rintro r w4 ⟨rfl, L4, hA, hS4⟩)
      go_ret
      exact ⟨rfl, L4, hA, hS4⟩
end code
end Go.Proofs.YtibnobdbmojjhaaGreatDoor.Pg
