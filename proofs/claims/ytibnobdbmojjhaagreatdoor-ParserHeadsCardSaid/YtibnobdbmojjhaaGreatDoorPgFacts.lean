/-
  Layer 13 (parser), in plain words: what holds of the program's parser as long as it goes on: its sizes, and that no byte is looked at three times. No memory is spoken of.
-/
import Derived.Test.YtibnobdbmojjhaaGreatDoorPgWords
import Derived.Test.YtibnobdbmojjhaaGreatDoorParFacts
namespace Go.Proofs.YtibnobdbmojjhaaGreatDoor.Pg
open Go.RowKit Base Txt Par

/-- What holds as long as a parser goes on. -/
structure T.Ok (t : T) : Prop where
  rd : t.rd.Ok
  nf : Ln.failed t.rd.last = false
  st : 1 ≤ t.st ∧ t.st ≤ 7
  hl : t.hl ≤ 100
  bl : t.bl ≤ 100
  fsl : t.r.fs.length ≤ t.hl
  tsl : t.r.ts.length ≤ t.bl
  fss : ∀ y ∈ t.r.fs, y.1.size ≤ 5000 * t.hl ∧ y.2.size ≤ 5000 * t.hl
  tss : ∀ y ∈ t.r.ts, y.1.size ≤ 5000 * t.bl ∧ y.2.size ≤ 5000 * t.bl
  m : t.r.m.size ≤ 4096
  x : t.r.x.size ≤ 4096
  body : t.r.body.length + t.left ≤ 1048576
  left : bodied t.st = true → 1 ≤ t.left
  early : t.st ≤ 2 → t.r.body = []
  size : t.size ≤ 65536
theorem Bd.edges {b : Bd} (h : b.right = true) : (64 ≤ b.x0 ∧ b.x0 ≤ 4096) ∧ (4 ≤ b.x1 ∧ b.x1 ≤ 100) ∧ (256 ≤ b.x2 ∧ b.x2 ≤ 65536) ∧ (16 ≤ b.x3 ∧ b.x3 ≤ 1048576) ∧ (0 ≤ b.x4 ∧ b.x4 ≤ 256) ∧ (0 ≤ b.x5 ∧ b.x5 ≤ 100) := by
  unfold Bd.right Bnd.right Bnd.inside at h
  simp only [Bool.and_eq_true, decide_eq_true_eq] at h
  omega
theorem size_ba (l : List UInt8) : (ba l).size = l.length := by simp [ba, ByteArray.size]
theorem joinF_le (f : Fld) (ln : List UInt8) : (joinF f ln).1.size = f.1.size ∧ (joinF f ln).2.size ≤ f.2.size + 1 + ln.length := by
  refine ⟨rfl, ?_⟩
  unfold joinF
  rw [size_ba]
  unfold Fd.joined
  rw [List.length_append, List.length_cons, len]
  have := trimL_length Txt.blank ln
  omega
theorem fieldV_fit {p lines : Nat} {l l' : List Fld} {ln : List UInt8} {most : Int} (h : fieldV p lines l ln most = .inr l') (hn : ln.length ≤ 4096) (hl : l.length ≤ lines) (hs : ∀ y ∈ l, y.1.size ≤ 5000 * lines ∧ y.2.size ≤ 5000 * lines) :
    ((lines + 1 : Nat) : Int) ≤ most ∧ l'.length ≤ lines + 1 ∧ ∀ y ∈ l', y.1.size ≤ 5000 * (lines + 1) ∧ y.2.size ≤ 5000 * (lines + 1) := by
  unfold fieldV at h
  by_cases hm : most < ((lines + 1 : Nat) : Int)
  · rw [if_pos hm] at h; cases h
  · rw [if_neg hm] at h
    have h0 : ((lines + 1 : Nat) : Int) ≤ most := by omega
    by_cases hg : (Fd.goes p ln && !l.isEmpty) = true
    · rw [if_pos hg] at h
      have hne : l ≠ [] := by
        simp only [Bool.and_eq_true, Bool.not_eq_true', List.isEmpty_eq_false_iff] at hg
        exact hg.2
      obtain ⟨ini, last, rfl⟩ : ∃ ini last, l = ini ++ [last] := ⟨_, _, (List.dropLast_concat_getLast hne).symm⟩
      simp only [List.dropLast_concat, List.getLast?_concat, Option.getD_some] at h
      cases h
      refine ⟨h0, by simpa using Nat.le_succ_of_le hl, fun y hy => ?_⟩
      rcases List.mem_append.1 hy with hy | hy
      · have := hs y (List.mem_append_left _ hy); omega
      · obtain rfl : y = _ := by simpa using hy
        have h1 := hs last (by simp)
        have h2 := joinF_le last ln
        omega
    · rw [if_neg hg] at h
      rcases hp : Fd.parse (Fd.clOf p) ln with _ | _ | ⟨n, v⟩
      · rw [hp] at h; cases h
      · rw [hp] at h; cases h
        exact ⟨h0, by omega, fun y hy => by have := hs y hy; omega⟩
      · rw [hp] at h; cases h
        have h2 := Fd.parse_le hp
        refine ⟨h0, by simp; omega, fun y hy => ?_⟩
        rcases List.mem_append.1 hy with hy | hy
        · have := hs y hy; omega
        · obtain rfl : y = _ := by simpa using hy
          simp only [size_ba]
          omega
theorem fieldV_err {p lines : Nat} {l : List Fld} {ln : List UInt8} {most : Int} {e : Nat} (h : fieldV p lines l ln most = .inl e) : e = 400 ∨ e = 431 := by
  unfold fieldV at h
  by_cases hm : most < ((lines + 1 : Nat) : Int)
  · rw [if_pos hm] at h; cases h; exact .inr rfl
  · rw [if_neg hm] at h
    by_cases hg : (Fd.goes p ln && !l.isEmpty) = true
    · rw [if_pos hg] at h; cases h
    · rw [if_neg hg] at h
      rcases hp : Fd.parse (Fd.clOf p) ln with _ | _ | ⟨n, v⟩ <;> rw [hp] at h <;> cases h
      exact .inl rfl
section
variable {p : Nat} {b : Bd} {t t' : T} {s : List UInt8}
theorem T.Ok.fin (h : t.Ok) : t.fin.Ok :=
  ⟨h.rd, h.nf, ⟨Nat.le_refl _, by show 1 ≤ 7; omega⟩, Nat.zero_le _, Nat.zero_le _, Nat.le_refl _, Nat.le_refl _, (by intro y hy; cases hy), (by intro y hy; cases hy), Nat.zero_le _, Nat.zero_le _, Nat.zero_le _, fun h => (by cases h), fun _ => rfl, Nat.zero_le _⟩
theorem T.Ok.enter (h : t.Ok) {st : Nat} (hs : st = 4 ∨ st = 6) (most : Int) : (t.enter p st most).Ok :=
  ⟨Ln.M.new_ok _ _ _ (Ln.mid_le _), rfl, by show 1 ≤ st ∧ st ≤ 7; omega, h.hl, h.bl, h.fsl, h.tsl, h.fss, h.tss, h.m, h.x, h.body, fun hb => (by rcases hs with rfl | rfl <;> cases hb), fun hle => by have : st ≤ 2 := hle; omega, h.size⟩
theorem T.Ok.first (h : t.Ok) (hst : t.st ≤ 2) (hn : s.length ≤ 4096) (h0 : (t.first p b s).1 = 0) : (t.first p b s).2.Ok := by
  unfold T.first at h0 ⊢
  by_cases he : s = []
  · rw [if_pos he] at h0 ⊢; exact h
  · rw [if_neg he] at h0 ⊢
    rcases request_facts (Rq.clOf p) b.od s with ⟨h1, h2, h3, h4⟩ | h1 | h1
    · simp only [h1, if_pos]
      exact ⟨h.rd, h.nf, by show 1 ≤ 2 ∧ 2 ≤ 7; omega, h.hl, h.bl, h.fsl, h.tsl, h.fss, h.tss, by show (ba _).size ≤ _; rw [size_ba]; omega, by show (ba _).size ≤ _; rw [size_ba]; omega, h.body, fun hb => (by cases hb), fun _ => h.early hst, h.size⟩
    · simp [h1] at h0
    · simp [h1] at h0
theorem T.Ok.endHead (h : t.Ok) (hb : b.right = true) (hst : t.st ≤ 2) (h0 : (t.endHead p b).1 = 0) : (t.endHead p b).2.Ok := by
  have e3 := (Bd.edges hb).2.2.2.1
  unfold T.endHead at h0 ⊢
  rcases decide_facts (Frm.clOf p) b.ch b.x3 t.r.k t.r.fs with e | ⟨n, hn, e⟩ | ⟨x, hx, e⟩
  · rw [e]
    dsimp only
    rw [if_neg (by decide), if_pos rfl]
    exact ⟨h.rd, h.nf, by show 1 ≤ 4 ∧ 4 ≤ 7; omega, h.hl, h.bl, h.fsl, h.tsl, h.fss, h.tss, h.m, h.x, h.body, fun hb => (by cases hb), fun hle => by have : 4 ≤ 2 := hle; omega, h.size⟩
  · rw [e]
    dsimp only
    rw [if_neg (by decide), if_neg (by decide)]
    by_cases hz : (n : Int) = 0
    · rw [if_pos hz]; exact h.fin
    · rw [if_neg hz]
      have hbd := h.early hst
      exact ⟨h.rd, h.nf, by show 1 ≤ 3 ∧ 3 ≤ 7; omega, h.hl, h.bl, h.fsl, h.tsl, h.fss, h.tss, h.m, h.x, by show t.r.body.length + (n : Int).toNat ≤ _; rw [hbd]; simp only [List.length_nil]; omega, fun _ => by show 1 ≤ (n : Int).toNat; omega, fun hle => by have : 3 ≤ 2 := hle; omega, h.size⟩
  · exfalso
    rw [e] at h0
    dsimp only at h0
    rw [if_pos (by omega)] at h0
    have : (x : Int).toNat = 0 := h0
    omega
theorem listE_zero {x : Nat ⊕ List Fld} (h : listE x = 0) (h1 : ∀ e, x = .inl e → e = 400 ∨ e = 431) : ∃ l, x = .inr l := by
  cases x with
  | inl e =>
    have : e = 0 := h
    rcases h1 e rfl with h | h <;> omega
  | inr l => exact ⟨l, rfl⟩
theorem T.Ok.fields (h : t.Ok) (hb : b.right = true) (hst : t.st ≤ 2) (hn : s.length ≤ 4096) (h0 : (t.fields p b s).1 = 0) : (t.fields p b s).2.Ok := by
  have e1 := (Bd.edges hb).2.1
  unfold T.fields at h0 ⊢
  by_cases he : s = []
  · rw [if_pos he] at h0 ⊢; exact h.endHead hb hst h0
  · rw [if_neg he] at h0 ⊢
    obtain ⟨l, hl⟩ := listE_zero h0 fun e he => fieldV_err he
    obtain ⟨f1, f2, f3⟩ := fieldV_fit hl hn h.fsl h.fss
    rw [hl]
    exact ⟨h.rd, h.nf, h.st, by show t.hl + 1 ≤ 100; omega, h.bl, f2, h.tsl, f3, h.tss, h.m, h.x, h.body, h.left, h.early, h.size⟩
theorem T.Ok.trail (h : t.Ok) (hb : b.right = true) (hn : s.length ≤ 4096) (h0 : (t.trail p b s).1 = 0) : (t.trail p b s).2.Ok := by
  have e1 := (Bd.edges hb).2.2.2.2.2
  unfold T.trail at h0 ⊢
  by_cases he : s = []
  · rw [if_pos he] at h0 ⊢; exact h.fin
  · rw [if_neg he] at h0 ⊢
    obtain ⟨l, hl⟩ := listE_zero h0 fun e he => fieldV_err he
    obtain ⟨f1, f2, f3⟩ := fieldV_fit hl hn h.tsl h.tss
    rw [hl]
    exact ⟨h.rd, h.nf, h.st, h.hl, by show t.bl + 1 ≤ 100; omega, h.fsl, f2, h.fss, f3, h.m, h.x, h.body, h.left, h.early, h.size⟩
theorem T.Ok.chunk (h : t.Ok) (hb : b.right = true) (h0 : (t.chunk p b s).1 = 0) : (t.chunk p b s).2.Ok := by
  have e3 := (Bd.edges hb).2.2.2.1
  unfold T.chunk at h0 ⊢
  rcases chunk_facts (Qk.has p 27) (Qk.has p 28) b.x4 b.x3 s with ⟨z2, z1, z3⟩ | z2 | z2
  · dsimp only at h0 ⊢
    rw [z2] at h0 ⊢
    rw [if_neg (by decide)] at h0 ⊢
    obtain ⟨z, hz⟩ : ∃ z, (Chk.sizeV (Qk.has p 27) (Qk.has p 28) b.x4 b.x3 s).1 = z := ⟨_, rfl⟩
    rw [hz] at h0 z1 z3 ⊢
    by_cases hz0 : z = 0
    · rw [if_pos hz0]
      exact ⟨h.rd, h.nf, by show 1 ≤ 7 ∧ 7 ≤ 7; omega, h.hl, h.bl, h.fsl, h.tsl, h.fss, h.tss, h.m, h.x, h.body, fun hb => (by cases hb), fun hle => by have : 7 ≤ 2 := hle; omega, h.size⟩
    · rw [if_neg hz0] at h0 ⊢
      by_cases hlt : b.x3 - (t.r.body.length : Int) < z
      · rw [if_pos hlt] at h0; cases h0
      · rw [if_neg hlt]
        exact ⟨h.rd, h.nf, by show 1 ≤ 5 ∧ 5 ≤ 7; omega, h.hl, h.bl, h.fsl, h.tsl, h.fss, h.tss, h.m, h.x, by show t.r.body.length + z.toNat ≤ _; omega, fun _ => by show 1 ≤ z.toNat; omega, fun hle => by have : 5 ≤ 2 := hle; omega, h.size⟩
  · exfalso
    dsimp only at h0
    rw [z2] at h0
    rw [if_pos (by decide)] at h0
    cases h0
  · exfalso
    dsimp only at h0
    rw [z2] at h0
    rw [if_pos (by decide)] at h0
    cases h0
theorem T.Ok.line (h : t.Ok) (hb : b.right = true) (hn : s.length ≤ 4096) (h0 : (t.line p b s).1 = 0) : (t.line p b s).2.Ok := by
  unfold T.line at h0 ⊢
  by_cases h1 : t.st = 1
  · rw [if_pos h1] at h0 ⊢; exact h.first (by omega) hn h0
  · rw [if_neg h1] at h0 ⊢
    by_cases h2 : t.st = 2
    · rw [if_pos h2] at h0 ⊢; exact h.fields hb (by omega) hn h0
    · rw [if_neg h2] at h0 ⊢
      by_cases h4 : t.st = 4
      · rw [if_pos h4] at h0 ⊢; exact h.chunk hb h0
      · rw [if_neg h4] at h0 ⊢
        by_cases h7 : t.st = 7
        · rw [if_pos h7] at h0 ⊢; exact h.trail hb hn h0
        · rw [if_neg h7]; exact h.enter (.inl rfl) _
theorem T.Ok.byteR (h : t.Ok) (c : UInt8) (hf : Ln.failed (t.rd.clear.next c) = false) : ({ t with rd := t.rd.byte c } : T).Ok :=
  ⟨h.rd.byte c, hf, h.st, h.hl, h.bl, h.fsl, h.tsl, h.fss, h.tss, h.m, h.x, h.body, h.left, h.early, h.size⟩
theorem line_len (h : t.Ok) (c : UInt8) : (t.rd.byte c).line.length ≤ 4096 := by
  have h1 := (h.rd.byte c).len
  have h2 := (h.rd.byte c).most
  unfold Ln.M.line
  split
  · omega
  · exact Nat.zero_le _
theorem T.Ok.inLine (h : t.Ok) (hb : b.right = true) (c : UInt8) (h0 : (t.inLine p b c).1 = .live t') : t'.Ok := by
  unfold T.inLine at h0
  obtain ⟨how, hh⟩ : ∃ how, t.rd.clear.next c = how := ⟨_, rfl⟩
  have hn := Ln.M.next_is t.rd.clear c
  have hk := h.byteR c
  simp only [hh] at h0 hn hk
  by_cases e0 : how = 0
  · rw [if_pos e0] at h0; cases h0; exact hk (by rw [e0]; rfl)
  · rw [if_neg e0] at h0
    by_cases e3 : how = 3
    · rw [if_pos e3] at h0; cases h0
    · rw [if_neg e3] at h0
      by_cases e4 : how = 4
      · rw [if_pos e4] at h0
        split at h0
        · cases h0
          exact ⟨Ln.M.new_ok _ _ _ (Ln.mid_le _), rfl, by show 1 ≤ 4 ∧ 4 ≤ 7; omega, h.hl, h.bl, h.fsl, h.tsl, h.fss, h.tss, h.m, h.x, h.body, fun hb => (by cases hb), fun hle => by have : 4 ≤ 2 := hle; omega, h.size⟩
        · cases h0
      · rw [if_neg e4] at h0
        have hf : Ln.failed how = false := by rcases hn with e | e | e | e | e <;> first | (rw [e]; rfl) | contradiction
        have hk1 := (hk hf).line (p := p) hb (line_len h c)
        unfold ends at h0
        split at h0
        · rename_i hz
          cases h0
          exact hk1 hz
        · cases h0
theorem T.Ok.counted (h : t.Ok) (hb : b.right = true) (hc : ¬ b.x2 < (t.counted.size : Int)) : t.counted.Ok := by
  have e2 := (Bd.edges hb).2.2.1
  have hs : t.counted.size ≤ 65536 := by omega
  unfold T.counted at hs ⊢
  split
  · exact h
  · rename_i hn
    rw [if_neg hn] at hs
    exact ⟨h.rd, h.nf, h.st, h.hl, h.bl, h.fsl, h.tsl, h.fss, h.tss, h.m, h.x, h.body, h.left, h.early, hs⟩
theorem counted_st (t : T) : t.counted.st = t.st := by unfold T.counted; split <;> rfl
theorem counted_rd (t : T) : t.counted.rd = t.rd := by unfold T.counted; split <;> rfl
theorem counted_out (t : T) : t.counted.out = t.out := by unfold T.counted; split <;> rfl
theorem T.Ok.keep (h : t.Ok) (hst : bodied t.st = true) (hl : t.left ≠ 1) (c : UInt8) : (t.keep c).Ok := by
  have h1 := h.left hst
  exact ⟨h.rd, h.nf, h.st, h.hl, h.bl, h.fsl, h.tsl, h.fss, h.tss, h.m, h.x, by have := h.body; show (t.r.body ++ [c]).length + (t.left - 1) ≤ _; rw [List.length_append, List.length_singleton]; omega, fun _ => by show 1 ≤ t.left - 1; omega, fun hle => by exfalso; have h2 : t.st ≤ 2 := hle; unfold bodied at hst; simp only [Bool.or_eq_true, beq_iff_eq] at hst; omega, h.size⟩
theorem T.Ok.endData (h : t.Ok) (hst : bodied t.st = true) (c : UInt8) : ((t.keep c).endData p).Ok := by
  have h1 := h.left hst
  unfold T.endData
  split
  · exact ⟨Ln.M.new_ok _ _ _ (Ln.mid_le _), rfl, by show 1 ≤ 6 ∧ 6 ≤ 7; omega, h.hl, h.bl, h.fsl, h.tsl, h.fss, h.tss, h.m, h.x, by have := h.body; show (t.r.body ++ [c]).length + (t.left - 1) ≤ _; rw [List.length_append, List.length_singleton]; omega, fun hb => (by cases hb), fun hle => by have : 6 ≤ 2 := hle; omega, h.size⟩
  · exact ⟨h.rd, h.nf, ⟨Nat.le_refl _, by show 1 ≤ 7; omega⟩, Nat.zero_le _, Nat.zero_le _, Nat.le_refl _, Nat.le_refl _, (by intro y hy; cases hy), (by intro y hy; cases hy), Nat.zero_le _, Nat.zero_le _, Nat.zero_le _, fun h => (by cases h), fun _ => rfl, Nat.zero_le _⟩
theorem T.Ok.look (h : t.Ok) (hb : b.right = true) (c : UInt8) (h0 : (t.look p b c).1 = .live t') : t'.Ok := by
  unfold T.look at h0
  by_cases hd : bodied t.st = true
  · rw [if_pos hd] at h0
    cases h0
    split
    · exact h.endData hd c
    · exact h.keep hd (by assumption) c
  · rw [if_neg hd] at h0
    split at h0
    · split at h0
      · cases h0
      · exact (h.counted hb (by assumption)).inLine hb c h0
    · exact h.inLine hb c h0
/-- A byte that isn't pending's ends no line twice. -/
theorem inLine_used (hp : t.rd.pend = false) (hf : Ln.failed t.rd.last = false) (hs : t.st ≠ 6) (c : UInt8) : (t.inLine p b c).2 = true := by
  have h2 : t.rd.clear.next c ≠ 2 := by
    unfold Ln.M.next
    have e1 : t.rd.clear.last = t.rd.last := rfl
    have e2 : t.rd.clear.pend = t.rd.pend := rfl
    rw [e1, e2, hp, hf]
    simp only [Bool.false_eq_true, if_false]
    repeat' split
    all_goals decide
  unfold T.inLine
  obtain ⟨how, hh⟩ : ∃ how, t.rd.clear.next c = how := ⟨_, rfl⟩
  simp only [hh] at h2 ⊢
  split
  · rfl
  · split
    · rfl
    · split
      · have : (t.st == 6) = false := beq_eq_false_iff_ne.2 hs
        rw [this]; rfl
      · simp only [Bool.not_eq_true', beq_eq_false_iff_ne]; exact h2
theorem look_used (hp : t.rd.pend = false) (hf : Ln.failed t.rd.last = false) (hs : t.st ≠ 6) (c : UInt8) : (t.look p b c).2 = true := by
  unfold T.look
  split
  · rfl
  · split
    · split
      · rfl
      · exact inLine_used (by rw [counted_rd]; exact hp) (by rw [counted_rd]; exact hf) (by rw [counted_st]; exact hs) c
    · exact inLine_used hp hf hs c
/-- Behind a line the reader is the same, or a new one, and the stage isn't that of a chunk's end. -/
theorem line_keeps : ((t.line p b s).2.rd = t.rd ∨ ∃ most, (t.line p b s).2.rd = Ln.M.of p most) ∧ (bodied t.st = false → (t.line p b s).1 = 0 → (t.line p b s).2.st ≠ 6) := by
  unfold T.line T.first T.fields T.endHead T.chunk T.trail
  by_cases h1 : t.st = 1
  · rw [if_pos h1]
    by_cases he : s = []
    · rw [if_pos he]; exact ⟨.inl rfl, fun _ _ => by show t.st ≠ 6; omega⟩
    · rw [if_neg he]
      dsimp only
      split
      · exact ⟨.inl rfl, fun _ _ => by show 2 ≠ 6; decide⟩
      · exact ⟨.inl rfl, fun _ _ => by show t.st ≠ 6; omega⟩
  · rw [if_neg h1]
    by_cases h2 : t.st = 2
    · rw [if_pos h2]
      by_cases he : s = []
      · rw [if_pos he]
        dsimp only
        split
        · exact ⟨.inl rfl, fun _ _ => by show t.st ≠ 6; omega⟩
        · split
          · exact ⟨.inl rfl, fun _ _ => by show 4 ≠ 6; decide⟩
          · split
            · exact ⟨.inl rfl, fun _ _ => by show 1 ≠ 6; decide⟩
            · exact ⟨.inl rfl, fun _ _ => by show 3 ≠ 6; decide⟩
      · rw [if_neg he]; exact ⟨.inl rfl, fun _ _ => by show t.st ≠ 6; omega⟩
    · rw [if_neg h2]
      by_cases h4 : t.st = 4
      · rw [if_pos h4]
        dsimp only
        split
        · exact ⟨.inl rfl, fun _ _ => by show t.st ≠ 6; omega⟩
        · split
          · exact ⟨.inl rfl, fun _ _ => by show 7 ≠ 6; decide⟩
          · split
            · exact ⟨.inl rfl, fun _ _ => by show t.st ≠ 6; omega⟩
            · exact ⟨.inl rfl, fun _ _ => by show 5 ≠ 6; decide⟩
      · rw [if_neg h4]
        by_cases h7 : t.st = 7
        · rw [if_pos h7]
          by_cases he : s = []
          · rw [if_pos he]; exact ⟨.inl rfl, fun _ _ => by show 1 ≠ 6; decide⟩
          · rw [if_neg he]; exact ⟨.inl rfl, fun _ _ => by show t.st ≠ 6; omega⟩
        · rw [if_neg h7]; exact ⟨.inr ⟨_, rfl⟩, fun _ _ => by show 4 ≠ 6; decide⟩
theorem inLine_again (hst : bodied t.st = false) (c : UInt8) (h0 : t.inLine p b c = (.live t', false)) : t'.rd.pend = false ∧ t'.st ≠ 6 := by
  unfold T.inLine at h0
  obtain ⟨how, hh⟩ : ∃ how, t.rd.clear.next c = how := ⟨_, rfl⟩
  simp only [hh] at h0
  by_cases e0 : how = 0
  · rw [if_pos e0] at h0; cases h0
  · rw [if_neg e0] at h0
    by_cases e3 : how = 3
    · rw [if_pos e3] at h0; cases h0
    · rw [if_neg e3] at h0
      by_cases e4 : how = 4
      · rw [if_pos e4] at h0
        split at h0
        · cases h0
          exact ⟨rfl, by show 4 ≠ 6; decide⟩
        · cases h0
      · rw [if_neg e4] at h0
        obtain ⟨h1, h2⟩ := Prod.mk.inj h0
        unfold ends at h1
        split at h1
        · rename_i hz
          cases h1
          obtain ⟨k1, k2⟩ := line_keeps (p := p) (b := b) (t := { t with rd := t.rd.byte c }) (s := (t.rd.byte c).line)
          refine ⟨?_, k2 hst hz⟩
          have hpd : (t.rd.byte c).pend = false := by
            show (t.rd.clear.next c == 0 && c == 13) = false
            rw [hh, beq_eq_false_iff_ne.2 e0]; rfl
          rcases k1 with k | ⟨most, k⟩
          · rw [k]; exact hpd
          · rw [k]; rfl
        · cases h1
/-- No byte is looked at three times. -/
theorem look_twice (h : t.Ok) (hb : b.right = true) (c : UInt8) (h0 : t.look p b c = (.live t', false)) : (t'.look p b c).2 = true := by
  have hok : t'.Ok := h.look hb c (by rw [h0])
  unfold T.look at h0
  by_cases hd : bodied t.st = true
  · rw [if_pos hd] at h0; cases h0
  · rw [if_neg hd] at h0
    have hd' : bodied t.st = false := by simpa using hd
    split at h0
    · split at h0
      · cases h0
      · obtain ⟨k1, k2⟩ := inLine_again (by rw [counted_st]; exact hd') c h0
        exact look_used k1 hok.nf k2 c
    · obtain ⟨k1, k2⟩ := inLine_again hd' c h0
      exact look_used k1 hok.nf k2 c
theorem T.Ok.cleared (h : t.Ok) : ({ t with cnt := false } : T).Ok := ⟨h.rd, h.nf, h.st, h.hl, h.bl, h.fsl, h.tsl, h.fss, h.tss, h.m, h.x, h.body, h.left, h.early, h.size⟩
theorem T.Ok.take (h : t.Ok) (hb : b.right = true) (c : UInt8) (h0 : t.take p b c = .live t') : t'.Ok := by
  unfold T.take at h0
  rcases hx : ({ t with cnt := false } : T).look p b c with ⟨t1 | ⟨e, o⟩, u⟩
  · have h1 : t1.Ok := h.cleared.look hb c (by rw [hx])
    rw [hx] at h0
    cases u with
    | true => cases h0; exact h1
    | false => exact h1.look hb c h0
  · rw [hx] at h0; cases u <;> cases h0
end
end Go.Proofs.YtibnobdbmojjhaaGreatDoor.Pg
