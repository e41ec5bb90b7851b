/-
  Layer 6 (line): plain words: how a reader of lines goes on by a byte, the document's reader, and that both go alike. No program is spoken of.
-/
import Derived.Test.YthkgdhkfhidghaaBase
namespace Go.Proofs.Ythkgdhkfhidghaa.Ln
open Go.RowKit Base

def ended (x : Int) : Bool := x == 1 || x == 2
def failed (x : Int) : Bool := x == 3 || x == 4

theorem f0 : failed 0 = false := rfl
theorem f1 : failed 1 = false := rfl
theorem f2 : failed 2 = false := rfl
theorem f3 : failed 3 = true := rfl
theorem f4 : failed 4 = true := rfl
theorem d0 : ended 0 = false := rfl
theorem d1 : ended 1 = true := rfl
theorem d2 : ended 2 = true := rfl
theorem d3 : ended 3 = false := rfl
theorem d4 : ended 4 = false := rfl

/-- A reader of lines: what it takes for an end, its most, the bytes, what it answered last, whether a CR is pending. -/
structure M where
  lf : Bool
  cr : Bool
  most : Nat
  buf : List UInt8
  last : Int
  pend : Bool

structure M.Ok (m : M) : Prop where
  last : m.last = 0 ∨ m.last = 1 ∨ m.last = 2 ∨ m.last = 3 ∨ m.last = 4
  most : m.most ≤ 4096
  len : m.buf.length ≤ m.most
  pend : m.pend = true → m.last = 0

def M.line (m : M) : List UInt8 := if ended m.last then m.buf else []
def M.len (m : M) : Nat := if ended m.last then 0 else m.buf.length
def M.clear (m : M) : M := { m with buf := if ended m.last then [] else m.buf }
def M.next (m : M) (c : UInt8) : Int :=
  if failed m.last then 3 else if m.pend then (if c = 10 then 1 else if m.cr then 2 else 3) else if c = 10 then (if m.lf then 1 else 3) else if c = 13 then 0 else if m.buf.length = m.most then 4 else 0
def M.keeps (m : M) (c : UInt8) : Bool := if failed m.last then false else if m.pend then false else if c = 10 then false else if c = 13 then false else if m.buf.length = m.most then false else true
def M.told (m : M) (c : UInt8) : M := { m with buf := m.buf ++ (if m.keeps c then [c] else []) }
def M.byte (m : M) (c : UInt8) : M := { m.clear.told c with last := m.clear.next c, pend := m.clear.next c == 0 && c == 13 }

theorem M.Ok.clear {m : M} (h : m.Ok) : m.clear.Ok := by
  obtain ⟨h1, h2, h3, h4⟩ := h
  refine ⟨h1, h2, ?_, h4⟩
  show (if ended m.last then [] else m.buf).length ≤ m.most
  split
  · exact Nat.zero_le _
  · exact h3
theorem M.next_is (m : M) (c : UInt8) : m.next c = 0 ∨ m.next c = 1 ∨ m.next c = 2 ∨ m.next c = 3 ∨ m.next c = 4 := by
  unfold M.next
  repeat' split
  all_goals simp
theorem M.Ok.told {m : M} (h : m.Ok) (c : UInt8) : (m.told c).buf.length ≤ m.most := by
  have h3 := h.len
  show (m.buf ++ (if m.keeps c then [c] else [])).length ≤ m.most
  by_cases hk : m.keeps c = true
  · rw [if_pos hk, List.length_append]
    unfold M.keeps at hk
    repeat' split at hk
    all_goals first | (exact absurd hk (by decide)) | (rw [List.length_singleton]; omega)
  · rw [if_neg hk, List.append_nil]; exact h3
theorem M.Ok.byte {m : M} (h : m.Ok) (c : UInt8) : (m.byte c).Ok := by
  refine ⟨M.next_is _ c, h.most, h.clear.told c, fun hp => ?_⟩
  have : (m.clear.next c == 0 && c == 13) = true := hp
  simp only [Bool.and_eq_true, beq_iff_eq] at this
  exact this.1

/-- A new reader. -/
def M.new (lf cr : Bool) (most : Nat) : M := ⟨lf, cr, most, [], 0, false⟩
theorem M.new_ok (lf cr : Bool) (most : Nat) (h : most ≤ 4096) : (M.new lf cr most).Ok := ⟨.inl rfl, h, Nat.zero_le _, fun h => by cases h⟩

/-- The document's reader. -/
structure R where
  lf : Bool
  cr : Bool
  most : Nat
  B : List UInt8
  CR : Bool
  L : List UInt8
  over : Bool
  dead : Bool

def R.start (q : R) : R := { q with L := [], over := false }
def R.fin (q : R) : R := { q with L := q.B, B := [], CR := false, over := true }
def R.die (q : R) : R := { q with dead := true }
def R.how (q : R) (c : UInt8) : Int :=
  if q.dead then 3 else if q.CR && c == 10 then 1 else if q.CR && q.cr then 2 else if q.CR then 3 else if c == 10 && q.lf then 1 else if c == 10 then 3 else if c == 13 then 0 else if q.most ≤ q.B.length then 4 else 0
def R.byte (q : R) (c : UInt8) : R :=
  if q.dead then q else if q.CR && c == 10 then q.start.fin else if q.CR && q.cr then q.start.fin else if q.CR then q.start.die else if c == 10 && q.lf then q.start.fin else if c == 10 then q.start.die
  else if c == 13 then { q.start with CR := true } else if q.most ≤ q.B.length then q.start.die else { q.start with B := q.B ++ [c] }
def R.new (lf cr : Bool) (most : Nat) : R := ⟨lf, cr, most, [], false, [], false, false⟩

structure Rel (m : M) (q : R) : Prop where
  lf : q.lf = m.lf
  cr : q.cr = m.cr
  most : q.most = m.most
  dead : q.dead = failed m.last
  L : q.L = m.line
  CR : failed m.last = false → q.CR = m.pend
  B : failed m.last = false → q.B = if ended m.last then [] else m.buf

theorem rel_new (lf cr : Bool) (most : Nat) : Rel (M.new lf cr most) (R.new lf cr most) := ⟨rfl, rfl, rfl, rfl, rfl, fun _ => rfl, fun _ => rfl⟩

theorem step_how {m : M} {q : R} (h : Rel m q) (hm : m.Ok) (c : UInt8) : q.how c = m.clear.next c := by
  obtain ⟨lf, cr, most, B, CR, L, over, dead⟩ := q
  obtain ⟨h1, h2, h3, h4, h5, h6, h7⟩ := h
  have hl := hm.clear.len
  simp only at h1 h2 h3 h4 h5 h6 h7
  subst h1 h2 h3
  unfold R.how M.next
  simp only
  have e1 : m.clear.last = m.last := rfl
  have e2 : m.clear.pend = m.pend := rfl
  have e3 : m.clear.cr = m.cr := rfl
  have e4 : m.clear.lf = m.lf := rfl
  have e5 : m.clear.most = m.most := rfl
  rw [e1, e2, e3, e4, e5]
  rw [e5] at hl
  cases hf : failed m.last with
  | true => rw [h4, hf]; simp
  | false =>
    have h8 : B = m.clear.buf := h7 hf
    have h9 := h6 hf
    subst h8 h9
    rw [h4, hf]
    by_cases c10 : c = 10
    · subst c10
      cases m.pend <;> cases m.lf <;> cases m.cr <;> simp
    · by_cases c13 : c = 13
      · subst c13
        cases m.pend <;> cases m.lf <;> cases m.cr <;> simp
      · by_cases hq : m.clear.buf.length = m.most
        · cases m.pend <;> cases m.cr <;> simp [c10, c13, hq]
        · have : ¬ m.most ≤ m.clear.buf.length := by omega
          cases m.pend <;> cases m.cr <;> simp [c10, c13, hq, this]

theorem step_rel {m : M} {q : R} (h : Rel m q) (hm : m.Ok) (c : UInt8) : Rel (m.byte c) (q.byte c) := by
  obtain ⟨lf, cr, most, B, CR, L, over, dead⟩ := q
  obtain ⟨h1, h2, h3, h4, h5, h6, h7⟩ := h
  have hl := hm.clear.len
  have hp := hm.pend
  simp only at h1 h2 h3 h4 h5 h6 h7
  subst h1 h2 h3 h5 h4
  have e1 : m.clear.last = m.last := rfl
  have e2 : m.clear.pend = m.pend := rfl
  have e3 : m.clear.cr = m.cr := rfl
  have e4 : m.clear.lf = m.lf := rfl
  have e5 : m.clear.most = m.most := rfl
  have e6 : (m.byte c).last = m.clear.next c := rfl
  have e7 : (m.byte c).buf = m.clear.buf ++ (if m.clear.keeps c then [c] else []) := rfl
  have e8 : (m.byte c).pend = (m.clear.next c == 0 && c == 13) := rfl
  have e9 : (m.byte c).lf = m.lf := rfl
  have e10 : (m.byte c).cr = m.cr := rfl
  have e11 : (m.byte c).most = m.most := rfl
  rw [e5] at hl
  have key : ∀ (q' : R), q'.lf = m.lf → q'.cr = m.cr → q'.most = m.most → q'.dead = failed (m.clear.next c) → (q'.L = if ended (m.clear.next c) then m.clear.buf ++ (if m.clear.keeps c then [c] else []) else []) →
      (failed (m.clear.next c) = false → q'.CR = (m.clear.next c == 0 && c == 13)) → (failed (m.clear.next c) = false → q'.B = if ended (m.clear.next c) then [] else m.clear.buf ++ (if m.clear.keeps c then [c] else [])) → Rel (m.byte c) q' := by
    intro q' a1 a2 a3 a4 a5 a6 a7
    refine ⟨a1, a2, a3, by rw [e6]; exact a4, ?_, by rw [e6, e8]; exact a6, by rw [e6, e7]; exact a7⟩
    rw [a5, M.line, e6, e7]
  unfold R.byte
  simp only
  cases hf : failed m.last with
  | true =>
    rw [if_pos rfl]
    have en : m.clear.next c = 3 := by unfold M.next; rw [e1, hf, if_pos rfl]
    refine key _ rfl rfl rfl ?_ ?_ ?_ ?_
    · rw [en]; rfl
    · rw [en]
      show m.line = _
      have : ended m.last = false := by
        unfold failed at hf; unfold ended
        rcases hm.last with e | e | e | e | e <;> rw [e] at hf ⊢ <;> first | rfl | cases hf
      rw [M.line, this]; rfl
    · rw [en]; intro h; cases h
    · rw [en]; intro h; cases h
  | false =>
    have h8 : B = m.clear.buf := h7 hf
    have h9 := h6 hf
    subst h8 h9
    rw [if_neg (by decide)]
    by_cases c10 : c = 10
    · subst c10
      cases hpe : m.pend <;> cases hlf : m.lf <;> cases hcr : m.cr <;> refine key _ ?_ ?_ ?_ ?_ ?_ ?_ ?_ <;> simp [M.next, M.keeps, R.fin, R.die, R.start, e1, e2, e4, hf, hpe, hlf, hcr, f1, f3, d1, d3] <;> try rfl
    · by_cases c13 : c = 13
      · subst c13
        cases hpe : m.pend <;> cases hlf : m.lf <;> cases hcr : m.cr <;> refine key _ ?_ ?_ ?_ ?_ ?_ ?_ ?_ <;> simp [M.next, M.keeps, R.fin, R.die, R.start, e1, e2, e3, hf, hpe, hlf, hcr, f0, f2, f3, d0, d2, d3] <;> try rfl
      · by_cases hq : m.clear.buf.length = m.most
        · cases hpe : m.pend <;> cases hcr : m.cr <;> refine key _ ?_ ?_ ?_ ?_ ?_ ?_ ?_ <;> simp [M.next, M.keeps, R.fin, R.die, R.start, e1, e2, e3, e5, hf, hpe, hcr, f2, f3, f4, d2, d3, d4, c10, c13, hq] <;> try rfl
        · have : ¬ m.most ≤ m.clear.buf.length := by omega
          cases hpe : m.pend <;> cases hcr : m.cr <;> refine key _ ?_ ?_ ?_ ?_ ?_ ?_ ?_ <;> simp [M.next, M.keeps, R.fin, R.die, R.start, e1, e2, e3, e5, hf, hpe, hcr, f0, f2, f3, d0, d2, d3, c10, c13, hq, this] <;> try rfl

/-- What the law asks of both behind a byte. -/
theorem rel_len {m : M} {q : R} (h : Rel m q) (hf : failed m.last = false) : q.B.length = m.len := by
  rw [h.B hf, M.len]
  split <;> rfl
end Go.Proofs.Ythkgdhkfhidghaa.Ln
