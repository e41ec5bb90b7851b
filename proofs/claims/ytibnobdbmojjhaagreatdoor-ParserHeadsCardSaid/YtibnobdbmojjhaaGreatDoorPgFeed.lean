/-
  Layer 13 (parser), in plain words: the program's parser over whole lines, over bytes of a body. No memory is spoken of.
-/
import Derived.Test.YtibnobdbmojjhaaGreatDoorPgFacts
namespace Go.Proofs.YtibnobdbmojjhaaGreatDoor.Pg
open Go.RowKit Base Txt Par

section
variable {p : Nat} {b : Bd} {t t' : T}
theorem feed_nil (x : Q) : x.feed p b [] = x := rfl
theorem feed_cons (x : Q) (c : UInt8) (l : List UInt8) : x.feed p b (c :: l) = (x.byte p b c).feed p b l := rfl
theorem feed_app (x : Q) (l l' : List UInt8) : x.feed p b (l ++ l') = (x.feed p b l).feed p b l' := List.foldl_append
theorem feed_dead (e : Nat) (o : List Rec.R) (l : List UInt8) : (Q.dead e o).feed p b l = .dead e o := by
  induction l with
  | nil => rfl
  | cons c l ih => rw [feed_cons]; exact ih
/-- There is room in a head for so many bytes more. -/
def T.room (b : Bd) (t : T) (n : Nat) : Prop := headed t.st = true → ((t.size + n : Nat) : Int) ≤ b.x2
/-- A line may go on: no CR is pending. -/
structure T.Open (t : T) : Prop where
  st : bodied t.st = false
  pend : t.rd.pend = false
  nf : Ln.failed t.rd.last = false
/-- Behind a byte of a line. -/
def T.went (t : T) (rd : Ln.M) (n : Nat) : T := { t with rd := rd, size := if headed t.st = true then t.size + n else t.size, cnt := headed t.st }
theorem take_line (h : bodied t.st = false) (c : UInt8) (hr : t.room b 1) : t.take p b c = (match ({ t with size := if headed t.st = true then t.size + 1 else t.size, cnt := headed t.st } : T).inLine p b c with
    | (.live t1, false) => (t1.look p b c).1
    | (x, _) => x) := by
  unfold T.take T.look
  have e : ¬ bodied ({ t with cnt := false } : T).st = true := by rw [show ({ t with cnt := false } : T).st = t.st from rfl, h]; decide
  rw [if_neg e]
  by_cases hh : headed t.st = true
  · have hr' := hr hh
    rw [if_pos (show headed ({ t with cnt := false } : T).st = true from hh)]
    have e2 : T.counted { t with cnt := false } = { t with size := if headed t.st = true then t.size + 1 else t.size, cnt := headed t.st } := by
      unfold T.counted
      rw [if_pos hh, hh]
      rfl
    rw [e2, if_neg (by show ¬ b.x2 < ((if headed t.st = true then t.size + 1 else t.size : Nat) : Int); rw [if_pos hh]; omega)]
    rfl
  · rw [if_neg (show ¬ headed ({ t with cnt := false } : T).st = true from hh)]
    have e2 : headed t.st = false := by simpa using hh
    rw [if_neg hh, e2]
    rfl
/-- A plain byte. -/
theorem take_plain (h : t.Open) (c : UInt8) (h10 : c ≠ 10) (h13 : c ≠ 13) (hm : t.rd.clear.buf.length < t.rd.most) (hr : t.room b 1) :
    t.take p b c = .live (t.went { t.rd with buf := t.rd.clear.buf ++ [c], last := 0, pend := false } 1) := by
  rw [take_line h.st c hr]
  have e0 : t.rd.clear.next c = 0 := by
    unfold Ln.M.next
    rw [show t.rd.clear.last = t.rd.last from rfl, show t.rd.clear.pend = t.rd.pend from rfl, h.nf, h.pend, if_neg (by decide), if_neg (by decide), if_neg h10, if_neg h13, if_neg (by rw [show t.rd.clear.most = t.rd.most from rfl]; omega)]
  have ek : t.rd.clear.keeps c = true := by
    unfold Ln.M.keeps
    rw [show t.rd.clear.last = t.rd.last from rfl, show t.rd.clear.pend = t.rd.pend from rfl, h.nf, h.pend, if_neg (by decide), if_neg (by decide), if_neg h10, if_neg h13, if_neg (by rw [show t.rd.clear.most = t.rd.most from rfl]; omega)]
  have eb : t.rd.byte c = { t.rd with buf := t.rd.clear.buf ++ [c], last := 0, pend := false } := by
    unfold Ln.M.byte Ln.M.told
    rw [e0, ek, if_pos rfl, beq_eq_false_iff_ne.2 h13]
    rfl
  unfold T.inLine
  dsimp only
  rw [e0, if_pos rfl, eb]
  rfl
theorem went_open (h : bodied t.st = false) {rd : Ln.M} (h1 : rd.pend = false) (h2 : Ln.failed rd.last = false) (n : Nat) : (t.went rd n).Open := ⟨h, h1, h2⟩
theorem went_went (rd rd' : Ln.M) (n k : Nat) : (t.went rd n).went rd' k = t.went rd' (n + k) := by
  unfold T.went
  dsimp only
  split <;> simp [Nat.add_assoc]
theorem went_room {rd : Ln.M} {n k : Nat} (h : t.room b (n + k)) : (t.went rd n).room b k := by
  intro hh
  have := h hh
  show ((((if headed t.st = true then t.size + n else t.size) + k : Nat)) : Int) ≤ b.x2
  rw [if_pos (show headed t.st = true from hh)]
  omega
theorem room_le {n k : Nat} (h : t.room b k) (hn : n ≤ k) : t.room b n := fun hh => by have := h hh; omega
/-- Plain bytes. -/
theorem feed_plain (l : List UInt8) : ∀ t : T, l ≠ [] → t.Open → (∀ c ∈ l, c ≠ 10 ∧ c ≠ 13) → t.rd.clear.buf.length + l.length ≤ t.rd.most → t.room b l.length →
    (Q.live t).feed p b l = .live (t.went { t.rd with buf := t.rd.clear.buf ++ l, last := 0, pend := false } l.length) := by
  induction l with
  | nil => intro t h; exact absurd rfl h
  | cons c l ih =>
    intro t _ ho hc hm hr
    have h1 := hc c (by simp)
    simp only [List.length_cons] at hm hr ⊢
    rw [feed_cons]
    show ((t.take p b c).feed p b l) = _
    rw [take_plain ho c h1.1 h1.2 (by omega) (room_le hr (by omega))]
    rcases List.eq_nil_or_concat l with rfl | ⟨_, _, _⟩
    · rfl
    · have hne : l ≠ [] := by rename_i h; rw [h]; simp
      rw [ih _ hne (went_open ho.st rfl rfl 1) (fun x hx => hc x (by simp [hx])) ?_ (went_room (by rw [Nat.add_comm]; exact hr)), went_went]
      · rw [Nat.add_comm 1]
        show Q.live (t.went { t.rd with buf := (t.rd.clear.buf ++ [c]) ++ l, last := 0, pend := false } (l.length + 1)) = _
        rw [List.append_assoc]; rfl
      · show (t.rd.clear.buf ++ [c]).length + l.length ≤ t.rd.most
        rw [List.length_append, List.length_singleton]; omega
theorem take_cr (h : t.Open) (hr : t.room b 1) : t.take p b 13 = .live (t.went { t.rd with buf := t.rd.clear.buf, last := 0, pend := true } 1) := by
  rw [take_line h.st 13 hr]
  have e0 : t.rd.clear.next 13 = 0 := by
    unfold Ln.M.next
    rw [show t.rd.clear.last = t.rd.last from rfl, show t.rd.clear.pend = t.rd.pend from rfl, h.nf, h.pend, if_neg (by decide), if_neg (by decide), if_neg (by decide), if_pos rfl]
  have ek : t.rd.clear.keeps 13 = false := by
    unfold Ln.M.keeps
    rw [show t.rd.clear.last = t.rd.last from rfl, show t.rd.clear.pend = t.rd.pend from rfl, h.nf, h.pend, if_neg (by decide), if_neg (by decide), if_neg (by decide), if_pos rfl]
  have eb : t.rd.byte 13 = { t.rd with buf := t.rd.clear.buf, last := 0, pend := true } := by
    unfold Ln.M.byte Ln.M.told
    rw [e0, ek, if_neg (by decide), List.append_nil]
    rfl
  unfold T.inLine
  dsimp only
  rw [e0, if_pos rfl, eb]
  rfl
theorem take_lf (hs : bodied t.st = false) (hp : t.rd.pend = true) (hl : t.rd.last = 0) (hr : t.room b 1) :
    t.take p b 10 = ends (T.line p b (t.went { t.rd with last := 1, pend := false } 1) t.rd.buf) := by
  rw [take_line hs 10 hr]
  have ec : t.rd.clear = t.rd := Ln.clear_of (by rw [hl]; rfl)
  have e0 : t.rd.clear.next 10 = 1 := by
    unfold Ln.M.next
    rw [ec, hl, hp]; rfl
  have ek : t.rd.clear.keeps 10 = false := by
    unfold Ln.M.keeps
    rw [ec, hl, hp]; rfl
  have eb : t.rd.byte 10 = { t.rd with last := 1, pend := false } := by
    unfold Ln.M.byte Ln.M.told
    rw [e0, ek, if_neg (by decide), List.append_nil, ec]
    rfl
  unfold T.inLine
  dsimp only
  rw [e0, if_neg (by decide), if_neg (by decide), if_neg (by decide), eb]
  have el : ({ t.rd with last := 1, pend := false } : Ln.M).line = t.rd.buf := rfl
  rw [el]
  unfold T.went
  obtain ⟨x, hx⟩ : ∃ x, ends (T.line p b { t with rd := { t.rd with last := 1, pend := false }, size := if headed t.st = true then t.size + 1 else t.size, cnt := headed t.st } t.rd.buf) = x := ⟨_, rfl⟩
  rw [hx]
  cases x <;> rfl
/-- A line and its end. -/
theorem feed_line (l : List UInt8) (h : t.Open) (h0 : t.rd.clear.buf = []) (hc : ∀ c ∈ l, c ≠ 10 ∧ c ≠ 13) (hm : l.length ≤ t.rd.most) (hr : t.room b (l.length + 2)) :
    (Q.live t).feed p b (l ++ [13, 10]) = ends (T.line p b (t.went { t.rd with buf := l, last := 1, pend := false } (l.length + 2)) l) := by
  rw [feed_app]
  have key : ∀ (t1 : T) (k : Nat), t1.Open → t1.room b 2 → t1.rd.clear.buf = l → (Q.live t1).feed p b [13, 10] = ends (T.line p b (t1.went { t1.rd with buf := l, last := 1, pend := false } 2) l) := by
    intro t1 k ho hr hb
    rw [feed_cons, feed_cons]
    show ((Q.byte p b (t1.take p b 13) 10).feed p b []) = _
    rw [take_cr ho (room_le hr (by omega)), feed_nil]
    show T.take p b _ 10 = _
    have e := take_lf (p := p) (b := b) (t := t1.went { t1.rd with buf := t1.rd.clear.buf, last := 0, pend := true } 1) ho.st rfl rfl (went_room hr)
    rw [e, went_went]
    show ends (T.line p b (t1.went { t1.rd with buf := t1.rd.clear.buf, last := 1, pend := false } 2) t1.rd.clear.buf) = _
    rw [hb]
  rcases List.eq_nil_or_concat l with rfl | ⟨_, _, _⟩
  · rw [feed_nil, key t 0 h hr h0]
    rfl
  · have hne : l ≠ [] := by rename_i h; rw [h]; simp
    rw [feed_plain l t hne h hc (by rw [h0]; simpa using hm) (room_le hr (by omega)), h0, List.nil_append, key _ 0 (went_open h.st rfl rfl _) (went_room hr) rfl, went_went]
    rfl
/-- A line that is too long. -/
theorem feed_long (l : List UInt8) (c : UInt8) (h : t.Open) (h0 : t.rd.clear.buf = []) (hc : ∀ x ∈ l ++ [c], x ≠ 10 ∧ x ≠ 13) (hm : l.length = t.rd.most) (hr : t.room b (l.length + 1)) (hs : t.st ≠ 6) (hn : l ≠ []) :
    (Q.live t).feed p b (l ++ [c]) = .dead (longE t.st) t.out := by
  rw [feed_app, feed_plain l t hn h (fun x hx => hc x (by simp [hx])) (by rw [h0]; simp [hm]) (room_le hr (by omega)), h0, List.nil_append, feed_cons, feed_nil]
  have h1 := hc c (by simp)
  show T.take p b _ c = _
  rw [take_line (by exact h.st) c (went_room hr)]
  have e4 : Ln.M.next (Ln.M.clear { t.rd with buf := l, last := 0, pend := false }) c = 4 := by
    show (if Ln.failed 0 then (3 : Int) else if false = true then _ else if c = 10 then _ else if c = 13 then 0 else if l.length = t.rd.most then 4 else 0) = 4
    rw [if_neg (by decide), if_neg (by decide), if_neg h1.1, if_neg h1.2, if_pos hm]
  unfold T.inLine T.went
  dsimp only
  rw [e4, if_neg (by decide), if_neg (by decide), if_pos rfl]
  have : (t.st == 6) = false := beq_eq_false_iff_ne.2 hs
  rw [this]
  rfl
/-- Bytes of a body. -/
theorem take_body (h : bodied t.st = true) (c : UInt8) : t.take p b c = .live (if t.left = 1 then ({ t with cnt := false } : T).keep c |>.endData p else ({ t with cnt := false } : T).keep c) := by
  unfold T.take T.look
  rw [if_pos (show bodied ({ t with cnt := false } : T).st = true from h)]
theorem feed_body (d : List UInt8) : ∀ t : T, bodied t.st = true → d ≠ [] → d.length ≤ t.left → (Q.live t).feed p b d = .live (if d.length = t.left then T.endData p { t with cnt := false, r := { t.r with body := t.r.body ++ d }, left := 0 } else { t with cnt := false, r := { t.r with body := t.r.body ++ d }, left := t.left - d.length }) := by
  induction d with
  | nil => intro t _ h; exact absurd rfl h
  | cons c d ih =>
    intro t hb _ hl
    simp only [List.length_cons] at hl ⊢
    rw [feed_cons]
    show ((t.take p b c).feed p b d) = _
    rw [take_body hb c]
    by_cases h1 : t.left = 1
    · have hd : d = [] := List.eq_nil_of_length_eq_zero (by omega)
      subst hd
      rw [if_pos h1, if_pos (by simp [h1]), feed_nil]
      unfold T.keep
      rw [h1]
    · rw [if_neg h1]
      rcases List.eq_nil_or_concat d with rfl | ⟨_, _, _⟩
      · rw [feed_nil, if_neg (by simp only [List.length_nil]; omega)]
        rfl
      · have hne : d ≠ [] := by rename_i h; rw [h]; simp
        rw [ih (({ t with cnt := false } : T).keep c) hb hne (by show d.length ≤ t.left - 1; omega)]
        unfold T.keep
        dsimp only
        have e1 : t.r.body ++ [c] ++ d = t.r.body ++ c :: d := by rw [List.append_assoc]; rfl
        rw [e1]
        by_cases h2 : d.length = t.left - 1
        · rw [if_pos h2, if_pos (by omega)]
        · rw [if_neg h2, if_neg (by omega), show t.left - 1 - d.length = t.left - (d.length + 1) by omega]
end
end Go.Proofs.YtibnobdbmojjhaaGreatDoor.Pg
