/-
  Layer 8 (request): what stands between a line's first part and its last, by either way; what is read of a line, as plain words. No program is spoken of.
-/
import Derived.Test.YtlignmlkoahbmaaGreatDoorReqWords
import Derived.Test.YtlignmlkoahbmaaGreatDoorTargetWords
import Derived.Test.YtlignmlkoahbmaaGreatDoorQuirkWords
namespace Go.Proofs.YtlignmlkoahbmaaGreatDoor.Rq
open Go.RowKit Base Txt

theorem ext_ext (l : List UInt8) (a b c d : Nat) (h : a + d ≤ b) : ext (ext l (a, b)) (c, d) = ext l (a + c, a + d) := by
  unfold ext
  dsimp only
  rw [List.take_drop, List.drop_drop, List.take_take, Nat.min_eq_left (by omega)]
theorem Cov.mono {p : UInt8 → Bool} {l : List UInt8} {o : Nat} {sp : List (Nat × Nat)} (h : Cov p l o sp) : ∀ (k d : Nat) (hk : k + d < sp.length), (sp[k]'(by omega)).2 ≤ sp[k + d].2
  | k, 0, hk => Nat.le_refl _
  | k, d + 1, hk => by
    have h1 := h.mono k d (by omega)
    have h2 := (h.gap (k + d) (by omega)).1
    have h3 := (h.at (k + d + 1) (by omega)).2.1
    have e : sp[k + (d + 1)] = sp[k + d + 1] := rfl
    rw [e]; omega

/-- What stands between the first part and the last, as the program cuts it. -/
def between (bl : Bool) (l first last : List UInt8) : List UInt8 :=
  if bl = true then trimL Txt.blank (ext (trimL Txt.blank l) (first.length, (trimL Txt.blank l).length - last.length)) else ext l (first.length + 1, l.length - last.length - 1)
def fits (bl : Bool) (l first last : List UInt8) : Prop :=
  if bl = true then first.length + last.length ≤ (trimL Txt.blank l).length else first.length + last.length + 2 ≤ l.length
theorem mid_core {bl : Bool} {l : List UInt8} {x0 x1 x2 x3 : Nat × Nat} (a1 : x0.1 < x0.2) (a2 : x0.2 ≤ l.length) (a3 : ∀ j (h : j < l.length), x0.1 ≤ j → j < x0.2 → sepB bl l[j] = false)
    (b1 : x1.1 < x1.2) (b3 : ∀ j (h : j < l.length), x1.1 ≤ j → j < x1.2 → sepB bl l[j] = false) (c1 : x2.1 < x2.2) (c3 : ∀ j (h : j < l.length), x2.1 ≤ j → j < x2.2 → sepB bl l[j] = false)
    (d1 : x3.1 < x3.2) (d2 : x3.2 ≤ l.length) (d3 : ∀ j (h : j < l.length), x3.1 ≤ j → j < x3.2 → sepB bl l[j] = false) (e0 : x0.2 < x1.1) (e1 : ∀ j (h : j < l.length), x0.2 ≤ j → j < x1.1 → sepB bl l[j] = true)
    (f0 : x2.2 < x3.1) (f1 : ∀ j (h : j < l.length), x2.2 ≤ j → j < x3.1 → sepB bl l[j] = true) (g0 : x1.2 ≤ x2.2) (g1 : ∀ j (h : j < l.length), j < x0.1 → sepB bl l[j] = true) (g2 : ∀ j (h : j < l.length), x3.2 ≤ j → sepB bl l[j] = true)
    (t0 : bl = false → x0.1 = 0 ∧ x1.1 = x0.2 + 1 ∧ x3.1 = x2.2 + 1 ∧ x3.2 = l.length) :
    between bl l (ext l x0) (ext l x3) = ext l (x1.1, x2.2) ∧ fits bl l (ext l x0) (ext l x3) ∧ x1.1 < x2.2 ∧ x2.2 ≤ l.length := by
  have l0 := ext_length l x0 a2
  have l3 := ext_length l x3 d2
  cases bl with
  | false =>
    obtain ⟨t1, t2, t3, t4⟩ := t0 rfl
    simp only [between, fits, Bool.false_eq_true, if_false]
    rw [l0, l3]
    exact ⟨by congr 2 <;> omega, by omega, by omega, by omega⟩
  | true =>
    have hs : trimL Txt.blank l = ext l (x0.1, x3.2) := by
      rw [← sepB_true]
      exact trim_ext _ l x0.1 x3.2 (by omega) (by omega) (fun j h hj => g1 j h hj) (fun j h hj => g2 j h hj) (fun h => a3 x0.1 h (Nat.le_refl _) a1) (fun h => d3 _ h (by omega) (by omega))
    have ls := ext_length l (x0.1, x3.2) (by show x3.2 ≤ _; omega)
    have ls' : (ext l (x0.1, x3.2)).length = x3.2 - x0.1 := ls
    simp only [between, fits, if_true]
    rw [hs, l0, l3, ls']
    have e2 : ext (ext l (x0.1, x3.2)) (x0.2 - x0.1, x3.2 - x0.1 - (x3.2 - x3.1)) = ext l (x0.2, x3.1) := by
      rw [ext_ext l _ _ _ _ (by omega)]
      congr 2 <;> omega
    rw [e2]
    have lm := ext_length l (x0.2, x3.1) (by show x3.1 ≤ _; omega)
    have lm' : (ext l (x0.2, x3.1)).length = x3.1 - x0.2 := lm
    have key : trimL Txt.blank (ext l (x0.2, x3.1)) = ext (ext l (x0.2, x3.1)) (x1.1 - x0.2, x2.2 - x0.2) := by
      rw [← sepB_true]
      refine trim_ext _ _ _ _ (by omega) (by omega) ?_ ?_ ?_ ?_
      · intro j h hj
        obtain ⟨q, e⟩ := ext_at l _ j h
        rw [e]; exact e1 _ q (by show x0.2 ≤ x0.2 + j; omega) (by show x0.2 + j < _; omega)
      · intro j h hj
        obtain ⟨q, e⟩ := ext_at l _ j h
        rw [e]; exact f1 _ q (by show _ ≤ x0.2 + j; omega) (by show x0.2 + j < _; omega)
      · intro h
        obtain ⟨q, e⟩ := ext_at l _ _ h
        rw [e]; exact b3 _ q (by show _ ≤ x0.2 + _; omega) (by show x0.2 + _ < _; omega)
      · intro h
        obtain ⟨q, e⟩ := ext_at l _ _ h
        rw [e]; exact c3 _ q (by show _ ≤ x0.2 + _; omega) (by show x0.2 + _ < _; omega)
    rw [key, ext_ext l _ _ _ _ (by omega)]
    exact ⟨by congr 2 <;> omega, by omega, by omega, by omega⟩
theorem between_mid {bl : Bool} {l : List UInt8} {sp : List (Nat × Nat)} (h : spans bl l = some sp) (h3 : 3 ≤ sp.length) :
    between bl l (ext l sp[0]) (ext l sp[sp.length - 1]) = ext l (sp[1].1, sp[sp.length - 2].2) ∧ fits bl l (ext l sp[0]) (ext l sp[sp.length - 1]) ∧ sp[1].1 < sp[sp.length - 2].2 ∧ sp[sp.length - 2].2 ≤ l.length := by
  obtain ⟨hc, ht⟩ := spans_cov h
  obtain ⟨n, hn⟩ : ∃ n, sp.length = n + 3 := ⟨sp.length - 3, by omega⟩
  obtain ⟨a0, a1, a2, a3⟩ := hc.at 0 (by omega)
  obtain ⟨b0, b1, b2, b3⟩ := hc.at 1 (by omega)
  obtain ⟨c0, c1, c2, c3⟩ := hc.at (sp.length - 2) (by omega)
  obtain ⟨d0, d1, d2, d3⟩ := hc.at (sp.length - 1) (by omega)
  obtain ⟨e0, e1⟩ := hc.gap 0 (by omega)
  obtain ⟨f0, f1⟩ := hc.gap (sp.length - 2) (by omega)
  have g0 := hc.mono 1 (sp.length - 3) (by omega)
  have i1 : ∀ h, sp[sp.length - 2 + 1]'h = sp[sp.length - 1] := fun _ => by congr 1; omega
  have i2 : ∀ h, sp[1 + (sp.length - 3)]'h = sp[sp.length - 2] := fun _ => by congr 1; omega
  simp only [i1] at f0 f1
  rw [i2] at g0
  refine mid_core a1 a2 a3 b1 b3 c1 c3 d1 d2 d3 e0 e1 f0 f1 g0 (fun j h hj => hc.first (by omega) j h (Nat.zero_le _) hj) (hc.last (by omega)) fun hb => ?_
  obtain ⟨_, q1, q2, q3⟩ := (ht hb).at
  have q4 := q2 (sp.length - 2) (by omega)
  rw [i1] at q4
  exact ⟨q1, q2 0 (by omega), q4, q3⟩

/-- The clauses that a first line's reader looks at. -/
structure Cl where
  bl : Bool
  mi : Bool
  an : Bool
  nv : Bool
  sp : Bool
  co : Bool
def clOf (p : Nat) : Cl := ⟨Qk.has p 3, Qk.has p 4, Qk.has p 5, Qk.has p 6, Qk.has p 7, Qk.has p 8⟩
def http1 : List UInt8 := [72, 84, 84, 80, 47, 49, 46]
/-- Is it a version, and of which last digit? -/
def knownV (c : Cl) (v : List UInt8) : Bool := decide (v.length = 8) && (Oct.digit ((v.getD 7 0).toNat : Int) && (v.take 7 == http1 || (c.an && low (v.take 7) == low http1)))
def verL (c : Cl) (v : List UInt8) : Option Nat :=
  if v = [] then some 0 else if knownV c v = true then (if v.getD 7 0 = 48 then some 0 else if (v.getD 7 0 == 49 || c.mi) = true then some 1 else none) else none
def letsT (c : Cl) (x : UInt8) : Bool := Oct.visible (x.toNat : Int) || (c.sp && Oct.blank (x.toNat : Int) || c.co && Oct.control (x.toNat : Int))
def tgtB (c : Cl) (t : List UInt8) : Bool := t.all (letsT c)
def tgtOk (c : Cl) (m t : List UInt8) : Bool := tgtB c t && (c.sp || c.co || (Tgt.parse m t).isSome)
def methOk (m : List UInt8) : Bool := decide (m.length ≤ 32) && Oct.allOf [1] m
/-- The method, the target, the version as they stand; no version: nothing. -/
def pick (c : Cl) (l : List UInt8) : Option (List UInt8 × List UInt8 × List UInt8) :=
  match spans c.bl l with
  | none => none
  | some sp => if (sp.length == 3 || (decide (3 < sp.length) && c.sp)) = true then some (ext l (sp.getD 0 (0, 0)), ext l ((sp.getD 1 (0, 0)).1, (sp.getD (sp.length - 2) (0, 0)).2), ext l (sp.getD (sp.length - 1) (0, 0)))
    else if (sp.length == 2 && c.nv) = true then some (ext l (sp.getD 0 (0, 0)), ext l (sp.getD 1 (0, 0)), []) else none
def badR : List UInt8 × List UInt8 × Nat × Nat := ([], [], 0, 400)
def verR : List UInt8 × List UInt8 × Nat × Nat := ([], [], 0, 505)
/-- What is read of a line. -/
def request (c : Cl) (old : Bool) (l : List UInt8) : List UInt8 × List UInt8 × Nat × Nat :=
  match pick c l with
  | none => badR
  | some (m, t, v) => if (methOk m && tgtOk c m t) = true then
      match verL c v with
      | none => verR
      | some k => if (k == 0 && !old) = true then verR else (m, t, k, 0)
    else badR
theorem spans_pos {bl : Bool} {l : List UInt8} {sp : List (Nat × Nat)} (h : spans bl l = some sp) (k : Nat) (hk : k < sp.length) : 0 < (ext l sp[k]).length ∧ (ext l sp[k]).length ≤ l.length := by
  obtain ⟨_, h2, h3, _⟩ := (spans_cov h).1.at k hk
  rw [ext_length l _ h3]; omega
theorem getD_at (sp : List (Nat × Nat)) (k : Nat) (h : k < sp.length) : sp.getD k (0, 0) = sp[k] := by simp [List.getD, List.getElem?_eq_getElem h]
/-- The parts are no longer than the line; the method and the target aren't empty. -/
theorem pick_some {c : Cl} {l m t v : List UInt8} (h : pick c l = some (m, t, v)) : 0 < m.length ∧ m.length ≤ l.length ∧ 0 < t.length ∧ t.length ≤ l.length ∧ v.length ≤ l.length := by
  unfold pick at h
  cases hs : spans c.bl l with
  | none => rw [hs] at h; cases h
  | some sp =>
    rw [hs] at h
    dsimp only at h
    split at h
    · rename_i h3
      have hn : 3 ≤ sp.length := by
        simp only [Bool.or_eq_true, beq_iff_eq, Bool.and_eq_true, decide_eq_true_eq] at h3
        omega
      rw [getD_at sp 0 (by omega), getD_at sp 1 (by omega), getD_at sp _ (by omega), getD_at sp _ (by omega)] at h
      obtain ⟨_, _, q1, q2⟩ := between_mid hs hn
      have p0 := spans_pos hs 0 (by omega)
      have p1 := spans_pos hs (sp.length - 1) (by omega)
      have p2 := ext_length l (sp[1].1, sp[sp.length - 2].2) q2
      simp only [Option.some.injEq, Prod.mk.injEq] at h
      obtain ⟨rfl, rfl, rfl⟩ := h
      have p3 : (ext l (sp[1].1, sp[sp.length - 2].2)).length = sp[sp.length - 2].2 - sp[1].1 := p2
      exact ⟨p0.1, p0.2, by omega, by omega, p1.2⟩
    · split at h
      · rename_i h2
        have hn : sp.length = 2 := by
          simp only [Bool.and_eq_true, beq_iff_eq] at h2
          exact h2.1
        rw [getD_at sp 0 (by omega), getD_at sp 1 (by omega)] at h
        have p0 := spans_pos hs 0 (by omega)
        have p1 := spans_pos hs 1 (by omega)
        simp only [Option.some.injEq, Prod.mk.injEq] at h
        obtain ⟨rfl, rfl, rfl⟩ := h
        exact ⟨p0.1, p0.2, p1.1, p1.2, by simp⟩
      · cases h
theorem request_le (c : Cl) (old : Bool) (l : List UInt8) : (request c old l).1.length ≤ l.length ∧ (request c old l).2.1.length ≤ l.length := by
  unfold request
  cases hp : pick c l with
  | none => simp [badR]
  | some x =>
    obtain ⟨m, t, v⟩ := x
    obtain ⟨_, h2, _, h4, _⟩ := pick_some hp
    dsimp only
    split
    · split
      · simp [verR]
      · split
        · simp [verR]
        · exact ⟨h2, h4⟩
    · simp [badR]
end Go.Proofs.YtlignmlkoahbmaaGreatDoor.Rq
