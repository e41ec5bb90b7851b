/-
  Layer 7 (target), in plain words: which bytes may stand where, the text ahead of a byte and behind it, hosts, paths, queries, and the target that a text is in a request of a method; a target's text; that it is read as the same. No program is spoken of.
-/
import Derived.Test.YtlignmlkoahbmaaGreatDoorNumWords
import Derived.Test.YtlignmlkoahbmaaGreatDoorTextWords
namespace Go.Proofs.YtlignmlkoahbmaaGreatDoor.Tgt
open Go.RowKit Base Oct Num Txt

/-- The text ahead of the first c, what is behind it, and whether there is one. -/
def cutAt (c : UInt8) : List UInt8 → List UInt8 × List UInt8 × Bool
  | [] => ([], [], false)
  | b :: l => if b = c then ([], l, true) else (b :: (cutAt c l).1, (cutAt c l).2.1, (cutAt c l).2.2)
theorem cutAt_none (c : UInt8) : ∀ l : List UInt8, c ∉ l → cutAt c l = (l, [], false)
  | [], _ => rfl
  | b :: l, h => by
    simp only [List.mem_cons, not_or] at h
    rw [cutAt, if_neg (fun e => h.1 e.symm), cutAt_none c l h.2]
theorem cutAt_app (c : UInt8) : ∀ (a r : List UInt8), c ∉ a → cutAt c (a ++ c :: r) = (a, r, true)
  | [], r, _ => by rw [List.nil_append, cutAt, if_pos rfl]
  | b :: a, r, h => by
    simp only [List.mem_cons, not_or] at h
    rw [List.cons_append, cutAt, if_neg (fun e => h.1 e.symm), cutAt_app c a r h.2]
theorem cut_cases (c : UInt8) : ∀ l : List UInt8, c ∉ l ∨ ∃ a r, l = a ++ c :: r ∧ c ∉ a
  | [] => .inl (by simp)
  | b :: l => by
    by_cases h : b = c
    · exact .inr ⟨[], l, by rw [h]; rfl, by simp⟩
    · rcases cut_cases c l with h1 | ⟨a, r, h1, h2⟩
      · exact .inl (by simp only [List.mem_cons, not_or]; exact ⟨fun e => h e.symm, h1⟩)
      · exact .inr ⟨b :: a, r, by rw [h1]; rfl, by simp only [List.mem_cons, not_or]; exact ⟨fun e => h e.symm, h2⟩⟩
theorem cutAt_le (c : UInt8) (l : List UInt8) : (cutAt c l).1.length ≤ l.length ∧ (cutAt c l).2.1.length ≤ l.length := by
  rcases cut_cases c l with h | ⟨a, r, rfl, h⟩
  · rw [cutAt_none c l h]; simp
  · rw [cutAt_app c a r h]; simp; omega

def nameMarks : List UInt8 := [45, 46, 95, 126]
def pathMarks : List UInt8 := [45, 46, 95, 126, 33, 36, 38, 39, 40, 41, 42, 43, 44, 59, 61, 58, 64, 47]
def queryMarks : List UInt8 := [45, 46, 95, 126, 33, 36, 38, 39, 40, 41, 42, 43, 44, 59, 61, 58, 64, 47, 63]
/-- A letter, a digit, a mark. -/
def plainB (ms : List UInt8) (c : UInt8) : Bool := Oct.letter (c.toNat : Int) || Oct.digit (c.toNat : Int) || ms.contains c
def hexB (c : UInt8) : Bool := Oct.isHex (c.toNat : Int)
theorem hex_plain_tab : ∀ k : Fin 256, hexB (UInt8.ofNat k.val) = true → plainB [] (UInt8.ofNat k.val) = true ∧ UInt8.ofNat k.val ≠ 37 := by decide +kernel
theorem hex_plain (ms : List UInt8) (c : UInt8) (h : hexB c = true) : plainB ms c = true ∧ c ≠ 37 := by
  have e : UInt8.ofNat c.toNat = c := by simp
  have := hex_plain_tab ⟨c.toNat, c.toNat_lt⟩
  simp only [e] at this
  obtain ⟨h1, h2⟩ := this h
  refine ⟨?_, h2⟩
  simp only [plainB, List.contains_nil, Bool.or_false] at h1
  simp only [plainB, h1, Bool.true_or]
/-- May c stand there, with r behind it? -/
def okAt (ms : List UInt8) (c : UInt8) : List UInt8 → Bool
  | a :: b :: _ => if c = 37 then hexB a && hexB b else plainB ms c
  | _ => plainB ms c
def written (ms : List UInt8) : List UInt8 → Bool
  | [] => true
  | c :: r => okAt ms c r && written ms r
theorem okAt_plain (ms : List UInt8) (c : UInt8) (r : List UInt8) (h : c ≠ 37) : okAt ms c r = plainB ms c := by
  unfold okAt
  split
  · rw [if_neg h]
  · rfl
theorem no_pct {ms : List UInt8} (h : ms.contains 37 = false) : plainB ms 37 = false := by
  simp only [plainB, h, Bool.or_false]; decide
theorem written_plain {ms : List UInt8} (hm : ms.contains 37 = false) (c : UInt8) (r : List UInt8) (h : plainB ms c = true) : written ms (c :: r) = written ms r := by
  have hc : c ≠ 37 := fun e => by rw [e, no_pct hm] at h; cases h
  rw [written, okAt_plain ms c r hc, h, Bool.true_and]
theorem written_pct {ms : List UInt8} (a b : UInt8) (r : List UInt8) : written ms (37 :: a :: b :: r) = ((hexB a && hexB b) && written ms r) := by
  rw [written, okAt, if_pos rfl]
  cases ha : hexB a with
  | false => rfl
  | true =>
    cases hb : hexB b with
    | false => rfl
    | true =>
      rw [written, written, okAt_plain ms a _ (hex_plain ms a ha).2, okAt_plain ms b _ (hex_plain ms b hb).2, (hex_plain ms a ha).1, (hex_plain ms b hb).1]
      rfl
theorem written_not {ms : List UInt8} (c : UInt8) (r : List UInt8) (h : plainB ms c = false) (hc : c ≠ 37 ∨ r.length < 2) : written ms (c :: r) = false := by
  rw [written]
  have : okAt ms c r = false := by
    rcases hc with hc | hc
    · rw [okAt_plain ms c r hc]; exact h
    · match r, hc with
      | [], _ => exact h
      | [a], _ => exact h
  rw [this]; rfl
theorem okAt_app {ms : List UInt8} (hm : ms.contains 37 = false) (c : UInt8) (r m : List UInt8) (h : okAt ms c r = true) : okAt ms c (r ++ m) = true := by
  by_cases hc : c = 37
  · subst hc
    match r, h with
    | a :: b :: _, h => exact h
    | [], h => exact absurd (show plainB ms 37 = true from h) (by rw [no_pct hm]; decide)
    | [a], h => exact absurd (show plainB ms 37 = true from h) (by rw [no_pct hm]; decide)
  · rw [okAt_plain _ _ _ hc] at h ⊢; exact h
theorem written_app {ms : List UInt8} (hm : ms.contains 37 = false) : ∀ (l m : List UInt8), written ms l = true → written ms m = true → written ms (l ++ m) = true
  | [], _, _, h => h
  | c :: r, m, h1, h2 => by
    rw [written, Bool.and_eq_true] at h1
    rw [List.cons_append, written, written_app hm r m h1.2 h2, Bool.and_true]
    exact okAt_app hm c r m h1.1
theorem okAt_some {ms : List UInt8} {c : UInt8} {r : List UInt8} (h : okAt ms c r = true) : plainB ms c = true ∨ c = 37 := by
  by_cases hc : c = 37
  · exact .inr hc
  · rw [okAt_plain _ _ _ hc] at h; exact .inl h
/-- What isn't plain and isn't % stands nowhere. -/
theorem written_no {ms : List UInt8} (x : UInt8) (hx : plainB ms x = false) (h37 : x ≠ 37) : ∀ l : List UInt8, written ms l = true → x ∉ l
  | [], _ => by simp
  | c :: r, h => by
    rw [written, Bool.and_eq_true] at h
    simp only [List.mem_cons, not_or]
    refine ⟨fun e => ?_, written_no x hx h37 r h.2⟩
    subst e
    rcases okAt_some h.1 with h | h
    · rw [hx] at h; cases h
    · exact h37 h

def nameOk (l : List UInt8) : Bool := !l.isEmpty && (decide (l.length ≤ 255) && l.all (plainB nameMarks))
def portOk (l : List UInt8) : Bool := decide (l.length ≤ 5) && decide ((readOf 10 65535 l).2 = 0)
def hostB (l : List UInt8) : Bool := nameOk (cutAt 58 l).1 && (!(cutAt 58 l).2.2 || portOk (cutAt 58 l).2.1)
def pathB (l : List UInt8) : Bool := decide (l.head? = some 47) && written pathMarks l
def queryB (l : List UInt8) : Bool := written queryMarks l

/-- A port is of digits. -/
theorem port_no_colon {l : List UInt8} (h : portOk l = true) : (58 : UInt8) ∉ l := by
  intro hm
  simp only [portOk, Bool.and_eq_true, decide_eq_true_eq] at h
  have hall : l.all (digitOf 10) = false := by
    rw [List.all_eq_false]
    exact ⟨58, hm, by decide +kernel⟩
  rw [readOf, hall] at h
  simp at h

/-- A target: its form, host, path, query, and whether there is a question mark. -/
structure Tg where
  form : Nat
  host : List UInt8
  path : List UInt8
  query : List UInt8
  asked : Bool
deriving DecidableEq
def none' : Tg := ⟨0, [], [], [], false⟩
def ended (c : UInt8) : Bool := c == 47 || c == 63
def http : List UInt8 := [104, 116, 116, 112, 58, 47, 47]
def origin (l : List UInt8) : Option Tg := if (pathB (cutAt 63 l).1 && queryB (cutAt 63 l).2.1) = true then some ⟨1, [], (cutAt 63 l).1, (cutAt 63 l).2.1, (cutAt 63 l).2.2⟩ else none
/-- A slash ahead, where there is none. -/
def slashed (l : List UInt8) : List UInt8 := if l.head? = some 47 then l else 47 :: l
def hostOf (l : List UInt8) : List UInt8 := l.takeWhile fun c => !ended c
def restOf (l : List UInt8) : List UInt8 := l.dropWhile fun c => !ended c
def absolute (l : List UInt8) : Option Tg :=
  match origin (slashed (restOf l)) with
  | none => none
  | some t => if hostB (hostOf l) = true then some ⟨2, hostOf l, t.path, t.query, t.asked⟩ else none
def authority (l : List UInt8) : Option Tg := if (l.contains 58 && hostB l) = true then some ⟨3, l, [], [], false⟩ else none
def connect : List UInt8 := [67, 79, 78, 78, 69, 67, 84]
def options : List UInt8 := [79, 80, 84, 73, 79, 78, 83]
/-- Does l begin with the scheme? -/
def schemed (l : List UInt8) : Bool := decide (7 ≤ l.length) && (low (l.take 7) == low http)
def parse (m l : List UInt8) : Option Tg :=
  if m = connect then authority l
  else if m = options ∧ l = [42] then some ⟨4, [], [], [], false⟩
  else if l.head? = some 47 then origin l
  else if schemed l = true then absolute (l.drop 7)
  else none
def putPath (t : Tg) : List UInt8 := if t.asked = true then t.path ++ 63 :: t.query else t.path
def put (t : Tg) : List UInt8 :=
  if t.form = 1 then putPath t
  else if t.form = 2 then http ++ (t.host ++ putPath t)
  else if t.form = 3 then t.host
  else if t.form = 4 then [42]
  else []

theorem putPath_origin {l : List UInt8} {t : Tg} (h : origin l = some t) : putPath t = l ∧ t.form = 1 ∧ t.host = [] := by
  unfold origin at h
  split at h
  · obtain rfl := Option.some.inj h
    refine ⟨?_, rfl, rfl⟩
    unfold putPath
    rcases cut_cases 63 l with h1 | ⟨a, r, rfl, h1⟩
    · simp only [cutAt_none 63 l h1]; rfl
    · simp only [cutAt_app 63 a r h1]; rfl
  · cases h
theorem slashed_head (l : List UInt8) : ∃ r, slashed l = 47 :: r := by
  unfold slashed
  split
  · rename_i h
    cases l with
    | nil => simp at h
    | cons c r =>
      obtain rfl : c = 47 := by simpa using h
      exact ⟨r, rfl⟩
  · exact ⟨l, rfl⟩
theorem takeWhile_all {p : UInt8 → Bool} : ∀ (l : List UInt8), ∀ x ∈ l.takeWhile p, p x = true
  | [], _, h => by cases h
  | c :: l, x, h => by
    rw [List.takeWhile_cons] at h
    split at h
    · rename_i hc
      rcases List.mem_cons.1 h with e | e
      · rw [e]; exact hc
      · exact takeWhile_all l x e
    · cases h
theorem host_cut (p : UInt8 → Bool) (h r : List UInt8) (c : UInt8) (hh : ∀ x ∈ h, p x = true) (hc : p c = false) : (h ++ c :: r).takeWhile p = h ∧ (h ++ c :: r).dropWhile p = c :: r := by
  induction h with
  | nil => simp [hc]
  | cons x h ih =>
    obtain ⟨i1, i2⟩ := ih fun y hy => hh y (by simp [hy])
    have hx := hh x (by simp)
    simp only [List.cons_append, List.takeWhile_cons, List.dropWhile_cons, hx, if_true]
    exact ⟨by rw [i1], i2⟩
theorem schemed_http (l : List UInt8) : schemed (http ++ l) = true := by
  unfold schemed
  have e : (http ++ l).take 7 = http := by rw [List.take_append_of_le_length (by decide)]; rfl
  rw [e]
  simp [http]
theorem drop_http (l : List UInt8) : (http ++ l).drop 7 = l := rfl
/-- A target that was read of a text reads of its own text as the same. -/
theorem back {m l : List UInt8} {t : Tg} (h : parse m l = some t) : parse m (put t) = some t := by
  unfold parse at h
  split at h
  · rename_i hm
    unfold authority at h
    split at h
    · rename_i hk
      obtain rfl := Option.some.inj h
      have e : put ⟨3, l, [], [], false⟩ = l := rfl
      rw [e, parse, if_pos hm, authority, if_pos hk]
    · cases h
  · rename_i hm
    split at h
    · rename_i ho
      obtain rfl := Option.some.inj h
      have e : put ⟨4, [], [], [], false⟩ = [42] := rfl
      rw [e, parse, if_neg hm, if_pos ⟨ho.1, rfl⟩]
    · rename_i ho
      split at h
      · rename_i hs
        obtain ⟨e1, e2, _⟩ := putPath_origin h
        have e : put t = l := by rw [put, if_pos e2, e1]
        rw [e, parse, if_neg hm, if_neg ho, if_pos hs, h]
      · split at h
        · unfold absolute at h
          generalize hl : l.drop 7 = k at h
          split at h
          · cases h
          · rename_i u hu
            split at h
            · rename_i hh
              obtain rfl := Option.some.inj h
              obtain ⟨e1, _, _⟩ := putPath_origin hu
              have e : put ⟨2, hostOf k, u.path, u.query, u.asked⟩ = http ++ (hostOf k ++ slashed (restOf k)) := by
                rw [← e1]; rfl
              obtain ⟨r, hr⟩ := slashed_head (restOf k)
              obtain ⟨c1, c2⟩ := host_cut (fun c => !ended c) (hostOf k) r 47 (takeWhile_all k) (by decide)
              have d1 : hostOf (hostOf k ++ slashed (restOf k)) = hostOf k := by rw [hr]; exact c1
              have d2 : restOf (hostOf k ++ slashed (restOf k)) = slashed (restOf k) := by rw [hr]; exact c2
              have d3 : slashed (slashed (restOf k)) = slashed (restOf k) := by rw [hr]; rfl
              rw [e, parse, if_neg hm, if_neg (by rintro ⟨_, h⟩; simp [http] at h), if_neg (by simp [http]), if_pos (schemed_http _), drop_http, absolute, d1, d2, d3, hu]
              simp only
              rw [if_pos hh]
            · cases h
        · cases h
end Go.Proofs.YtlignmlkoahbmaaGreatDoor.Tgt
