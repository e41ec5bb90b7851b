/-
  Layer 8 (request): plain words on a first line: its pieces' places, its parts, its version; what is read of it. No program is spoken of.
-/
import Derived.Test.YtlignmlkoahbmaaGreatDoorTextWords
namespace Go.Proofs.YtlignmlkoahbmaaGreatDoor.Rq
open Go.RowKit Base Txt

/-- What stands from a to b. -/
def ext (l : List UInt8) (x : Nat × Nat) : List UInt8 := (l.take x.2).drop x.1
theorem ext_length (l : List UInt8) (x : Nat × Nat) (h : x.2 ≤ l.length) : (ext l x).length = x.2 - x.1 := by
  unfold ext; rw [List.length_drop, List.length_take, Nat.min_eq_left h]
theorem ext_at (l : List UInt8) (x : Nat × Nat) (k : Nat) (hk : k < (ext l x).length) : ∃ h : x.1 + k < l.length, (ext l x)[k] = l[x.1 + k] := by
  have h1 : x.1 + k < l.length := by unfold ext at hk; rw [List.length_drop, List.length_take] at hk; omega
  refine ⟨h1, ?_⟩
  simp only [ext, List.getElem_drop, List.getElem_take]
theorem ext_ba (s : ByteArray) (a b : Nat) : ba (ext s.data.toList (a, b)) = s.extract a b := by
  apply ba_ext
  rw [Lib.extract_data, ext]
  show (s.data.toList.take b).drop a = _
  rw [List.drop_take]
theorem ext_mid (A M B : List UInt8) : ext (A ++ (M ++ B)) (A.length, A.length + M.length) = M := by
  unfold ext
  rw [← List.append_assoc, List.take_append_of_le_length (by simp), List.take_of_length_le (by simp), List.drop_left]
theorem ext_split (l : List UInt8) (a b : Nat) (hab : a ≤ b) : l = l.take a ++ (ext l (a, b) ++ l.drop b) := by
  have e1 : l.drop b = (l.drop a).drop (b - a) := by rw [List.drop_drop]; congr 1; omega
  have e2 : ext l (a, b) = (l.drop a).take (b - a) := by unfold ext; rw [List.drop_take]
  rw [e1, e2, List.take_append_drop, List.take_append_drop]
/-- Trimmed: from the first byte that stays to behind the last. -/
theorem trim_ext (p : UInt8 → Bool) (l : List UInt8) (a b : Nat) (hab : a < b) (hb : b ≤ l.length) (h1 : ∀ j (h : j < l.length), j < a → p l[j] = true) (h2 : ∀ j (h : j < l.length), b ≤ j → p l[j] = true)
    (h3 : ∀ h : a < l.length, p l[a] = false) (h4 : ∀ h : b - 1 < l.length, p l[b - 1] = false) : trimL p l = ext l (a, b) := by
  conv => lhs; rw [ext_split l a b (by omega)]
  have hlen := ext_length l (a, b) hb
  have hlen' : (ext l (a, b)).length = b - a := hlen
  refine trimL_mid p _ _ _ ?_ ?_ (.inr ⟨?_, ?_⟩)
  · intro x hx
    obtain ⟨k, hk, rfl⟩ := List.getElem_of_mem hx
    rw [List.length_take] at hk
    rw [List.getElem_take]
    exact h1 k (by omega) (by omega)
  · intro x hx
    obtain ⟨k, hk, rfl⟩ := List.getElem_of_mem hx
    rw [List.length_drop] at hk
    rw [List.getElem_drop]
    exact h2 _ (by omega) (by omega)
  · refine ⟨l[a]'(by omega), (ext l (a, b)).drop 1, ?_, h3 (by omega)⟩
    have := List.drop_eq_getElem_cons (l := ext l (a, b)) (i := 0) (by omega)
    rw [List.drop_zero] at this
    rw [this]
    obtain ⟨q, e⟩ := ext_at l (a, b) 0 (by omega)
    rw [e]; rfl
  · refine ⟨l[b - 1]'(by omega), (ext l (a, b)).take (b - a - 1), ?_, h4 (by omega)⟩
    have e3 := List.take_succ_eq_append_getElem (l := ext l (a, b)) (i := b - a - 1) (by omega)
    rw [List.take_of_length_le (by omega)] at e3
    obtain ⟨q, e⟩ := ext_at l (a, b) (b - a - 1) (by omega)
    have e5 : l[(a, b).1 + (b - a - 1)] = l[b - 1]'(by omega) := by congr 1; show a + (b - a - 1) = b - 1; omega
    rw [e, e5] at e3
    exact e3

/-- The places of the pieces between bytes of the kind; strict: none may be empty. -/
def pcs (p : UInt8 → Bool) (strict : Bool) : List UInt8 → Nat → Nat → Option (List (Nat × Nat))
  | [], i, a => if i = a then (if strict = true then none else some []) else some [(a, i)]
  | x :: t, i, a => if p x = true then (if i = a then (if strict = true then none else pcs p strict t (i + 1) (i + 1)) else (pcs p strict t (i + 1) (i + 1)).map ((a, i) :: ·)) else pcs p strict t (i + 1) a
def sepB (bl : Bool) (x : UInt8) : Bool := x == 32 || (bl && x == 9)
theorem sepB_true : sepB true = Txt.blank := by funext x; simp [sepB, Txt.blank]
def spans (bl : Bool) (l : List UInt8) : Option (List (Nat × Nat)) := pcs (sepB bl) (!bl) l 0 0

theorem pcs_congr {p q : UInt8 → Bool} {st : Bool} : ∀ (t : List UInt8) (i a : Nat), (∀ x ∈ t, p x = q x) → pcs p st t i a = pcs q st t i a
  | [], _, _, _ => rfl
  | x :: t, i, a, h => by
    have h1 := h x (by simp)
    have h2 := fun i a => pcs_congr (p := p) (q := q) (st := st) t i a fun y hy => h y (by simp [hy])
    simp only [pcs, h1, h2]
theorem pcs_loose {p : UInt8 → Bool} : ∀ (t : List UInt8) (i a : Nat) (sp : List (Nat × Nat)), pcs p true t i a = some sp → pcs p false t i a = some sp
  | [], i, a, sp, h => by
    simp only [pcs] at h ⊢
    split at h
    · cases h
    · rename_i hi
      rw [if_neg hi]; exact h
  | x :: t, i, a, sp, h => by
    simp only [pcs] at h ⊢
    split at h
    · rename_i hp
      rw [if_pos hp]
      split at h
      · cases h
      · rename_i hi
        rw [if_neg hi]
        cases hq : pcs p true t (i + 1) (i + 1) with
        | none => rw [hq] at h; cases h
        | some r =>
          rw [hq] at h
          rw [pcs_loose t _ _ r hq]; exact h
    · rename_i hp
      rw [if_neg hp]
      exact pcs_loose t _ _ sp h
/-- Not strict there are always some. -/
theorem pcs_some {p : UInt8 → Bool} : ∀ (t : List UInt8) (i a : Nat), ∃ sp, pcs p false t i a = some sp
  | [], i, a => by
    simp only [pcs]
    by_cases h : i = a
    · exact ⟨[], by rw [if_pos h]; rfl⟩
    · exact ⟨[(a, i)], by rw [if_neg h]⟩
  | x :: t, i, a => by
    obtain ⟨r1, h1⟩ := pcs_some (p := p) t (i + 1) (i + 1)
    obtain ⟨r2, h2⟩ := pcs_some (p := p) t (i + 1) a
    simp only [pcs, h1, h2]
    by_cases hp : p x = true
    · by_cases h : i = a
      · exact ⟨r1, by rw [if_pos hp, if_pos h]; rfl⟩
      · exact ⟨(a, i) :: r1, by rw [if_pos hp, if_neg h]; rfl⟩
    · exact ⟨r2, by rw [if_neg hp]⟩

/-- Pieces cover a text from a place on: between them and behind them only what parts them. -/
def Cov (p : UInt8 → Bool) (l : List UInt8) : Nat → List (Nat × Nat) → Prop
  | o, [] => ∀ j (h : j < l.length), o ≤ j → p l[j] = true
  | o, x :: r => o ≤ x.1 ∧ x.1 < x.2 ∧ x.2 ≤ l.length ∧ (∀ j (h : j < l.length), o ≤ j → j < x.1 → p l[j] = true) ∧ (∀ j (h : j < l.length), x.1 ≤ j → j < x.2 → p l[j] = false) ∧ (∀ h : x.2 < l.length, p l[x.2] = true) ∧ Cov p l x.2 r
/-- .. each begins a byte behind the one ahead, from a place on up to the end. -/
def Tight (n : Nat) : Nat → List (Nat × Nat) → Prop
  | _, [] => False
  | o, [x] => x.1 = o ∧ x.2 = n
  | o, x :: y :: r => x.1 = o ∧ Tight n (x.2 + 1) (y :: r)
theorem Cov.from {p : UInt8 → Bool} {l : List UInt8} : ∀ {o o' : Nat} {sp : List (Nat × Nat)}, o' ≤ o → (∀ j (h : j < l.length), o' ≤ j → j < o → p l[j] = true) → Cov p l o sp → Cov p l o' sp
  | o, o', [], _, hg, hc => fun j h hj => by
    rcases Nat.lt_or_ge j o with h1 | h1
    · exact hg j h hj h1
    · exact hc j h h1
  | o, o', x :: r, ho, hg, ⟨h1, h2, h3, h4, h5, h6, h7⟩ => ⟨by omega, h2, h3, fun j h hj hx => by
      rcases Nat.lt_or_ge j o with h8 | h8
      · exact hg j h hj h8
      · exact h4 j h h8 hx, h5, h6, h7⟩
theorem pcs_cov {p : UInt8 → Bool} {st : Bool} {l : List UInt8} : ∀ (t : List UInt8) (i a : Nat) (sp : List (Nat × Nat)), l.drop i = t → i ≤ l.length → a ≤ i → (∀ j (h : j < l.length), a ≤ j → j < i → p l[j] = false) → pcs p st t i a = some sp →
    Cov p l a sp ∧ (st = true → Tight l.length a sp)
  | [], i, a, sp, hd, hi, ha, hw, h => by
    have hil : i = l.length := by have := congrArg List.length hd; rw [List.length_drop] at this; simp at this; omega
    simp only [pcs] at h
    by_cases hia : i = a
    · rw [if_pos hia] at h
      cases st with
      | true => simp at h
      | false =>
        simp at h; subst h
        refine ⟨fun j hj hj2 => by omega, fun h => by cases h⟩
    · rw [if_neg hia] at h
      cases h
      exact ⟨⟨Nat.le_refl _, by show a < i; omega, by show i ≤ _; omega, fun j _ h1 h2 => by exact absurd h2 (by show ¬ j < a; omega), fun j h h1 h2 => hw j h h1 h2, fun h => by exact absurd h (by show ¬ i < _; omega), fun j h hj => by exact absurd hj (by show ¬ i ≤ j; omega)⟩, fun _ => ⟨rfl, hil⟩⟩
  | x :: t, i, a, sp, hd, hi, ha, hw, h => by
    have hil : i < l.length := by have := congrArg List.length hd; rw [List.length_drop] at this; simp at this; omega
    have hdc := List.drop_eq_getElem_cons hil
    rw [hd] at hdc
    have hx : l[i] = x := (List.cons.inj hdc).1.symm
    have ht : l.drop (i + 1) = t := (List.cons.inj hdc).2.symm
    have hxi : p x = true → ∀ j (hj : j < l.length), i ≤ j → j < i + 1 → p l[j] = true := fun hp j hj h1 h2 => by
      obtain rfl : j = i := by omega
      rw [hx]; exact hp
    simp only [pcs] at h
    by_cases hp : p x = true
    · rw [if_pos hp] at h
      by_cases hia : i = a
      · rw [if_pos hia] at h
        cases st with
        | true => simp at h
        | false =>
          simp only [Bool.false_eq_true, if_false] at h
          have ih := pcs_cov t (i + 1) (i + 1) sp ht (by omega) (by omega) (fun j _ h1 h2 => by omega) h
          exact ⟨ih.1.from (by omega) (fun j hj h1 h2 => hxi hp j hj (by omega) h2), fun h => by cases h⟩
      · rw [if_neg hia] at h
        cases hq : pcs p st t (i + 1) (i + 1) with
        | none => rw [hq] at h; cases h
        | some r =>
          rw [hq] at h
          simp only [Option.map_some, Option.some.injEq] at h
          subst h
          have ih := pcs_cov t (i + 1) (i + 1) r ht (by omega) (by omega) (fun j _ h1 h2 => by omega) hq
          have hc := ih.1.from (o' := i) (by omega) (hxi hp)
          refine ⟨⟨Nat.le_refl _, by show a < i; omega, by show i ≤ _; omega, fun j _ h1 h2 => by exact absurd h2 (by show ¬ j < a; omega), fun j h h1 h2 => hw j h h1 h2, fun _ => by show p l[i] = true; rw [hx]; exact hp, hc⟩, fun hs => ?_⟩
          have h2 := ih.2 hs
          cases r with
          | nil => exact absurd h2 (by simp [Tight])
          | cons y r => exact ⟨rfl, h2⟩
    · rw [if_neg hp] at h
      refine pcs_cov t (i + 1) a sp ht (by omega) (by omega) (fun j hj h1 h2 => ?_) h
      rcases Nat.lt_or_ge j i with h3 | h3
      · exact hw j hj h1 h3
      · obtain rfl : j = i := by omega
        rw [hx]; simpa using hp
theorem Cov.at {p : UInt8 → Bool} {l : List UInt8} : ∀ {o : Nat} {sp : List (Nat × Nat)}, Cov p l o sp → ∀ k (hk : k < sp.length), o ≤ sp[k].1 ∧ sp[k].1 < sp[k].2 ∧ sp[k].2 ≤ l.length ∧ ∀ j (h : j < l.length), sp[k].1 ≤ j → j < sp[k].2 → p l[j] = false
  | o, x :: r, ⟨h1, h2, h3, h4, h5, h6, h7⟩, 0, _ => ⟨h1, h2, h3, h5⟩
  | o, x :: r, ⟨h1, h2, h3, h4, h5, h6, h7⟩, k + 1, hk => by
    have := h7.at k (by simpa using hk)
    simp only [List.getElem_cons_succ]
    exact ⟨by omega, this.2⟩
theorem Cov.gap {p : UInt8 → Bool} {l : List UInt8} : ∀ {o : Nat} {sp : List (Nat × Nat)}, Cov p l o sp → ∀ k (hk : k + 1 < sp.length), sp[k].2 < sp[k + 1].1 ∧ ∀ j (h : j < l.length), sp[k].2 ≤ j → j < sp[k + 1].1 → p l[j] = true
  | o, x :: y :: r, ⟨h1, h2, h3, h4, h5, h6, h7⟩, 0, _ => by
    obtain ⟨g1, g2, g3, g4, g5, _, _⟩ := h7
    simp only [List.getElem_cons_zero, List.getElem_cons_succ]
    refine ⟨?_, g4⟩
    rcases Nat.lt_or_ge x.2 y.1 with h | h
    · exact h
    · have e : x.2 = y.1 := by omega
      have f1 := h6 (by omega)
      have f2 := g5 x.2 (by omega) (by omega) (by omega)
      rw [f1] at f2; cases f2
  | o, x :: r, ⟨h1, h2, h3, h4, h5, h6, h7⟩, k + 1, hk => by
    simp only [List.getElem_cons_succ]
    exact h7.gap k (by simpa using hk)
  | o, [x], _, 0, hk => by simp at hk
theorem Cov.first {p : UInt8 → Bool} {l : List UInt8} {o : Nat} {sp : List (Nat × Nat)} (h : Cov p l o sp) (h0 : 0 < sp.length) : ∀ j (h : j < l.length), o ≤ j → j < sp[0].1 → p l[j] = true := by
  cases sp with
  | nil => simp at h0
  | cons x r => exact h.2.2.2.1
theorem Cov.last {p : UInt8 → Bool} {l : List UInt8} : ∀ {o : Nat} {sp : List (Nat × Nat)}, Cov p l o sp → ∀ (h0 : 0 < sp.length), ∀ j (h : j < l.length), (sp[sp.length - 1]'(by omega)).2 ≤ j → p l[j] = true
  | o, [x], ⟨_, _, _, _, _, _, h7⟩, _, j, h, hj => h7 j h hj
  | o, x :: y :: r, ⟨_, _, _, _, _, _, h7⟩, _, j, h, hj => by
    refine h7.last (by simp) j h ?_
    simpa using hj
theorem Tight.at {n : Nat} : ∀ {o : Nat} {sp : List (Nat × Nat)}, Tight n o sp → ∃ h : 0 < sp.length, sp[0].1 = o ∧ (∀ k (hk : k + 1 < sp.length), sp[k + 1].1 = sp[k].2 + 1) ∧ (sp[sp.length - 1]'(by omega)).2 = n
  | o, [x], ⟨h1, h2⟩ => ⟨by simp, h1, fun k hk => by simp at hk, h2⟩
  | o, x :: y :: r, ⟨h1, h2⟩ => by
    obtain ⟨g0, g1, g2, g3⟩ := h2.at
    refine ⟨by simp, h1, fun k hk => ?_, by simpa using g3⟩
    cases k with
    | zero => simpa using g1
    | succ k => have := g2 k (by simpa using hk); exact this

/-- What all pieces of a line obey. -/
theorem spans_cov {bl : Bool} {l : List UInt8} {sp : List (Nat × Nat)} (h : spans bl l = some sp) : Cov (sepB bl) l 0 sp ∧ (bl = false → Tight l.length 0 sp) := by
  have := pcs_cov (l := l) l 0 0 sp rfl (Nat.zero_le _) (Nat.le_refl _) (fun j _ _ h => by omega) h
  exact ⟨this.1, fun hb => this.2 (by rw [hb]; rfl)⟩

/-- The parts between single spaces are the pieces; one is empty just where the pieces can't be. -/
theorem parts_pcs (c : UInt8) (p : UInt8 → Bool) (hp : ∀ x, p x = true ↔ x = c) : ∀ (t pre u : List UInt8), (∀ x ∈ u, x ≠ c) →
    (pcs p true t (pre.length + u.length) pre.length = none ∧ [] ∈ parts c (u ++ t)) ∨ ∃ sp, pcs p true t (pre.length + u.length) pre.length = some sp ∧ parts c (u ++ t) = sp.map (ext (pre ++ (u ++ t))) ∧ [] ∉ parts c (u ++ t)
  | [], pre, u, hu => by
    have hn : c ∉ u := fun h => hu c h rfl
    rw [List.append_nil, parts_none c u hn]
    simp only [pcs]
    by_cases h : u = []
    · subst h
      left; exact ⟨by simp, by simp⟩
    · right
      have hl : 0 < u.length := List.length_pos_iff.2 h
      refine ⟨[(pre.length, pre.length + u.length)], by rw [if_neg (by omega)], ?_, by simp; exact fun e => h e⟩
      have := ext_mid pre u []
      rw [List.append_nil] at this
      simp [this]
  | x :: t, pre, u, hu => by
    simp only [pcs]
    have hn : c ∉ u := fun h => hu c h rfl
    by_cases hx : x = c
    · subst hx
      rw [if_pos ((hp x).2 rfl), parts_cut x u t hn]
      by_cases h : u = []
      · subst h
        left; exact ⟨by simp, by simp⟩
      · have hl : 0 < u.length := List.length_pos_iff.2 h
        rw [if_neg (by omega)]
        have ih := parts_pcs x p hp t (pre ++ (u ++ [x])) [] (by simp)
        have e1 : (pre ++ (u ++ [x])).length = pre.length + u.length + 1 := by simp; omega
        rw [List.length_nil, Nat.add_zero, List.nil_append, e1] at ih
        rcases ih with ⟨h1, h2⟩ | ⟨sp, h1, h2, h3⟩
        · left; exact ⟨by rw [h1]; rfl, by simp [h2]⟩
        · right
          refine ⟨_, by rw [h1]; rfl, ?_, by simp [h3]; exact fun e => h e⟩
          rw [List.map_cons, ext_mid pre u (x :: t), h2]
          congr 2
          simp
    · rw [if_neg (fun h => hx ((hp x).1 h))]
      have ih := parts_pcs c p hp t pre (u ++ [x]) (by
        intro y hy
        rcases List.mem_append.1 hy with h | h
        · exact hu y h
        · rw [List.mem_singleton.1 h]; exact hx)
      have e1 : (u ++ [x]) ++ t = u ++ x :: t := by simp
      rw [e1, List.length_append, List.length_singleton, ← Nat.add_assoc] at ih
      exact ih

/-- The parts of a line as the program has them: empty ones too. -/
def words (bl : Bool) (l : List UInt8) : List (List UInt8) := if bl = true then ((spans true l).getD []).map (ext l) else parts 32 l
theorem words_spans (bl : Bool) (l : List UInt8) : (spans bl l = none ∧ [] ∈ words bl l) ∨ ∃ sp, spans bl l = some sp ∧ words bl l = sp.map (ext l) ∧ [] ∉ words bl l := by
  cases bl with
  | false =>
    have := parts_pcs 32 (sepB false) (by intro x; simp [sepB]) l [] [] (by simp)
    simpa [words, spans] using this
  | true =>
    right
    obtain ⟨sp, h⟩ := pcs_some (p := sepB true) l 0 0
    have hs : spans true l = some sp := h
    refine ⟨sp, hs, by simp [words, hs], ?_⟩
    rw [words, if_pos rfl, hs, Option.getD_some]
    intro hm
    obtain ⟨x, hx, he⟩ := List.mem_map.1 hm
    obtain ⟨k, hk, rfl⟩ := List.getElem_of_mem hx
    obtain ⟨_, h2, h3, _⟩ := (spans_cov hs).1.at k hk
    have := ext_length l sp[k] h3
    rw [he] at this
    simp at this; omega
end Go.Proofs.YtlignmlkoahbmaaGreatDoor.Rq
