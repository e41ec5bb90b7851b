/-
  Layer 19 (percent): plain words: one way to write a path, its segments, what dots do. No program is spoken of.
-/
import Derived.Test.YtojjhknejkhdhaaDoorTextWords
import Derived.Test.YtojjhknejkhdhaaDoorOctet
namespace Go.Proofs.YtojjhknejkhdhaaDoor.Pct
open Go.RowKit Base Txt

def hx (c : UInt8) : Bool := Oct.isHex (c.toNat : Int)
def hv (c : UInt8) : Nat := (Oct.hexVal (c.toNat : Int)).toNat
def byte2 (a b : UInt8) : UInt8 := UInt8.ofNat (16 * hv a + hv b)
def bare (c : UInt8) : Bool := Oct.letter (c.toNat : Int) || Oct.digit (c.toNat : Int) || Oct.stands [45, 46, 95, 126] (c.toNat : Int)
def up (n : Nat) : UInt8 := if n < 10 then UInt8.ofNat (48 + n) else UInt8.ofNat (55 + n)
def spell (c : UInt8) : List UInt8 := if bare c then [c] else [37, up (c.toNat / 16), up (c.toNat % 16)]
def plain (c : UInt8) : List UInt8 := [c]
/-- Each percent and two digits as what p says of their byte; none where there are not two. -/
def repl (p : UInt8 → List UInt8) : List UInt8 → Option (List UInt8)
  | [] => some []
  | c :: r => if c = 37 then
      match r with
      | a :: b :: r' => if hx a && hx b then (repl p r').map (p (byte2 a b) ++ ·) else none
      | _ => none
    else (repl p r).map (c :: ·)
def segs (l : List UInt8) : List (List UInt8) := match l with
  | c :: r => if c = 47 then parts 47 r else []
  | [] => []
def lead (x : List UInt8) : Bool := x == [46] || x == [46, 46]
def step (l : List (List UInt8)) (x : List UInt8) : List (List UInt8) := if lead x then (if x == [46, 46] then l.dropLast else l) else l ++ [x]
def trod (l : List (List UInt8)) : List (List UInt8) := l.foldl step []
def lastLeads (l : List (List UInt8)) : Bool := match l.getLast? with
  | some x => lead x
  | none => true
def dots (l : List (List UInt8)) : List (List UInt8) := if trod l = [] ∨ lastLeads l = true then trod l ++ [[]] else trod l
def join (l : List (List UInt8)) : List UInt8 := l.flatMap fun x => 47 :: x
def norm (l : List UInt8) : Option (List UInt8) := match l with
  | c :: _ => if c = 47 then (repl spell l).map fun y => join (dots (segs y)) else none
  | [] => none

theorem repl_nil (p : UInt8 → List UInt8) : repl p [] = some [] := rfl
theorem repl_other (p : UInt8 → List UInt8) (c : UInt8) (r : List UInt8) (h : c ≠ 37) : repl p (c :: r) = (repl p r).map (c :: ·) := by
  conv => lhs; unfold repl
  rw [if_neg h]
theorem repl_two (p : UInt8 → List UInt8) (a b : UInt8) (r : List UInt8) (h : (hx a && hx b) = true) : repl p (37 :: a :: b :: r) = (repl p r).map (p (byte2 a b) ++ ·) := by
  rw [repl, if_pos rfl]; simp only [h, if_true]
theorem repl_bad (p : UInt8 → List UInt8) (a b : UInt8) (r : List UInt8) (h : (hx a && hx b) = false) : repl p (37 :: a :: b :: r) = none := by
  rw [repl, if_pos rfl]; simp [h]
theorem repl_one (p : UInt8 → List UInt8) (a : UInt8) : repl p [37, a] = none := by simp [repl]
theorem repl_last (p : UInt8 → List UInt8) : repl p [37] = none := by simp [repl]
/-- A reading's steps, for an induction. -/
theorem by_steps {M : List UInt8 → Prop} (h0 : M []) (h1 : ∀ c r, c ≠ 37 → M r → M (c :: r)) (h2 : ∀ a b r, (hx a && hx b) = true → M r → M (37 :: a :: b :: r))
    (h3 : ∀ a b r, (hx a && hx b) = false → M (37 :: a :: b :: r)) (h4 : ∀ a, M [37, a]) (h5 : M [37]) : ∀ (n : Nat) (l : List UInt8), l.length ≤ n → M l := by
  intro n
  induction n with
  | zero => intro l hl; obtain rfl := List.length_eq_zero_iff.1 (Nat.le_zero.1 hl); exact h0
  | succ n ih =>
    intro l hl
    match l, hl with
    | [], _ => exact h0
    | c :: r, hl =>
      by_cases hc : c = 37
      · subst hc
        match r, hl with
        | [], _ => exact h5
        | [a], _ => exact h4 a
        | a :: b :: r', hl =>
          cases hh : (hx a && hx b)
          · exact h3 a b r' hh
          · exact h2 a b r' hh (ih r' (by simp at hl; omega))
      · exact h1 c r hc (ih r (by simp at hl; omega))
theorem repl_append (p : UInt8 → List UInt8) : ∀ (a a' b : List UInt8), repl p a = some a' → repl p (a ++ b) = (repl p b).map (a' ++ ·) := by
  intro a
  refine by_steps (M := fun a => ∀ a' b, repl p a = some a' → repl p (a ++ b) = (repl p b).map (a' ++ ·)) ?_ ?_ ?_ ?_ ?_ ?_ a.length a (Nat.le_refl _)
  · intro a' b h; cases h; simp
  · intro c r hc ih a' b h
    rw [repl_other p c r hc] at h
    obtain ⟨r', hr, rfl⟩ := Option.map_eq_some_iff.1 h
    rw [List.cons_append, repl_other p c _ hc, ih r' b hr, Option.map_map]
    rfl
  · intro x y r hh ih a' b h
    rw [repl_two p x y r hh] at h
    obtain ⟨r', hr, rfl⟩ := Option.map_eq_some_iff.1 h
    rw [List.cons_append, List.cons_append, List.cons_append, repl_two p x y _ hh, ih r' b hr, Option.map_map]
    congr 1
    funext z
    simp
  · intro x y r hh a' b h; rw [repl_bad p x y r hh] at h; cases h
  · intro x a' b h; rw [repl_one] at h; cases h
  · intro a' b h; rw [repl_last] at h; cases h
theorem repl_append_none (p : UInt8 → List UInt8) (a a' b : List UInt8) (h : repl p a = some a') (hb : repl p b = none) : repl p (a ++ b) = none := by
  rw [repl_append p a a' b h, hb]; rfl
def below (n : Nat) : List UInt8 := (List.range n).map UInt8.ofNat
theorem any_byte {p : UInt8 → Bool} (h : ∀ k : Fin 256, p (UInt8.ofNat k.val) = true) (c : UInt8) : p c = true := by
  have := h ⟨c.toNat, c.toNat_lt⟩
  rwa [show UInt8.ofNat c.toNat = c by simp] at this
theorem spell_fix (c : UInt8) : repl spell (spell c) = some (spell c) := by
  have := any_byte (p := fun c => repl spell (spell c) == some (spell c)) (by decide +kernel) c
  simpa using this
theorem spell_plain (c : UInt8) : repl plain (spell c) = some [c] := by
  have := any_byte (p := fun c => repl plain (spell c) == some [c]) (by decide +kernel) c
  simpa using this
theorem spell_slash (c : UInt8) : (47 : UInt8) ∉ spell c := by
  have := any_byte (p := fun c => !(spell c).contains 47) (by decide +kernel) c
  simpa using this
theorem spell_len (c : UInt8) : 1 ≤ (spell c).length ∧ (spell c).length ≤ 3 := by
  unfold spell; split <;> simp
theorem hx_slash : hx 47 = false := by decide +kernel
theorem repl_cut (p : UInt8 → List UInt8) : ∀ (a r z : List UInt8), repl p (a ++ 47 :: r) = some z → ∃ a' r', repl p a = some a' ∧ repl p r = some r' ∧ z = a' ++ 47 :: r' := by
  intro a
  refine by_steps (M := fun a => ∀ r z, repl p (a ++ 47 :: r) = some z → ∃ a' r', repl p a = some a' ∧ repl p r = some r' ∧ z = a' ++ 47 :: r') ?_ ?_ ?_ ?_ ?_ ?_ a.length a (Nat.le_refl _)
  · intro r z h
    rw [List.nil_append, repl_other p 47 r (by decide)] at h
    obtain ⟨r', hr, rfl⟩ := Option.map_eq_some_iff.1 h
    exact ⟨[], r', rfl, hr, rfl⟩
  · intro c l hc ih r z h
    rw [List.cons_append, repl_other p c _ hc] at h
    obtain ⟨y, hy, rfl⟩ := Option.map_eq_some_iff.1 h
    obtain ⟨a', r', h1, h2, rfl⟩ := ih r y hy
    exact ⟨c :: a', r', by rw [repl_other p c l hc, h1]; rfl, h2, rfl⟩
  · intro x y l hh ih r z h
    rw [List.cons_append, List.cons_append, List.cons_append, repl_two p x y _ hh] at h
    obtain ⟨u, hu, rfl⟩ := Option.map_eq_some_iff.1 h
    obtain ⟨a', r', h1, h2, rfl⟩ := ih r u hu
    exact ⟨p (byte2 x y) ++ a', r', by rw [repl_two p x y l hh, h1]; rfl, h2, by simp⟩
  · intro x y l hh r z h
    rw [List.cons_append, List.cons_append, List.cons_append, repl_bad p x y _ hh] at h; cases h
  · intro x r z h
    rw [List.cons_append, List.cons_append, List.nil_append, repl_bad p x 47 _ (by rw [hx_slash, Bool.and_false])] at h; cases h
  · intro r z h
    rw [List.cons_append, List.nil_append] at h
    cases r with
    | nil => rw [repl_one] at h; cases h
    | cons b r => rw [repl_bad p 47 b _ (by rw [hx_slash, Bool.false_and])] at h; cases h
theorem repl_noslash (p : UInt8 → List UInt8) (hp : ∀ c, (47 : UInt8) ∉ p c) : ∀ (a a' : List UInt8), (47 : UInt8) ∉ a → repl p a = some a' → (47 : UInt8) ∉ a' := by
  intro a
  refine by_steps (M := fun a => ∀ a', (47 : UInt8) ∉ a → repl p a = some a' → (47 : UInt8) ∉ a') ?_ ?_ ?_ ?_ ?_ ?_ a.length a (Nat.le_refl _)
  · intro a' _ h; cases h; simp
  · intro c l hc ih a' hn h
    rw [repl_other p c l hc] at h
    obtain ⟨y, hy, rfl⟩ := Option.map_eq_some_iff.1 h
    simp only [List.mem_cons, not_or] at hn ⊢
    exact ⟨hn.1, ih y hn.2 hy⟩
  · intro x y l hh ih a' hn h
    rw [repl_two p x y l hh] at h
    obtain ⟨u, hu, rfl⟩ := Option.map_eq_some_iff.1 h
    simp only [List.mem_cons, not_or, List.mem_append] at hn ⊢
    exact ⟨hp _, ih u hn.2.2.2 hu⟩
  · intro x y l hh a' _ h; rw [repl_bad p x y l hh] at h; cases h
  · intro x a' _ h; rw [repl_one] at h; cases h
  · intro a' _ h; rw [repl_last] at h; cases h
theorem cut_same {a a' r r' : List UInt8} (h : a ++ 47 :: r = a' ++ 47 :: r') (h1 : (47 : UInt8) ∉ a) (h2 : (47 : UInt8) ∉ a') : a = a' ∧ r = r' := by
  have e := congrArg (parts 47) h
  rw [parts_cut 47 a r h1, parts_cut 47 a' r' h2] at e
  obtain rfl := (List.cons.inj e).1
  exact ⟨rfl, (List.cons.inj (List.append_cancel_left h)).2⟩
theorem parts_fix : ∀ (n : Nat) (l : List UInt8), l.length ≤ n → repl spell l = some l → ∀ q ∈ parts 47 l, repl spell q = some q ∧ (47 : UInt8) ∉ q := by
  intro n
  induction n with
  | zero =>
    intro l hl h q hq
    obtain rfl := List.length_eq_zero_iff.1 (Nat.le_zero.1 hl)
    simp [parts] at hq
    subst hq; exact ⟨rfl, by simp⟩
  | succ n ih =>
    intro l hl h q hq
    by_cases hm : (47 : UInt8) ∈ l
    · obtain ⟨a, r, rfl, ha⟩ := List.eq_append_cons_of_mem hm
      obtain ⟨a', r', h1, h2, e⟩ := repl_cut spell a r _ h
      obtain ⟨rfl, rfl⟩ := cut_same e ha (repl_noslash spell spell_slash a a' ha h1)
      rw [parts_cut 47 a r ha] at hq
      rcases List.mem_cons.1 hq with rfl | hq
      · exact ⟨h1, ha⟩
      · exact ih r (by simp at hl; omega) h2 q hq
    · rw [parts_none 47 l hm] at hq
      simp at hq; subst hq
      exact ⟨h, hm⟩
theorem repl_fix : ∀ (x y : List UInt8), repl spell x = some y → repl spell y = some y := by
  intro x
  refine by_steps (M := fun x => ∀ y, repl spell x = some y → repl spell y = some y) ?_ ?_ ?_ ?_ ?_ ?_ x.length x (Nat.le_refl _)
  · intro y h; cases h; rfl
  · intro c l hc ih y h
    rw [repl_other spell c l hc] at h
    obtain ⟨u, hu, rfl⟩ := Option.map_eq_some_iff.1 h
    rw [repl_other spell c u hc, ih u hu]; rfl
  · intro a b l hh ih y h
    rw [repl_two spell a b l hh] at h
    obtain ⟨u, hu, rfl⟩ := Option.map_eq_some_iff.1 h
    rw [repl_append spell _ _ u (spell_fix _), ih u hu]; rfl
  · intro x y l hh z h; rw [repl_bad spell x y _ hh] at h; cases h
  · intro x y h; rw [repl_one] at h; cases h
  · intro y h; rw [repl_last] at h; cases h
theorem repl_dec : ∀ (x y : List UInt8), repl spell x = some y → ∃ c, repl plain x = some c ∧ repl plain y = some c := by
  intro x
  refine by_steps (M := fun x => ∀ y, repl spell x = some y → ∃ c, repl plain x = some c ∧ repl plain y = some c) ?_ ?_ ?_ ?_ ?_ ?_ x.length x (Nat.le_refl _)
  · intro y h; cases h; exact ⟨[], rfl, rfl⟩
  · intro c l hc ih y h
    rw [repl_other spell c l hc] at h
    obtain ⟨u, hu, rfl⟩ := Option.map_eq_some_iff.1 h
    obtain ⟨d, h1, h2⟩ := ih u hu
    exact ⟨c :: d, by rw [repl_other plain c l hc, h1]; rfl, by rw [repl_other plain c u hc, h2]; rfl⟩
  · intro a b l hh ih y h
    rw [repl_two spell a b l hh] at h
    obtain ⟨u, hu, rfl⟩ := Option.map_eq_some_iff.1 h
    obtain ⟨d, h1, h2⟩ := ih u hu
    exact ⟨plain (byte2 a b) ++ d, by rw [repl_two plain a b l hh, h1]; rfl, by rw [repl_append plain _ _ u (spell_plain _), h2]; rfl⟩
  · intro x y l hh z h; rw [repl_bad spell x y _ hh] at h; cases h
  · intro x y h; rw [repl_one] at h; cases h
  · intro y h; rw [repl_last] at h; cases h

theorem join_cons (q : List UInt8) (L : List (List UInt8)) : join (q :: L) = 47 :: (q ++ join L) := by simp [join]
theorem segs_cons (r : List UInt8) : segs (47 :: r) = parts 47 r := by simp [segs]
theorem parts_join : ∀ (L : List (List UInt8)) (q : List UInt8), (47 : UInt8) ∉ q → (∀ x ∈ L, (47 : UInt8) ∉ x) → parts 47 (q ++ join L) = q :: L
  | [], q, hq, _ => by simp [join, parts_none 47 q hq]
  | x :: L, q, hq, h => by
    rw [join_cons, parts_cut 47 q _ hq, parts_join L x (h x (by simp)) (fun y hy => h y (by simp [hy]))]
theorem segs_join {L : List (List UInt8)} (hL : L ≠ []) (h : ∀ x ∈ L, (47 : UInt8) ∉ x) : segs (join L) = L := by
  cases L with
  | nil => exact absurd rfl hL
  | cons q L => rw [join_cons, segs_cons, parts_join L q (h q (by simp)) (fun y hy => h y (by simp [hy]))]
theorem join_parts : ∀ l : List UInt8, join (parts 47 l) = 47 :: l
  | [] => rfl
  | b :: l => by
    rw [parts]
    have ih := join_parts l
    by_cases h : b = 47
    · subst h; rw [if_pos rfl, join_cons, List.nil_append, ih]
    · rw [if_neg h]
      cases hp : parts 47 l with
      | nil => rw [hp] at ih; simp [join] at ih
      | cons p ps => rw [hp, join_cons] at ih; simp only [join_cons, List.cons_append]; rw [(List.cons.inj ih).2]
theorem repl_join (p : UInt8 → List UInt8) (f : List UInt8 → List UInt8) : ∀ L : List (List UInt8), (∀ x ∈ L, repl p x = some (f x)) → repl p (join L) = some (join (L.map f))
  | [], _ => rfl
  | q :: L, h => by
    rw [join_cons, repl_other p 47 _ (by decide), repl_append p q _ _ (h q (by simp)), repl_join p f L (fun y hy => h y (by simp [hy]))]
    simp [join_cons]

theorem step_mem {l : List (List UInt8)} {x q : List UInt8} (h : q ∈ step l x) : q ∈ l ∨ (q = x ∧ lead q = false) := by
  unfold step at h
  split at h
  · split at h
    · exact .inl ((List.dropLast_subset _ h))
    · exact .inl h
  · rename_i hl
    rcases List.mem_append.1 h with h | h
    · exact .inl h
    · right; simp at h; subst h; exact ⟨rfl, by simpa using hl⟩
theorem trod_mem' : ∀ (L l : List (List UInt8)) (q : List UInt8), q ∈ L.foldl step l → q ∈ l ∨ (q ∈ L ∧ lead q = false)
  | [], _, _, h => .inl h
  | x :: L, l, q, h => by
    rcases trod_mem' L (step l x) q h with h | ⟨h, hl⟩
    · rcases step_mem h with h | ⟨rfl, hl⟩
      · exact .inl h
      · exact .inr ⟨by simp, hl⟩
    · exact .inr ⟨by simp [h], hl⟩
theorem trod_mem {L : List (List UInt8)} {q : List UInt8} (h : q ∈ trod L) : q ∈ L ∧ lead q = false := by
  rcases trod_mem' L [] q h with h | h
  · simp at h
  · exact h
theorem trod_id' : ∀ (L l : List (List UInt8)), (∀ q ∈ L, lead q = false) → L.foldl step l = l ++ L
  | [], l, _ => by simp
  | x :: L, l, h => by
    rw [List.foldl_cons, trod_id' L _ (fun q hq => h q (by simp [hq]))]
    rw [step, if_neg (by rw [h x (by simp)]; simp)]
    simp
theorem dots_mem {L : List (List UInt8)} {q : List UInt8} (h : q ∈ dots L) : q = [] ∨ (q ∈ L ∧ lead q = false) := by
  unfold dots at h
  split at h
  · rcases List.mem_append.1 h with h | h
    · exact .inr (trod_mem h)
    · left; simpa using h
  · exact .inr (trod_mem h)
theorem dots_lead {L : List (List UInt8)} {q : List UInt8} (h : q ∈ dots L) : lead q = false := by
  rcases dots_mem h with rfl | h
  · rfl
  · exact h.2
theorem dots_ne (L : List (List UInt8)) : dots L ≠ [] := by
  unfold dots
  split
  · simp
  · rename_i h; exact fun e => h (.inl e)
theorem dots_id {L : List (List UInt8)} (hL : L ≠ []) (h : ∀ q ∈ L, lead q = false) : dots L = L := by
  have e : trod L = L := by rw [trod, trod_id' L [] h, List.nil_append]
  rw [dots, if_neg, e]
  rw [e, not_or]
  refine ⟨hL, ?_⟩
  unfold lastLeads
  rw [List.getLast?_eq_some_getLast hL]
  simp [h _ (List.getLast_mem hL)]

def dec (q : List UInt8) : List UInt8 := (repl plain q).getD []
def cost (L : List (List UInt8)) : Nat := (join (L.map dec)).length
theorem cost_nil : cost [] = 0 := rfl
theorem cost_cons (q : List UInt8) (L : List (List UInt8)) : cost (q :: L) = 1 + (dec q).length + cost L := by
  simp [cost, join_cons]; omega
theorem cost_append : ∀ (A B : List (List UInt8)), cost (A ++ B) = cost A + cost B
  | [], B => by simp [cost_nil]
  | q :: A, B => by rw [List.cons_append, cost_cons, cost_cons, cost_append A B]; omega
theorem cost_last (A : List (List UInt8)) : cost A.dropLast ≤ cost A := by
  rcases List.eq_nil_or_concat A with rfl | ⟨B, x, rfl⟩
  · simp
  · simp [cost_append]
theorem cost_step (l : List (List UInt8)) (x : List UInt8) : cost (step l x) ≤ cost l + cost [x] := by
  unfold step
  split
  · split
    · have := cost_last l; omega
    · omega
  · rw [cost_append]; omega
theorem cost_trod : ∀ (L l : List (List UInt8)), cost (L.foldl step l) ≤ cost l + cost L
  | [], l => by simp
  | x :: L, l => by
    have h1 := cost_trod L (step l x)
    have h2 := cost_step l x
    rw [List.foldl_cons, cost_cons]
    rw [cost_cons, cost_nil] at h2
    omega
theorem cost_dots {L : List (List UInt8)} (hL : L ≠ []) : cost (dots L) ≤ cost L := by
  rcases List.eq_nil_or_concat L with rfl | ⟨B, x, rfl⟩
  · exact absurd rfl hL
  · have hB := cost_trod B []
    rw [cost_nil] at hB
    have e : trod (B ++ [x]) = step (trod B) x := by simp [trod]
    have h2 := cost_step (trod B) x
    have hc : cost (B ++ [x]) = cost B + cost [x] := cost_append _ _
    have h1 : 1 ≤ cost [x] := by rw [cost_cons]; omega
    simp only [List.concat_eq_append] at *
    unfold trod at e h2
    unfold dots lastLeads
    rw [List.getLast?_concat]
    cases hl : lead x with
    | false =>
      simp only
      rw [if_neg]
      · unfold trod; rw [e]; omega
      · unfold trod; rw [e, step]; simp [hl]
    | true =>
      rw [if_pos (.inr hl), cost_append]
      have h3 : cost [[]] = 1 := rfl
      have h4 : cost (step (B.foldl step []) x) ≤ cost (B.foldl step []) := by
        unfold step
        rw [hl, if_pos rfl]
        split
        · exact cost_last _
        · exact Nat.le_refl _
      unfold trod; rw [e]; omega

/-- What was written in the one way stays, has no dots, and decodes to no more than it did. -/
theorem norm_once {x a : List UInt8} (h : norm x = some a) :
    norm a = some a ∧ (∃ r, a = 47 :: r) ∧ (∀ q ∈ segs a, lead q = false) ∧ ∃ c d, repl plain x = some c ∧ repl plain a = some d ∧ d.length ≤ c.length := by
  cases x with
  | nil => cases h
  | cons b t =>
    unfold norm at h
    simp only at h
    split at h
    · rename_i hb
      subst hb
      obtain ⟨y, hy, rfl⟩ := Option.map_eq_some_iff.1 h
      clear h
      have hfix := repl_fix _ _ hy
      obtain ⟨c, hc1, hc2⟩ := repl_dec _ _ hy
      rw [repl_other spell 47 t (by decide)] at hy
      obtain ⟨y', hy', rfl⟩ := Option.map_eq_some_iff.1 hy
      simp only [segs_cons] at *
      rw [repl_other spell 47 y' (by decide)] at hfix
      obtain ⟨z, hz, e⟩ := Option.map_eq_some_iff.1 hfix
      obtain rfl := (List.cons.inj e).2
      have hp := parts_fix _ z (Nat.le_refl _) hz
      have hpne : parts 47 z ≠ [] := by
        intro e2; have := join_parts z; rw [e2] at this; simp [join] at this
      have hd : ∀ q ∈ dots (parts 47 z), repl spell q = some q ∧ (47 : UInt8) ∉ q := by
        intro q hq
        rcases dots_mem hq with rfl | hq
        · exact ⟨rfl, by simp⟩
        · exact hp q hq.1
      have hs : segs (join (dots (parts 47 z))) = dots (parts 47 z) := segs_join (dots_ne _) fun q hq => (hd q hq).2
      have hj : repl spell (join (dots (parts 47 z))) = some (join (dots (parts 47 z))) := by
        have := repl_join spell id (dots (parts 47 z)) fun q hq => (hd q hq).1
        simpa using this
      obtain ⟨r, hr⟩ : ∃ r, join (dots (parts 47 z)) = 47 :: r := by
        cases he : dots (parts 47 z) with
        | nil => exact absurd he (dots_ne _)
        | cons q L => exact ⟨_, join_cons q L⟩
      refine ⟨?_, ⟨r, hr⟩, ?_, ?_⟩
      · rw [hr] at hj ⊢
        unfold norm
        simp only [if_true, hj, Option.map_some]
        rw [← hr, hs, dots_id (dots_ne _) (fun q hq => dots_lead hq)]
      · rw [hs]; exact fun q hq => dots_lead hq
      · have hdec : ∀ L : List (List UInt8), (∀ q ∈ L, repl spell q = some q) → repl plain (join L) = some (join (L.map dec)) := by
          intro L hL
          refine repl_join plain dec L fun q hq => ?_
          obtain ⟨c, hc, _⟩ := repl_dec q q (hL q hq)
          rw [dec, hc]; rfl
        have e1 := hdec _ fun q hq => (hd q hq).1
        have e2 := hdec _ fun q hq => (hp q hq).1
        rw [join_parts, hc2] at e2
        refine ⟨c, _, hc1, e1, ?_⟩
        obtain rfl := Option.some.inj e2
        exact cost_dots hpne
    · cases h
end Go.Proofs.YtojjhknejkhdhaaDoor.Pct
