/-
  Layer 6 (line): lines one behind another: how a reader goes through a stream that is made of them. No program is spoken of.
-/
import Derived.Test.YthkgdhkfhidghaaLineBares
namespace Go.Proofs.Ythkgdhkfhidghaa.Ln
open Go.RowKit Base

def plainB (c : UInt8) : Bool := !(c == 10) && !(c == 13)
theorem plain_ne {c : UInt8} (h : plainB c = true) : ¬ c = 10 ∧ ¬ c = 13 := by
  simp only [plainB, Bool.and_eq_true, Bool.not_eq_true', beq_eq_false_iff_ne] at h
  exact h
theorem plain_of {c : UInt8} (h : ¬ c = 10) (h' : ¬ c = 13) : plainB c = true := by
  simp [plainB, h, h']
/-- What the law makes of a line. -/
def wordM (l : List UInt8) : List UInt8 := 120 :: (l.take 20).filter plainB
theorem wordM_le (l : List UInt8) : (wordM l).length ≤ 21 := by
  have h1 := List.length_filter_le plainB (l.take 20)
  rw [List.length_take] at h1
  rw [wordM, List.length_cons]; omega
theorem wordM_plain (l : List UInt8) : ∀ c ∈ wordM l, plainB c = true := by
  intro c hc
  rw [wordM, List.mem_cons] at hc
  rcases hc with rfl | hc
  · decide
  · exact (List.mem_filter.1 hc).2
/-- How the law ends a line. -/
def endM (lf cr : Bool) (e : UInt8) : List UInt8 := if cr && e.toNat % 3 == 2 then [13] else if lf && e.toNat % 3 == 1 then [10] else [13, 10]
/-- An end that may be. -/
def EndOk (lf cr : Bool) (e : List UInt8) : Prop := e = [13, 10] ∨ (lf = true ∧ e = [10]) ∨ (cr = true ∧ e = [13])
theorem endM_ok (lf cr : Bool) (e : UInt8) : EndOk lf cr (endM lf cr e) := by
  unfold endM EndOk
  cases cr <;> cases lf <;> simp <;> by_cases h1 : e.toNat % 3 = 2 <;> by_cases h2 : e.toNat % 3 = 1 <;> simp [h1, h2]
theorem endM_le (lf cr : Bool) (e : UInt8) : (endM lf cr e).length ≤ 2 := by
  unfold endM
  repeat' split
  all_goals simp

/-- The stream of these lines with these ends, and a byte behind them. -/
def strM : List (List UInt8 × List UInt8) → List UInt8
  | [] => [120]
  | p :: ps => p.1 ++ (p.2 ++ strM ps)
structure GoodM (lf cr : Bool) (p : List UInt8 × List UInt8) : Prop where
  head : ∃ r, p.1 = 120 :: r
  plain : ∀ c ∈ p.1, plainB c = true
  len : p.1.length ≤ 21
  fin : EndOk lf cr p.2
theorem strM_head (lf cr : Bool) (ps : List (List UInt8 × List UInt8)) (h : ∀ p ∈ ps, GoodM lf cr p) : ∃ r, strM ps = 120 :: r := by
  cases ps with
  | nil => exact ⟨[], rfl⟩
  | cons p ps =>
    obtain ⟨r, hr⟩ := (h p (by simp)).head
    exact ⟨r ++ (p.2 ++ strM ps), by rw [strM, hr]; rfl⟩

/-- Where a reader stands in a stream: k lines are told; rest is what is to come. -/
inductive At (lf cr : Bool) (want : List (List UInt8)) (m : M) (k : Nat) (rest : List UInt8) : Prop
  | within (u v e : List UInt8) (ps : List (List UInt8 × List UInt8)) (hm : ∀ c, m.byte c = (M.at lf cr 40 u).byte c) (hr : rest = v ++ (e ++ strM ps)) (hw : want.drop k = (u ++ v) :: ps.map (·.1))
      (hv : ∀ c ∈ v, plainB c = true) (hl : (u ++ v).length ≤ 21) (he : EndOk lf cr e) (hp : ∀ p ∈ ps, GoodM lf cr p)
  | behind (u : List UInt8) (ps : List (List UInt8 × List UInt8)) (hm : m = ⟨lf, cr, 40, u, 0, true⟩) (hr : rest = 10 :: strM ps ∨ (cr = true ∧ rest = strM ps)) (hw : want.drop k = u :: ps.map (·.1)) (hp : ∀ p ∈ ps, GoodM lf cr p)
  | last (hm : ∀ c, m.byte c = (M.at lf cr 40 []).byte c) (hr : rest = [120]) (hw : want.drop k = [])
  | over (hr : rest = []) (hw : want.drop k = [])

theorem fresh1 (lf cr : Bool) (u : List UInt8) (c : UInt8) : (M.byte ⟨lf, cr, 40, u, 1, false⟩ c) = (M.at lf cr 40 []).byte c := by
  simp [M.at, M.byte, M.clear, M.told, M.next, M.keeps, f0, f1, d0, d1]
theorem fresh2 (lf cr : Bool) (u : List UInt8) (c : UInt8) : (M.byte ⟨lf, cr, 40, u, 2, false⟩ c) = (M.at lf cr 40 []).byte c := by
  simp [M.at, M.byte, M.clear, M.told, M.next, M.keeps, f0, f2, d0, d2]
theorem at_start {lf cr : Bool} {want : List (List UInt8)} {m : M} {k : Nat} {ps : List (List UInt8 × List UInt8)} (hm : ∀ c, m.byte c = (M.at lf cr 40 []).byte c) (hw : want.drop k = ps.map (·.1)) (hp : ∀ p ∈ ps, GoodM lf cr p) : At lf cr want m k (strM ps) := by
  cases ps with
  | nil => exact .last hm rfl hw
  | cons p ps =>
    have g := hp p (by simp)
    exact .within [] p.1 p.2 ps hm rfl hw g.plain g.len g.fin fun q hq => hp q (by simp [hq])
theorem drop_next {α : Type} {want : List α} {k : Nat} {a : α} {l : List α} (h : want.drop k = a :: l) : k < want.length ∧ want[k]? = some a ∧ want.drop (k + 1) = l := by
  have h1 : k < want.length := by
    rcases Nat.lt_or_ge k want.length with h1 | h1
    · exact h1
    · rw [List.drop_eq_nil_of_le h1] at h; cases h
  rw [List.drop_eq_getElem_cons h1] at h
  injection h with h2 h3
  exact ⟨h1, by rw [List.getElem?_eq_getElem h1, h2], h3⟩

/-- One byte: nothing ends; a line ends; a line has ended, and the byte begins the next one. -/
inductive Told (lf cr : Bool) (want : List (List UInt8)) (m : M) (k : Nat) (c : UInt8) (rest : List UInt8) : Prop
  | more (h : (m.byte c).last = 0) (ha : At lf cr want (m.byte c) k rest)
  | done (h : (m.byte c).last = 1) (hk : k < want.length) (hl : want[k]? = some (m.byte c).line) (ha : At lf cr want (m.byte c) (k + 1) rest)
  | ahead (h : (m.byte c).last = 2) (hk : k < want.length) (hl : want[k]? = some (m.byte c).line) (h2 : ((m.byte c).byte c).last = 0) (ha : At lf cr want ((m.byte c).byte c) (k + 1) rest)

theorem at_told {lf cr : Bool} {want : List (List UInt8)} {m : M} {k : Nat} {c : UInt8} {rest : List UInt8} (h : At lf cr want m k (c :: rest)) : Told lf cr want m k c rest := by
  cases h with
  | within u v e ps hm hr hw hv hl he hp =>
    cases v with
    | cons x v =>
      rw [List.cons_append] at hr
      injection hr with h1 h2
      subst h1
      obtain ⟨n10, n13⟩ := plain_ne (hv c (by simp))
      have hs : m.byte c = M.at lf cr 40 (u ++ [c]) := (hm c).trans (at_step lf cr 40 u c n10 n13 (by rw [List.length_append] at hl; omega))
      refine .more (by rw [hs]; rfl) ?_
      rw [hs]
      exact .within (u ++ [c]) v e ps (fun _ => rfl) h2 (by rw [hw]; simp) (fun y hy => hv y (by simp [hy])) (by simpa using hl) he hp
    | nil =>
      rw [List.append_nil] at hw
      obtain ⟨d1', d2', d3'⟩ := drop_next hw
      rw [List.nil_append] at hr
      rcases he with rfl | ⟨hlf, rfl⟩ | ⟨hcr, rfl⟩
      · rw [List.cons_append] at hr
        injection hr with h1 h2
        subst h1
        have hs := (hm 13).trans (at_cr lf cr 40 u)
        refine .more (by rw [hs]) ?_
        rw [hs]
        exact .behind u ps rfl (.inl h2) hw hp
      · rw [List.cons_append] at hr
        injection hr with h1 h2
        subst h1 hlf
        have hs := (hm 10).trans (at_lf true cr 40 u)
        rw [if_pos rfl] at hs
        refine .done (by rw [hs]) d1' (by rw [hs]; exact d2') ?_
        rw [hs, h2]
        exact at_start (fresh1 true cr u) d3' hp
      · rw [List.cons_append] at hr
        injection hr with h1 h2
        subst h1 hcr
        have hs := (hm 13).trans (at_cr lf true 40 u)
        refine .more (by rw [hs]) ?_
        rw [hs]
        exact .behind u ps rfl (.inr ⟨rfl, h2⟩) hw hp
  | behind u ps hm hr hw hp =>
    obtain ⟨d1', d2', d3'⟩ := drop_next hw
    subst hm
    rcases hr with hr | ⟨hcr, hr⟩
    · injection hr with h1 h2
      subst h1
      have hs : (M.byte ⟨lf, cr, 40, u, 0, true⟩ 10) = ⟨lf, cr, 40, u, 1, false⟩ := by
        simp [M.byte, M.clear, M.told, M.next, M.keeps, f0, d0]
      refine .done (by rw [hs]) d1' (by rw [hs]; exact d2') ?_
      rw [hs, h2]
      exact at_start (fresh1 lf cr u) d3' hp
    · subst hcr
      obtain ⟨r, hr'⟩ := strM_head lf true ps hp
      rw [hr'] at hr
      injection hr with h1 h2
      subst h1
      have hs := pend_else lf true 40 u 120 (by decide)
      rw [if_pos rfl] at hs
      have hs2 : (M.byte ⟨lf, true, 40, u, 2, false⟩ 120) = M.at lf true 40 [120] := (fresh2 lf true u 120).trans (at_step lf true 40 [] 120 (by decide) (by decide) (by decide))
      refine .ahead (by rw [hs]) d1' (by rw [hs]; exact d2') (by rw [hs, hs2]; rfl) ?_
      rw [hs, hs2, h2]
      cases ps with
      | nil =>
        injection hr' with _ h3
        exact .over h3.symm d3'
      | cons p ps =>
        have g := hp p (by simp)
        obtain ⟨t, ht⟩ := g.head
        rw [strM, ht, List.cons_append] at hr'
        injection hr' with _ h3
        refine .within [120] t p.2 ps (fun _ => rfl) h3.symm (by rw [d3', List.map_cons, ht]; rfl) (fun y hy => g.plain y (by rw [ht]; simp [hy])) (by have := g.len; rw [ht] at this; simpa using this) g.fin fun q hq => hp q (by simp [hq])
  | last hm hr hw =>
    injection hr with h1 h2
    subst h1 h2
    have hs : m.byte 120 = M.at lf cr 40 [120] := (hm 120).trans (at_step lf cr 40 [] 120 (by decide) (by decide) (by decide))
    exact .more (by rw [hs]; rfl) (.over rfl hw)
  | over hr hw => cases hr
theorem at_end {lf cr : Bool} {want : List (List UInt8)} {m : M} {k : Nat} (hk : k ≤ want.length) (h : At lf cr want m k []) : k = want.length := by
  have key : want.drop k = [] → k = want.length := fun hd => by
    have := List.drop_eq_nil_iff.1 hd
    omega
  cases h with
  | within u v e ps hm hr hw hv hl he hp =>
    have : e = [] := by
      have := (List.append_eq_nil_iff.1 hr.symm).2
      exact (List.append_eq_nil_iff.1 this).1
    subst this
    rcases he with h | ⟨_, h⟩ | ⟨_, h⟩ <;> cases h
  | behind u ps hm hr hw hp =>
    rcases hr with h | ⟨_, h⟩
    · cases h
    · obtain ⟨r, h'⟩ := strM_head lf cr ps hp
      rw [h'] at h; cases h
  | last hm hr hw => cases hr
  | over hr hw => exact key hw
end Go.Proofs.Ythkgdhkfhidghaa.Ln
