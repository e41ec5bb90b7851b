/-
  Layer 8 (request): what is read of a line that the strict reader takes, by every profile; of a line with a given method. No program is spoken of.
-/
import Derived.Test.YtlignmlkoahbmaaDoorReqParts
namespace Go.Proofs.YtlignmlkoahbmaaDoor.Rq
open Go.RowKit Base Txt

/-- No clause at all. -/
def c0 : Cl := ⟨false, false, false, false, false, false⟩
theorem clOf_zero : clOf 0 = c0 := by simp only [clOf, c0, Cl.mk.injEq]; decide
theorem join3 {l a b d : List UInt8} (h : parts 32 l = [a, b, d]) : l = a ++ 32 :: (b ++ 32 :: d) := by
  have key : ∀ l : List UInt8, ∀ x r, parts 32 l = x :: r → (r = [] ∧ l = x) ∨ ∃ t, l = x ++ 32 :: t ∧ parts 32 t = r := by
    intro l
    induction l with
    | nil => intro x r h; rw [parts] at h; cases h; exact .inl ⟨rfl, rfl⟩
    | cons c l ih =>
      intro x r h
      rw [parts] at h
      by_cases hc : c = 32
      · rw [if_pos hc] at h
        cases h
        exact .inr ⟨l, by rw [hc]; rfl, rfl⟩
      · rw [if_neg hc] at h
        cases hp : parts 32 l with
        | nil => have := parts_length 32 l; rw [hp] at this; simp at this
        | cons y s =>
          rw [hp] at h
          simp only [List.cons.injEq] at h
          obtain ⟨h1, h2⟩ := h
          rcases ih y s hp with ⟨g1, g2⟩ | ⟨t, g1, g2⟩
          · exact .inl ⟨by rw [← h2, g1], by rw [← h1, g2]⟩
          · exact .inr ⟨t, by rw [← h1, g1]; rfl, by rw [g2, h2]⟩
  rcases key l a [b, d] h with ⟨h1, _⟩ | ⟨t, h1, h2⟩
  · cases h1
  · rcases key t b [d] h2 with ⟨g1, _⟩ | ⟨u, g1, g2⟩
    · cases g1
    · rcases key u d [] g2 with ⟨_, k2⟩ | ⟨v, k1, k2⟩
      · rw [h1, g1, k2]
      · have := parts_length 32 v
        rw [k2] at this; simp at this

/-- Strictly three parts, and none but these. -/
theorem pick_c0 {l m t v : List UInt8} (h : pick c0 l = some (m, t, v)) : (∃ sp, spans false l = some sp ∧ sp.length = 3 ∧ m = ext l (sp.getD 0 (0, 0)) ∧ t = ext l ((sp.getD 1 (0, 0)).1, (sp.getD 1 (0, 0)).2) ∧ v = ext l (sp.getD 2 (0, 0))) ∧ l = m ++ 32 :: (t ++ 32 :: v) := by
  unfold pick at h
  cases hs : spans c0.bl l with
  | none => rw [hs] at h; cases h
  | some sp =>
    have hs' : spans false l = some sp := hs
    rw [hs] at h
    dsimp only at h
    have h3 : sp.length = 3 := by
      by_cases hc : (sp.length == 3 || (decide (3 < sp.length) && c0.sp)) = true
      · simpa [c0] using hc
      · rw [if_neg hc, if_neg (by simp [c0])] at h; cases h
    rw [if_pos (by rw [h3]; rfl), h3] at h
    simp only [Option.some.injEq, Prod.mk.injEq] at h
    obtain ⟨rfl, rfl, rfl⟩ := h
    refine ⟨⟨sp, hs', h3, rfl, rfl, rfl⟩, ?_⟩
    have hw : words false l = sp.map (ext l) := by
      rcases words_spans false l with ⟨g, _⟩ | ⟨sp', g1, g2, _⟩
      · rw [g] at hs'; cases hs'
      · rw [g1] at hs'; cases hs'; exact g2
    match sp, h3 with
    | [x, y, z], _ => exact join3 hw

theorem token_table : ∀ k : Fin 256, Oct.oneOf [1] (k.val : Int) = true → k.val ≠ 9 := by decide +kernel
theorem token_tab (x : UInt8) (h : Oct.oneOf [1] (x.toNat : Int) = true) : x ≠ 9 := fun e => by
  have := token_table ⟨x.toNat, x.toNat_lt⟩ h
  rw [e] at this; exact this rfl
theorem visible_tab (x : UInt8) (h : letsT c0 x = true) : x ≠ 9 := fun e => by
  rw [e] at h; revert h; decide
theorem lets_all (c : Cl) (x : UInt8) (h : letsT c0 x = true) : letsT c x = true := by
  have : Oct.visible (x.toNat : Int) = true := by simpa [letsT, c0] using h
  unfold letsT
  rw [this]; rfl
theorem known_shape {v : List UInt8} (h : knownV c0 v = true) : ∃ d : UInt8, v = http1 ++ [d] ∧ Oct.digit (d.toNat : Int) = true ∧ v.getD 7 0 = d := by
  simp only [knownV, Bool.and_eq_true, decide_eq_true_eq, Bool.or_eq_true, beq_iff_eq, c0, Bool.false_and, Bool.false_eq_true, or_false] at h
  obtain ⟨h1, h2, h3⟩ := h
  match v, h1 with
  | [a0, a1, a2, a3, a4, a5, a6, d], _ =>
    refine ⟨d, ?_, h2, rfl⟩
    have e : [a0, a1, a2, a3, a4, a5, a6] = http1 := h3
    rw [← e]; rfl
/-- What the strict reader takes every profile reads alike; of the newer version the line is what Put writes. -/
theorem extends_all {old : Bool} {l m t : List UInt8} {k : Nat} (h : request c0 old l = (m, t, k, 0)) : (∀ c, request c old l = (m, t, k, 0)) ∧ (k = 1 → l = m ++ 32 :: (t ++ [32, 72, 84, 84, 80, 47, 49, 46, 49])) := by
  unfold request at h
  cases hp : pick c0 l with
  | none => rw [hp] at h; simp [badR] at h
  | some x =>
    obtain ⟨m', t', v⟩ := x
    rw [hp] at h
    dsimp only at h
    by_cases hok : (methOk m' && tgtOk c0 m' t') = true
    · rw [if_pos hok] at h
      cases hv : verL c0 v with
      | none => rw [hv] at h; simp [verR] at h
      | some j =>
        rw [hv] at h
        dsimp only at h
        by_cases ho : (j == 0 && !old) = true
        · rw [if_pos ho] at h; simp [verR] at h
        · rw [if_neg ho] at h
          simp only [Prod.mk.injEq, and_true] at h
          obtain ⟨rfl, rfl, rfl⟩ := h
          obtain ⟨⟨sp, hs, h3, e1, e2, e3⟩, hl⟩ := pick_c0 hp
          have hz := (pick_some hp)
          simp only [Bool.and_eq_true] at hok
          obtain ⟨hm, ht⟩ := hok
          have ht' := ht
          unfold tgtOk at ht'
          simp only [Bool.and_eq_true, c0, Bool.or_self, Bool.false_or] at ht'
          obtain ⟨ht1, ht2⟩ := ht'
          have hvne : v ≠ [] := by
            intro e
            have hc := (spans_cov hs).1.at 2 (by omega)
            have hlen := ext_length l (sp[2]'(by omega)) hc.2.2.1
            rw [getD_at sp 2 (by omega)] at e3
            rw [← e3, e] at hlen
            have := hc.2.1
            simp at hlen; omega
          have hkn : knownV c0 v = true := by
            unfold verL at hv
            rw [if_neg hvne] at hv
            by_cases q : knownV c0 v = true
            · exact q
            · rw [if_neg q] at hv; cases hv
          obtain ⟨d, hvd, hdig, h7⟩ := known_shape hkn
          have hall : ∀ x ∈ l, x ≠ 9 := by
            intro x hx
            rw [hl] at hx
            simp only [List.mem_append, List.mem_cons] at hx
            rcases hx with hx | rfl | hx | rfl | hx
            · refine token_tab x ?_
              unfold methOk Oct.allOf at hm
              simp only [Bool.and_eq_true, List.all_eq_true] at hm
              exact hm.2 x hx
            · decide
            · refine visible_tab x ?_
              unfold tgtB at ht1
              rw [List.all_eq_true] at ht1
              exact ht1 x hx
            · decide
            · rw [hvd] at hx
              rcases List.mem_append.1 hx with hx | hx
              · intro e; rw [e] at hx; revert hx; decide
              · intro e
                rw [List.mem_singleton.1 hx] at e
                rw [e] at hdig; revert hdig; decide
          have hsp : ∀ bl, spans bl l = some sp := by
            intro bl
            cases bl with
            | false => exact hs
            | true =>
              have h1 : pcs (sepB false) true l 0 0 = some sp := hs
              have h2 := pcs_loose l 0 0 sp h1
              have h3 : pcs (sepB false) false l 0 0 = pcs (sepB true) false l 0 0 := pcs_congr l 0 0 (fun x hx => by
                have := hall x hx
                simp [sepB, this])
              rw [h3] at h2; exact h2
          refine ⟨fun c => ?_, fun hk => ?_⟩
          · have hpc : pick c l = some (m', t', v) := by
              unfold pick
              rw [hsp c.bl]
              dsimp only
              rw [if_pos (by rw [h3]; rfl), h3, e1, e2, e3]
            have htc : tgtOk c m' t' = true := by
              unfold tgtOk
              rw [ht2, Bool.or_true, Bool.and_true]
              unfold tgtB at ht1 ⊢
              rw [List.all_eq_true] at ht1 ⊢
              exact fun x hx => lets_all c x (ht1 x hx)
            have hkc : knownV c v = true := by
              unfold knownV at hkn ⊢
              simp only [Bool.and_eq_true, Bool.or_eq_true, c0, Bool.false_eq_true, false_and, or_false] at hkn ⊢
              exact ⟨hkn.1, hkn.2.1, .inl hkn.2.2⟩
            have hvc : verL c v = some j := by
              unfold verL at hv ⊢
              rw [if_neg hvne, if_pos hkn] at hv
              rw [if_neg hvne, if_pos hkc]
              by_cases q : v.getD 7 0 = 48
              · rw [if_pos q] at hv ⊢; exact hv
              · rw [if_neg q] at hv ⊢
                by_cases q2 : (v.getD 7 0 == 49) = true
                · rw [q2, Bool.true_or, if_pos rfl] at hv ⊢; exact hv
                · rw [if_neg (by simp [c0]; simpa using q2)] at hv; cases hv
            unfold request
            rw [hpc]
            dsimp only
            rw [hm, htc, if_pos (by rfl), hvc]
            dsimp only
            rw [if_neg ho]
          · subst hk
            rw [hl]
            have hd : d = 49 := by
              unfold verL at hv
              rw [if_neg hvne, if_pos hkn, h7] at hv
              by_cases q : d = 48
              · rw [if_pos q] at hv; simp at hv
              · rw [if_neg q] at hv
                by_cases q2 : (d == 49 || c0.mi) = true
                · simpa [c0] using q2
                · rw [if_neg q2] at hv; cases hv
            rw [hvd, hd]
            simp [http1]
    · rw [if_neg hok] at h; simp [badR] at h

/-- A line of a method, /a and the newer version. -/
def tailA : List UInt8 := [47, 97, 32, 72, 84, 84, 80, 47, 49, 46, 49]
theorem meth_line (l : List UInt8) (old : Bool) (h32 : ∀ x ∈ l, x ≠ 32) (hc : l ≠ Tgt.connect) : request c0 old (l ++ 32 :: tailA) = if l ≠ [] ∧ methOk l = true then (l, [47, 97], 1, 0) else badR := by
  have hn : (32 : UInt8) ∉ l := fun h => h32 32 h rfl
  have hp : parts 32 (l ++ 32 :: tailA) = [l, [47, 97], [72, 84, 84, 80, 47, 49, 46, 49]] := by
    rw [parts_cut 32 l tailA hn]
    have : parts 32 tailA = [[47, 97], [72, 84, 84, 80, 47, 49, 46, 49]] := by decide
    rw [this]
  have hw : words c0.bl (l ++ 32 :: tailA) = [l, [47, 97], [72, 84, 84, 80, 47, 49, 46, 49]] := hp
  by_cases hl : l = []
  · rw [if_neg (fun h => h.1 hl)]
    unfold request
    rw [pick_not (.inl (by rw [hw, hl]; simp))]
  · have hpk := (pick_three (c := c0) (l := l ++ 32 :: tailA) (by rw [hw]; simp; exact fun e => hl e) (by rw [hw]; rfl)).1
    rw [hw] at hpk
    have hb : between c0.bl (l ++ 32 :: tailA) l [72, 84, 84, 80, 47, 49, 46, 49] = [47, 97] := by
      show ext (l ++ 32 :: tailA) (l.length + 1, (l ++ 32 :: tailA).length - 8 - 1) = [47, 97]
      have e : l ++ 32 :: tailA = (l ++ [32]) ++ ([47, 97] ++ [32, 72, 84, 84, 80, 47, 49, 46, 49]) := by simp [tailA]
      have e2 := ext_mid (l ++ [32]) [47, 97] [32, 72, 84, 84, 80, 47, 49, 46, 49]
      rw [← e] at e2
      rw [← e2]
      congr 2
      · simp
      · simp [tailA]
    have hpk' : pick c0 (l ++ 32 :: tailA) = some (l, between c0.bl (l ++ 32 :: tailA) l [72, 84, 84, 80, 47, 49, 46, 49], [72, 84, 84, 80, 47, 49, 46, 49]) := hpk
    rw [hb] at hpk'
    unfold request
    rw [hpk']
    dsimp only
    have ht : tgtOk c0 l [47, 97] = true := by
      have h1 : tgtB c0 [47, 97] = true := by decide
      have h2 : (Tgt.parse l [47, 97]).isSome = true := by
        unfold Tgt.parse
        rw [if_neg hc, if_neg (fun h => by cases h.2)]
        rw [if_pos (by rfl)]
        decide +kernel
      unfold tgtOk
      rw [h1, h2]; rfl
    have hv : verL c0 [72, 84, 84, 80, 47, 49, 46, 49] = some 1 := by decide
    rw [ht, hv, Bool.and_true]
    by_cases hm : methOk l = true
    · rw [if_pos hm, if_pos ⟨hl, hm⟩]; rfl
    · rw [if_neg hm, if_neg (fun h => hm h.2)]
end Go.Proofs.YtlignmlkoahbmaaDoor.Rq
