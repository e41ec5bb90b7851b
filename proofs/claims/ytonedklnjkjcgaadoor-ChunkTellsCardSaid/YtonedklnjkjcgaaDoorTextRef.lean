/-
  Layer 3 (text): the document's own Lower, Same, TrimOf, Trim, Split: what they answer, of every text up to a great size: the same plain words as package text's.
-/
import Derived.Test.YtonedklnjkjcgaaDoorText
namespace Go.Proofs.YtonedklnjkjcgaaDoor.Txt
open Go.RowKit Base Oct

theorem stands_isIn (set : ByteArray) (x : UInt8) : stands set.data.toList (x.toNat : Int) = isIn set x := by
  unfold stands isIn
  rw [Bool.eq_iff_iff, List.any_eq_true, List.contains_iff_exists_mem_beq]
  constructor
  · rintro ⟨b, hb, e⟩; exact ⟨b, hb, by rw [beq_iff_eq] at e ⊢; exact (UInt8.toNat_inj.1 (by omega)).symm⟩
  · rintro ⟨b, hb, e⟩; rw [beq_iff_eq] at e; subst e; exact ⟨x, hb, by simp⟩

/-- A block whose first cells are the bytes l, and may be written. -/
def Bytes (w : World) (g : Nat) (l : List UInt8) : Prop := ∀ j (h : j < l.length), w.cell? ⟨g, j, none⟩ = some (.int .u8 (l[j].toNat : Int)) ∧ w.frozen? ⟨g, j, none⟩ = false
theorem Bytes.set {w : World} {g : Nat} {l : List UInt8} (h : Bytes w g l) (k : Nat) (b : UInt8) : Bytes (w.setCell ⟨g, k, none⟩ (.int .u8 (b.toNat : Int))) g (l.set k b) := by
  intro j hj
  rw [List.length_set] at hj
  obtain ⟨c, z⟩ := h j hj
  refine ⟨?_, by rw [World.frozen?_setCell]; exact z⟩
  by_cases e : k = j
  · subst e
    rw [World.cell?_setCell_same _ _ _ c, List.getElem_set_self]
  · rw [World.cell?_setCell_other _ _ _ _ (by simp <;> omega), List.getElem_set_ne e]; exact c
theorem Bytes.below {w w' : World} {g : Nat} {l : List UInt8} (h : Bytes w g l) (hg : g < w.heap.size) (hb : Below w.heap.size w w') : Bytes w' g l :=
  fun j hj => ⟨(hb.cell (p := ⟨g, j, none⟩) hg).trans (h j hj).1, (hb.frozen (p := ⟨g, j, none⟩) hg).trans (h j hj).2⟩
theorem conv_bytes (s : ByteArray) (w : World) : ∃ W cap, (convert 9 22 (.string s)).run Tryd.prog w = .ok (.slice (some ⟨w.heap.size, 0, none⟩) s.size cap) W ∧ Bytes W w.heap.size s.data.toList ∧ w.heap.size < W.heap.size ∧ Below w.heap.size w W := by
  have hcv := run_bytes_of_string (P := Tryd.prog) w 9 22 5 s Tryd.underlying9 Tryd.underlying22 Tryd.underlying5
  refine ⟨_, _, hcv, fun j hj => ?_, by simp, (Below.refl _ _).drew.alloc (Nat.le_refl _) _⟩
  have hj' : j < s.data.size := by simpa using hj
  refine ⟨(World.cell?_alloc_mark w.drew _ _ _ j).trans (bytesRow_at s _ j hj'), (World.frozen?_alloc_mark w.drew _ _ _ _ j).trans ?_⟩
  have : ¬ (bytesRow s (grownCap w s.size 0 5)).size ≤ j := by
    unfold bytesRow
    rw [Array.size_append, Array.size_map]; omega
  simp [this]
theorem mix_put (l : List UInt8) (k : Nat) (h : k < l.length) : (mix l k).set k (lowB l[k]) = mix l (k + 1) := by
  unfold mix low
  rw [List.set_append_right _ _ (by simp; omega), List.take_succ_eq_append_getElem h, List.drop_eq_getElem_cons h]
  have : k - (List.map lowB (List.take k l)).length = 0 := by simp; omega
  rw [this, List.set_cons_zero, List.map_append, List.append_assoc]
  rfl
theorem mix_get (l : List UInt8) (k : Nat) (h : k < l.length) : (mix l k)[k]'(by rw [mix_length]; exact h) = l[k] := by
  unfold mix low
  rw [List.getElem_append_right (by simp; omega)]
  have : k - (List.map lowB (List.take k l)).length = 0 := by simp; omega
  simp only [this, List.getElem_drop, Nat.add_zero]
theorem mix_skip (l : List UInt8) (k : Nat) (h : k < l.length) (e : lowB l[k] = l[k]) : mix l k = mix l (k + 1) := by
  rw [← mix_put l k h, e, ← mix_get l k h, List.set_getElem_self]
def tbytes : Value → Nat
  | .string t => t.size
  | _ => 0

section code
set_option maxHeartbeats 1000000
attribute [local go_sem] Base.some_undef
theorem first_of (t : ByteArray) (h : 0 < t.size) : t.data.toList = t[0] :: t.data.toList.drop 1 ∧ (t.extract 1 t.size).data.toList = t.data.toList.drop 1 ∧ t.toList.isEmpty = false := by
  have hl : 0 < t.data.toList.length := by rw [len]; exact h
  have e : t.data.toList = t[0] :: t.data.toList.drop 1 := by
    conv => lhs; rw [← List.drop_zero (l := t.data.toList), List.drop_eq_getElem_cons hl]
    rfl
  refine ⟨e, ?_, ?_⟩
  · rw [Lib.extract_data, List.take_of_length_le (by rw [List.length_drop, len]; exact Nat.le_refl _)]
  · rw [Lib.toList_data, e]; rfl
theorem last_of (t : ByteArray) (h : 0 < t.size) : t.data.toList = t.data.toList.take (t.size - 1) ++ [t[t.size - 1]] ∧ (t.extract 0 (t.size - 1)).data.toList = t.data.toList.take (t.size - 1) ∧ t.toList.isEmpty = false := by
  have e := take_snoc t (t.size - 1) (by omega)
  rw [show t.size - 1 + 1 = t.size by omega, take_all t _ (Nat.le_refl _)] at e
  refine ⟨e, ?_, ?_⟩
  · rw [Lib.extract_data, List.drop_zero, Nat.sub_zero]
  · rw [Lib.toList_data]
    cases hl : t.data.toList with
    | nil => exfalso; have h2 := len t; rw [hl, List.length_nil] at h2; omega
    | cons _ _ => rfl
theorem in_any (x : UInt8) (r : Bool) (set : ByteArray) (w : World) (ht : set.size ≤ maxLen) (hq : isIn set x = r) : Calls Tryd.prog 52 #[.int .u8 x.toNat, .string set] w fun e w' => e = .returned (.bool r) ∧ w' = w := by
  have := Oct.stands_any (x.toNat : Int) set w ht
  rw [stands_isIn, hq] at this
  exact this
theorem rtrimOf_any (s set : ByteArray) (w : World) (ht : set.size ≤ maxLen) (hs : s.size ≤ maxLen) : Calls Tryd.prog 35 #[.string s, .string set] w fun e w' => e = .returned (.string (trimOf s set)) ∧ w' = w := by
  unfold maxLen at hs
  go_enter Tryd.func35, Tryd.ntmps35
  go_wp2
  go_loop [0] (fun x => ∃ t : ByteArray, x = .string t ∧ t.size ≤ s.size ∧ Hid (t.data.toList.dropWhile (isIn set) = s.data.toList.dropWhile (isIn set))) (fun x => tbytes x)
  case atStart => exact ⟨s, rfl, Nat.le_refl _, Lib.hid rfl⟩
  case round =>
    obtain ⟨t, rfl, hts, hdw⟩ := hrel
    by_cases hgo : ∃ h : 0 < t.size, isIn set t[0] = true
    · obtain ⟨h0, hq⟩ := hgo
      have HC := Lib.hid (in_any t[0] true set w ht hq)
      obtain ⟨e1, e2, e3⟩ := first_of t h0
      have HD := Lib.hid (show (t.extract 1 t.size).data.toList.dropWhile (isIn set) = s.data.toList.dropWhile (isIn set) by
        rw [← hdw.out, e2]
        conv => rhs; rw [e1, List.dropWhile_cons, if_pos hq])
      have i0 : t.toList.isEmpty = false := e3
      have i1 : (1 : Int) ≤ (t.size : Int) := by omega
      have i2 : (t.size : Int) ≤ 9223372036854775807 := by omega
      have hsz : (t.extract 1 t.size).size = t.size - 1 := by rw [ByteArray.size_extract]; omega
      clear e1 e2 e3 hq
      go_wp2_with (go_at_call 52; with_reducible refine HC.out.mono ?_; rintro e w' ⟨rfl, hw⟩; rw [hw]; clear hw)
      go_round
      case rel => exact ⟨_, rfl, by omega, HD⟩
      case measure => simp [tbytes]; omega
    · have hst : t.data.toList.dropWhile (isIn set) = t.data.toList := by
        rcases Nat.eq_zero_or_pos t.size with h0 | h0
        · have : t.data.toList = [] := List.length_eq_zero_iff.1 (by rw [len]; exact h0)
          rw [this]; rfl
        · obtain ⟨e1, _, _⟩ := first_of t h0
          rw [e1]
          refine dropWhile_stop ?_
          cases hq : isIn set t[0] with
          | false => rfl
          | true => exact absurd ⟨h0, hq⟩ hgo
      have hfin := Lib.hid (show trimL (isIn set) s.data.toList = (t.data.toList.reverse.dropWhile (isIn set)).reverse by
        unfold trimL; rw [← hdw.out, hst])
      have hlast := Lib.hid (show ∀ h : 0 < t.size, isIn set t[0] = false from fun h => by
        cases hq : isIn set t[0] with
        | false => rfl
        | true => exact absurd ⟨h, hq⟩ hgo)
      clear hgo hst
      rcases Nat.eq_zero_or_pos t.size with h0 | h0
      all_goals (first
        | (have i0 : t.toList.isEmpty = false := (first_of t h0).2.2
           have HC := Lib.hid (in_any t[0] false set w ht (hlast.out h0))
           (go_wp2_with (go_at_call 52; with_reducible refine HC.out.mono ?_; rintro e w' ⟨rfl, hw⟩; rw [hw]; clear hw)))
        | (have i0 : t.toList.isEmpty = true := by
             rw [Lib.toList_data, List.length_eq_zero_iff.1 (show t.data.toList.length = 0 by rw [len]; exact h0)]; rfl
           go_wp2))
      all_goals
        clear i0
        go_loop [0] (fun x => ∃ u : ByteArray, x = .string u ∧ u.size ≤ t.size ∧ Hid (u.data.toList.reverse.dropWhile (isIn set) = t.data.toList.reverse.dropWhile (isIn set))) (fun x => tbytes x)
        case atStart => exact ⟨t, rfl, Nat.le_refl _, Lib.hid rfl⟩
        case round =>
          obtain ⟨u, rfl, hus, hrv⟩ := hrel
          rcases Nat.eq_zero_or_pos u.size with hu0 | hu0
          · have e0 : u.data.toList = [] := List.length_eq_zero_iff.1 (by rw [len]; exact hu0)
            have i0 : u.toList.isEmpty = true := by rw [Lib.toList_data, e0]; rfl
            have HF := Lib.hid (show u = trimOf s set from ba_ext (by
              rw [trimOf, trimB_list, hfin.out, ← hrv.out, e0]; rfl))
            clear e0
            go_wp2
            go_ret
            exact ⟨by rw [← HF.out]; rfl, rfl⟩
          · first
            | (exfalso; omega)
            | (
              obtain ⟨e1, e2, e3⟩ := last_of u hu0
              have i0 : u.toList.isEmpty = false := e3
              have i1 : u.size - 1 < u.size := by omega
              have i3 : (u.size : Int) - 1 < (u.size : Int) := by omega
              have i4 : 0 ≤ (u.size : Int) - 1 := by omega
              have i5 : IntKind.i64.wrap ((u.size : Int) - 1) = (u.size : Int) - 1 := wrap_in _ (by omega) (by omega)
              have i6 : ((u.size : Int) - 1).toNat = u.size - 1 := by omega
              have i7 : (u.size : Int) - 1 ≤ (u.size : Int) := by omega
              cases hq : isIn set u[u.size - 1] with
              | true =>
                have HC := Lib.hid (in_any u[u.size - 1] true set w ht hq)
                have HD := Lib.hid (show (u.extract 0 (u.size - 1)).data.toList.reverse.dropWhile (isIn set) = t.data.toList.reverse.dropWhile (isIn set) by
                  rw [← hrv.out, e2]
                  conv => rhs; rw [e1, List.reverse_append, List.reverse_singleton, List.singleton_append, List.dropWhile_cons, if_pos hq])
                have hsz : (u.extract 0 (u.size - 1)).size = u.size - 1 := by rw [ByteArray.size_extract]; omega
                clear e1 e2 e3 hq
                go_wp2_with (go_at_call 52; with_reducible refine HC.out.mono ?_; rintro e w' ⟨rfl, hw⟩; rw [hw]; clear hw)
                go_round
                case rel => exact ⟨_, rfl, by omega, HD⟩
                case measure => simp [tbytes]; omega
              | false =>
                have HC := Lib.hid (in_any u[u.size - 1] false set w ht hq)
                have HF := Lib.hid (show u = trimOf s set from ba_ext (by
                  rw [trimOf, trimB_list, hfin.out, ← hrv.out, e1, List.reverse_append, List.reverse_singleton, List.singleton_append, dropWhile_stop hq]
                  simp))
                clear e1 e2 e3 hq
                go_wp2_with (go_at_call 52; with_reducible refine HC.out.mono ?_; rintro e w' ⟨rfl, hw⟩; rw [hw]; clear hw)
                go_ret
                exact ⟨by rw [← HF.out]; rfl, rfl⟩)
theorem rtrim_any (s : ByteArray) (w : World) (hs : s.size ≤ maxLen) : Calls Tryd.prog 25 #[.string s] w fun e w' => e = .returned (.string (trim s)) ∧ w' = w := by
  have h := Lib.hid (rtrimOf_any s ⟨#[32, 9]⟩ w (by decide) hs)
  have e : trimOf s ⟨#[32, 9]⟩ = trim s := by
    unfold trimOf trim
    congr 1
    funext x
    simp only [isIn, blank, List.contains_cons, List.contains_nil, Bool.or_false]
  rw [e] at h
  go_enter Tryd.func25, Tryd.ntmps25
  go_wp2_with (go_at_call 35; with_reducible refine h.out.mono ?_; rintro e w' ⟨rfl, rfl⟩)
  go_ret
  exact ⟨rfl, rfl⟩
end code
end Go.Proofs.YtonedklnjkjcgaaDoor.Txt

/-
  The document's Split: the parts of a text between bytes c, of every text up to a great size.
-/
namespace Go.Proofs.YtonedklnjkjcgaaDoor.Txt
open Go.RowKit Base Oct

/-- The walk of a split: what is done at place k, where the last part began at f. -/
def Part (c : UInt8) (l : List UInt8) (f k : Nat) (done : List (List UInt8)) : Prop :=
  (k ≤ l.length ∧ f ≤ k ∧ parts c l = done ++ parts c (l.drop f) ∧ c ∉ (l.drop f).take (k - f)) ∨ (k = l.length + 1 ∧ f = l.length + 1 ∧ parts c l = done)
theorem Part.start (c : UInt8) (l : List UInt8) : Part c l 0 0 [] := .inl ⟨Nat.zero_le _, Nat.le_refl _, rfl, by simp⟩
theorem Part.last {c : UInt8} {l : List UInt8} {f : Nat} {done : List (List UInt8)} (h : Part c l f l.length done) : f ≤ l.length ∧ Part c l (l.length + 1) (l.length + 1) (done ++ [l.drop f]) := by
  rcases h with ⟨_, h1, h2, h3⟩ | ⟨h, _⟩
  · refine ⟨h1, .inr ⟨rfl, rfl, ?_⟩⟩
    rw [List.take_of_length_le (by rw [List.length_drop]; omega)] at h3
    rw [h2, parts_none c _ h3]
  · omega
theorem Part.hit {c : UInt8} {l : List UInt8} {f k : Nat} {done : List (List UInt8)} (h : Part c l f k done) (hk : k < l.length) (hc : l[k] = c) : f ≤ k ∧ Part c l (k + 1) (k + 1) (done ++ [(l.drop f).take (k - f)]) := by
  rcases h with ⟨_, h1, h2, h3⟩ | ⟨h, _⟩
  · refine ⟨h1, .inl ⟨by omega, Nat.le_refl _, ?_, by simp⟩⟩
    have e : l.drop f = (l.drop f).take (k - f) ++ c :: l.drop (k + 1) := by
      conv => lhs; rw [← List.take_append_drop (k - f) (l.drop f)]
      rw [List.drop_drop, show f + (k - f) = k by omega, List.drop_eq_getElem_cons hk, hc]
    rw [h2]
    conv => lhs; rw [e]
    rw [parts_cut c _ _ h3, List.append_assoc]; rfl
  · omega
theorem Part.miss {c : UInt8} {l : List UInt8} {f k : Nat} {done : List (List UInt8)} (h : Part c l f k done) (hk : k < l.length) (hc : l[k] ≠ c) : Part c l f (k + 1) done := by
  rcases h with ⟨_, h1, h2, h3⟩ | ⟨h, _⟩
  · refine .inl ⟨by omega, by omega, h2, ?_⟩
    have hlt : k - f < (l.drop f).length := by rw [List.length_drop]; omega
    rw [show k + 1 - f = (k - f) + 1 by omega, List.take_succ_eq_append_getElem hlt, List.mem_append, not_or]
    refine ⟨h3, ?_⟩
    rw [List.getElem_drop, List.mem_singleton]
    simp only [show f + (k - f) = k by omega]
    exact fun e => hc e.symm
  · omega

section code
set_option maxHeartbeats 1000000
attribute [local go_sem] Base.some_undef
end code
end Go.Proofs.YtonedklnjkjcgaaDoor.Txt
