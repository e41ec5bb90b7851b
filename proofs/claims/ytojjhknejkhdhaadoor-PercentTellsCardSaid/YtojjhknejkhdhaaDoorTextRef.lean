/-
  Layer 3 (text): the document's own Lower, Same, TrimOf, Trim, Split: what they answer, of every text up to a great size: the same plain words as package text's.
-/
import Derived.Test.YtojjhknejkhdhaaDoorText
namespace Go.Proofs.YtojjhknejkhdhaaDoor.Txt
open Go.RowKit Base Oct

theorem stands_isIn (set : ByteArray) (x : UInt8) : stands set.data.toList (x.toNat : Int) = isIn set x := by
  unfold stands isIn
  rw [Bool.eq_iff_iff, List.any_eq_true, List.contains_iff_exists_mem_beq]
  constructor
  · rintro ⟨b, hb, e⟩; exact ⟨b, hb, by rw [beq_iff_eq] at e ⊢; exact (UInt8.toNat_inj.1 (by omega)).symm⟩
  · rintro ⟨b, hb, e⟩; rw [beq_iff_eq] at e; subst e; exact ⟨x, hb, by simp⟩

/-- A block whose first cells are the bytes l, and may be written. -/
def Bytes (w : World) (g : Nat) (l : List UInt8) : Prop := ∀ j (h : j < l.length), w.cell? ⟨g, j, none⟩ = some (.int .u8 (l[j].toNat : Int)) ∧ w.frozen? ⟨g, j, none⟩ = false
theorem Bytes.set {w : World} {g : Nat} {l : List UInt8} (h : Bytes w g l) (k : Nat) (b : UInt8) : Bytes (w.setCell ⟨g, k, none⟩ (.int .u8 (b.toNat : Int))) g (l.set k b) := by
  intro j hj
  rw [List.length_set] at hj
  obtain ⟨c, z⟩ := h j hj
  refine ⟨?_, by rw [World.frozen?_setCell]; exact z⟩
  by_cases e : k = j
  · subst e
    rw [World.cell?_setCell_same _ _ _ c, List.getElem_set_self]
  · rw [World.cell?_setCell_other _ _ _ _ (by simp <;> omega), List.getElem_set_ne e]; exact c
theorem Bytes.below {w w' : World} {g : Nat} {l : List UInt8} (h : Bytes w g l) (hg : g < w.heap.size) (hb : Below w.heap.size w w') : Bytes w' g l :=
  fun j hj => ⟨(hb.cell (p := ⟨g, j, none⟩) hg).trans (h j hj).1, (hb.frozen (p := ⟨g, j, none⟩) hg).trans (h j hj).2⟩
theorem conv_bytes (s : ByteArray) (w : World) : ∃ W cap, (convert 9 22 (.string s)).run Tryd.prog w = .ok (.slice (some ⟨w.heap.size, 0, none⟩) s.size cap) W ∧ Bytes W w.heap.size s.data.toList ∧ w.heap.size < W.heap.size ∧ Below w.heap.size w W := by
  have hcv := run_bytes_of_string (P := Tryd.prog) w 9 22 5 s Tryd.underlying9 Tryd.underlying22 Tryd.underlying5
  refine ⟨_, _, hcv, fun j hj => ?_, by simp, (Below.refl _ _).drew.alloc (Nat.le_refl _) _⟩
  have hj' : j < s.data.size := by simpa using hj
  refine ⟨(World.cell?_alloc_mark w.drew _ _ _ j).trans (bytesRow_at s _ j hj'), (World.frozen?_alloc_mark w.drew _ _ _ _ j).trans ?_⟩
  have : ¬ (bytesRow s (grownCap w s.size 0 5)).size ≤ j := by
    unfold bytesRow
    rw [Array.size_append, Array.size_map]; omega
  simp [this]
theorem mix_put (l : List UInt8) (k : Nat) (h : k < l.length) : (mix l k).set k (lowB l[k]) = mix l (k + 1) := by
  unfold mix low
  rw [List.set_append_right _ _ (by simp; omega), List.take_succ_eq_append_getElem h, List.drop_eq_getElem_cons h]
  have : k - (List.map lowB (List.take k l)).length = 0 := by simp; omega
  rw [this, List.set_cons_zero, List.map_append, List.append_assoc]
  rfl
theorem mix_get (l : List UInt8) (k : Nat) (h : k < l.length) : (mix l k)[k]'(by rw [mix_length]; exact h) = l[k] := by
  unfold mix low
  rw [List.getElem_append_right (by simp; omega)]
  have : k - (List.map lowB (List.take k l)).length = 0 := by simp; omega
  simp only [this, List.getElem_drop, Nat.add_zero]
theorem mix_skip (l : List UInt8) (k : Nat) (h : k < l.length) (e : lowB l[k] = l[k]) : mix l k = mix l (k + 1) := by
  rw [← mix_put l k h, e, ← mix_get l k h, List.set_getElem_self]
def tbytes : Value → Nat
  | .string t => t.size
  | _ => 0

section code
set_option maxHeartbeats 1000000
attribute [local go_sem] Base.some_undef
theorem first_of (t : ByteArray) (h : 0 < t.size) : t.data.toList = t[0] :: t.data.toList.drop 1 ∧ (t.extract 1 t.size).data.toList = t.data.toList.drop 1 ∧ t.toList.isEmpty = false := by
  have hl : 0 < t.data.toList.length := by rw [len]; exact h
  have e : t.data.toList = t[0] :: t.data.toList.drop 1 := by
    conv => lhs; rw [← List.drop_zero (l := t.data.toList), List.drop_eq_getElem_cons hl]
    rfl
  refine ⟨e, ?_, ?_⟩
  · rw [Lib.extract_data, List.take_of_length_le (by rw [List.length_drop, len]; exact Nat.le_refl _)]
  · rw [Lib.toList_data, e]; rfl
theorem last_of (t : ByteArray) (h : 0 < t.size) : t.data.toList = t.data.toList.take (t.size - 1) ++ [t[t.size - 1]] ∧ (t.extract 0 (t.size - 1)).data.toList = t.data.toList.take (t.size - 1) ∧ t.toList.isEmpty = false := by
  have e := take_snoc t (t.size - 1) (by omega)
  rw [show t.size - 1 + 1 = t.size by omega, take_all t _ (Nat.le_refl _)] at e
  refine ⟨e, ?_, ?_⟩
  · rw [Lib.extract_data, List.drop_zero, Nat.sub_zero]
  · rw [Lib.toList_data]
    cases hl : t.data.toList with
    | nil => exfalso; have h2 := len t; rw [hl, List.length_nil] at h2; omega
    | cons _ _ => rfl
end code
end Go.Proofs.YtojjhknejkhdhaaDoor.Txt

/-
  The document's Split: the parts of a text between bytes c, of every text up to a great size.
-/
namespace Go.Proofs.YtojjhknejkhdhaaDoor.Txt
open Go.RowKit Base Oct

/-- The walk of a split: what is done at place k, where the last part began at f. -/
def Part (c : UInt8) (l : List UInt8) (f k : Nat) (done : List (List UInt8)) : Prop :=
  (k ≤ l.length ∧ f ≤ k ∧ parts c l = done ++ parts c (l.drop f) ∧ c ∉ (l.drop f).take (k - f)) ∨ (k = l.length + 1 ∧ f = l.length + 1 ∧ parts c l = done)
theorem Part.start (c : UInt8) (l : List UInt8) : Part c l 0 0 [] := .inl ⟨Nat.zero_le _, Nat.le_refl _, rfl, by simp⟩
theorem Part.last {c : UInt8} {l : List UInt8} {f : Nat} {done : List (List UInt8)} (h : Part c l f l.length done) : f ≤ l.length ∧ Part c l (l.length + 1) (l.length + 1) (done ++ [l.drop f]) := by
  rcases h with ⟨_, h1, h2, h3⟩ | ⟨h, _⟩
  · refine ⟨h1, .inr ⟨rfl, rfl, ?_⟩⟩
    rw [List.take_of_length_le (by rw [List.length_drop]; omega)] at h3
    rw [h2, parts_none c _ h3]
  · omega
theorem Part.hit {c : UInt8} {l : List UInt8} {f k : Nat} {done : List (List UInt8)} (h : Part c l f k done) (hk : k < l.length) (hc : l[k] = c) : f ≤ k ∧ Part c l (k + 1) (k + 1) (done ++ [(l.drop f).take (k - f)]) := by
  rcases h with ⟨_, h1, h2, h3⟩ | ⟨h, _⟩
  · refine ⟨h1, .inl ⟨by omega, Nat.le_refl _, ?_, by simp⟩⟩
    have e : l.drop f = (l.drop f).take (k - f) ++ c :: l.drop (k + 1) := by
      conv => lhs; rw [← List.take_append_drop (k - f) (l.drop f)]
      rw [List.drop_drop, show f + (k - f) = k by omega, List.drop_eq_getElem_cons hk, hc]
    rw [h2]
    conv => lhs; rw [e]
    rw [parts_cut c _ _ h3, List.append_assoc]; rfl
  · omega
theorem Part.miss {c : UInt8} {l : List UInt8} {f k : Nat} {done : List (List UInt8)} (h : Part c l f k done) (hk : k < l.length) (hc : l[k] ≠ c) : Part c l f (k + 1) done := by
  rcases h with ⟨_, h1, h2, h3⟩ | ⟨h, _⟩
  · refine .inl ⟨by omega, by omega, h2, ?_⟩
    have hlt : k - f < (l.drop f).length := by rw [List.length_drop]; omega
    rw [show k + 1 - f = (k - f) + 1 by omega, List.take_succ_eq_append_getElem hlt, List.mem_append, not_or]
    refine ⟨h3, ?_⟩
    rw [List.getElem_drop, List.mem_singleton]
    simp only [show f + (k - f) = k by omega]
    exact fun e => hc e.symm
  · omega

section code
set_option maxHeartbeats 1000000
attribute [local go_sem] Base.some_undef
set_option maxRecDepth 10000 in
theorem rsplit_any (s : ByteArray) (c : UInt8) (w : World) (hs : s.size ≤ 1000000000) :
    Calls Tryd.prog 30 #[.string s, .int .u8 c.toNat] w fun e w' => ∃ b m cp, e = .returned (.slice b m cp) ∧ m = (parts c s.data.toList).length ∧ Strs w' b m ((parts c s.data.toList).map ba) ∧ Below w.heap.size w w' := by
  obtain ⟨i0, hi, hz0, hz1, hz2⟩ := info_parts text_info
  have G1 := Lib.hid hi; have G2 := Lib.hid hz0; have G3 := Lib.hid hz1; have G4 := Lib.hid hz2
  clear hi hz0 hz1 hz2
  obtain ⟨PS, hPS⟩ : ∃ PS, parts c s.data.toList = PS := ⟨_, rfl⟩
  rw [hPS]
  have HPS := Lib.hid hPS
  clear hPS
  go_enter Tryd.func30, Tryd.ntmps30
  go_wp2
  go_loopw [5, 6, 7] (fun v fr i wr => ∃ (k f : Nat) (done : List (List UInt8)), k ≤ s.size + 1 ∧ f ≤ s.size + 1 ∧ done.length ≤ k ∧ fr = .int .i64 f ∧ i = .int .i64 k ∧ Hid (Part c s.data.toList f k done) ∧ Hid (wr.ownsRow w.heap.size 9 1 v done.length ((done.map ba).map Value.string)) ∧ Hid (Below w.heap.size w wr)) (fun _ _ i _ => s.size + 1 - (intOf i).toNat)
  case atStart => exact ⟨0, 0, [], by omega, by omega, Nat.le_refl _, rfl, rfl, Lib.hid (Part.start _ _), Lib.hid ⟨rfl, .inl ⟨rfl, rfl⟩⟩, Lib.hid (Below.refl _ _)⟩
  case round =>
    obtain ⟨k, f, done, hk, hf, hdn, rfl, rfl, hpt, hown, hbr⟩ := hrel
    rcases Nat.lt_or_ge k s.size with hlt | hge
    · have t0 : (k : Int) ≤ (s.size : Int) := by omega
      have t1 : ((k : Int) == (s.size : Int)) = false := beq_eq_false_iff_ne.2 (by omega)
      have i1 : (k : Int) < (s.size : Int) := by omega
      have hkl : k < s.data.toList.length := by rw [len]; exact hlt
      have e0 : s[k] = s.data.toList[k] := rfl
      by_cases hc : s.data.toList[k] = c
      · have t2 : ((s[k].toNat : Int) == (c.toNat : Int)) = true := by rw [e0, hc]; exact beq_self_eq_true _
        obtain ⟨hfk, hP⟩ := hpt.out.hit hkl hc
        have HP := Lib.hid hP
        have ex : s.extract f k = ba ((s.data.toList.drop f).take (k - f)) := ba_ext (by rw [Lib.extract_data]; rfl)
        have c1 : (f : Int) ≤ (k : Int) := by omega
        have m1 : IntKind.i64.wrap ((k : Int) + 1) = ((k + 1 : Nat) : Int) := by rw [wrap_in _ (by omega) (by omega)]; omega
        clear hP hpt hc e0
        generalize (s.data.toList.drop f).take (k - f) = p at *
        have HX := Lib.hid ex
        clear ex
        go_wp2_with (at_builtin; refine wpList_append_own _ rfl _ _ 23 rfl w.heap.size 9 i0 (.string ByteArray.empty) 1 16 Tryd.underlying23 G1.out G2.out G3.out G4.out rfl (by decide) _ _ _ rfl (hown.out.alloc _) ⟨wr.heap.size, 0, none⟩ 1 1 [.string (s.extract f k)] rfl rfl ?c1 ?c2 ?c3 ?c4 ?c5 ?_)
        case c1 => exact news_one wr _ _
        case c2 => intro u hu; obtain rfl : u = .string (s.extract f k) := by simpa using hu
                   rfl
        case c3 => unfold maxLen; omega
        case c4 => omega
        case c5 => have := hbr.out.size; simp; omega
        intro v' w' hown' hgr _
        have H2 : Hid (w'.ownsRow w.heap.size 9 1 v' (done ++ [p]).length (((done ++ [p]).map ba).map Value.string)) := Lib.hid (by rw [HX.out] at hown'; simpa using hown')
        have H3 := Lib.hid ((hbr.out.alloc hbr.out.size _).grown hgr (by have := hbr.out.size; simp; omega) (own_base hown.out))
        clear hown' hgr hown hbr
        go_wp2
        go_roundw
        case rel => exact ⟨k + 1, k + 1, done ++ [p], by omega, by omega, by rw [List.length_append, List.length_singleton]; omega, by go_num, by go_num, HP, H2, H3⟩
        case measure => simp [intOf]; omega
      · have t2 : ((s[k].toNat : Int) == (c.toNat : Int)) = false := beq_eq_false_iff_ne.2 fun e => hc (UInt8.toNat_inj.1 (by rw [e0] at e; omega))
        have HP := Lib.hid (hpt.out.miss hkl hc)
        clear hpt hc e0
        go_wp2
        go_roundw
        case rel => exact ⟨k + 1, f, done, by omega, hf, by omega, rfl, by go_num, HP, hown, hbr⟩
        case measure => simp [intOf]; omega
    · rcases Nat.lt_or_ge s.size k with hgt | hle
      · obtain rfl : k = s.size + 1 := by omega
        have t0 : ¬ ((s.size + 1 : Nat) : Int) ≤ (s.size : Int) := by omega
        have hfin : done = PS := by
          rcases hpt.out with ⟨h, _⟩ | ⟨_, _, h⟩
          · rw [len] at h; omega
          · rw [← h, HPS.out]
        subst hfin
        obtain ⟨A, cp, rfl, hA⟩ := Strs.of_own hown.out
        have HA := Lib.hid hA
        clear hA hown hpt
        go_wp2
        go_ret
        first | exact ⟨A, ⟨cp, rfl⟩, HA.out, hbr.out⟩ | exact ⟨A, _, ⟨cp, rfl⟩, rfl, HA.out, hbr.out⟩ | exact ⟨A, _, ⟨cp, rfl⟩, HA.out, hbr.out⟩
      · obtain rfl : k = s.size := by omega
        have hpt' := hpt.out
        rw [← len s] at hpt'
        obtain ⟨hfk, hP⟩ := hpt'.last
        rw [len] at hfk hP
        have HP := Lib.hid hP
        have ex : s.extract f s.size = ba (s.data.toList.drop f) := ba_ext (by rw [Lib.extract_data, List.take_of_length_le (by rw [List.length_drop, len]; omega)]; rfl)
        have c1 : (f : Int) ≤ (s.size : Int) := by omega
        have t0 : (s.size : Int) ≤ (s.size : Int) := by omega
        have t1 : ((s.size : Int) == (s.size : Int)) = true := beq_self_eq_true _
        have m1 : IntKind.i64.wrap ((s.size : Int) + 1) = ((s.size + 1 : Nat) : Int) := by rw [wrap_in _ (by omega) (by omega)]; omega
        clear hP hpt hpt'
        generalize s.data.toList.drop f = p at *
        have HX := Lib.hid ex
        clear ex
        go_wp2_with (at_builtin; refine wpList_append_own _ rfl _ _ 23 rfl w.heap.size 9 i0 (.string ByteArray.empty) 1 16 Tryd.underlying23 G1.out G2.out G3.out G4.out rfl (by decide) _ _ _ rfl (hown.out.alloc _) ⟨wr.heap.size, 0, none⟩ 1 1 [.string (s.extract f s.size)] rfl rfl ?c1 ?c2 ?c3 ?c4 ?c5 ?_)
        case c1 => exact news_one wr _ _
        case c2 => intro u hu; obtain rfl : u = .string (s.extract f s.size) := by simpa using hu
                   rfl
        case c3 => unfold maxLen; omega
        case c4 => omega
        case c5 => have := hbr.out.size; simp; omega
        intro v' w' hown' hgr _
        have H2 : Hid (w'.ownsRow w.heap.size 9 1 v' (done ++ [p]).length (((done ++ [p]).map ba).map Value.string)) := Lib.hid (by rw [HX.out] at hown'; simpa using hown')
        have H3 := Lib.hid ((hbr.out.alloc hbr.out.size _).grown hgr (by have := hbr.out.size; simp; omega) (own_base hown.out))
        clear hown' hgr hown hbr
        go_wp2
        go_roundw
        case rel => exact ⟨s.size + 1, s.size + 1, done ++ [p], by omega, by omega, by rw [List.length_append, List.length_singleton]; omega, by go_num, by go_num, HP, H2, H3⟩
        case measure => simp [intOf]
end code
end Go.Proofs.YtojjhknejkhdhaaDoor.Txt
