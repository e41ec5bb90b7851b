/-
  Layer 8 (request): the parts of a line as the program has them: strings.Split, strings.FieldsFunc of any text, in UTF-8 or not; slices.Contains; what stands between.
-/
import Derived.Test.YtlignmlkoahbmaaGreatDoorReqFns
import Derived.Test.YtlignmlkoahbmaaGreatDoorTextList
import Derived.Test.YtlignmlkoahbmaaGreatDoorTargetCut
import Derived.Lib.FieldsP
import Derived.Lib.SlicesS
namespace Go.Proofs.YtlignmlkoahbmaaGreatDoor.Rq
open Go.RowKit Base Txt

/-- Is a rune a blank? -/
def runeP (r : Nat) : Bool := decide (r < 128) && Oct.blank (r : Int)
theorem decodeN_high (n b0 b1 b2 b3 : Nat) (h : 128 ≤ b0) : 128 ≤ (Lib.decodeN n b0 b1 b2 b3).1 := by
  unfold Lib.decodeN
  repeat' split
  all_goals (simp only; omega)
theorem runeP_byte : ∀ k : Fin 256, (decide (k.val < 128) && runeP k.val) = sepB true (UInt8.ofNat k.val) := by decide +kernel
theorem sep_high (x : UInt8) (h : 128 ≤ x.toNat) : sepB true x = false := by
  have := runeP_byte ⟨x.toNat, x.toNat_lt⟩
  simp only [UInt8.ofNat_toNat] at this
  rw [← this, decide_eq_false (by omega)]; rfl
theorem sep_low (x : UInt8) (h : x.toNat < 128) : runeP x.toNat = sepB true x := by
  have := runeP_byte ⟨x.toNat, x.toNat_lt⟩
  simp only [UInt8.ofNat_toNat] at this
  rw [← this, decide_eq_true h]; rfl
theorem pcs_skip {p : UInt8 → Bool} {st : Bool} {l : List UInt8} : ∀ (k i a : Nat), i + k ≤ l.length → (∀ j (h : j < l.length), i ≤ j → j < i + k → p l[j] = false) → pcs p st (l.drop i) i a = pcs p st (l.drop (i + k)) (i + k) a
  | 0, i, a, _, _ => rfl
  | k + 1, i, a, hk, h => by
    have hi : i < l.length := by omega
    rw [List.drop_eq_getElem_cons hi, pcs, if_neg (by rw [h i hi (Nat.le_refl _) (by omega)]; decide), pcs_skip k (i + 1) a (by omega) (fun j hj h1 h2 => h j hj (by omega) (by omega)), show i + 1 + k = i + (k + 1) by omega]
theorem step_none (p : Nat → Bool) (s : ByteArray) (f pos : Nat) (acc : List (Nat × Nat)) (h : pos < s.size) : Lib.spansFromP p s (f + 1) pos none acc = if p (Utf8.decode s pos).1 = true then Lib.spansFromP p s f (pos + (Utf8.decode s pos).2) none acc else Lib.spansFromP p s f (pos + (Utf8.decode s pos).2) (some pos) acc := by
  simp only [Lib.spansFromP, if_pos h]
theorem step_some (p : Nat → Bool) (s : ByteArray) (f pos a : Nat) (acc : List (Nat × Nat)) (h : pos < s.size) : Lib.spansFromP p s (f + 1) pos (some a) acc = if p (Utf8.decode s pos).1 = true then Lib.spansFromP p s f (pos + (Utf8.decode s pos).2) none (acc ++ [(a, pos)]) else Lib.spansFromP p s f (pos + (Utf8.decode s pos).2) (some a) acc := by
  simp only [Lib.spansFromP, if_pos h]
theorem spans_runes (s : ByteArray) : ∀ (f pos : Nat) (st : Option Nat) (acc sp : List (Nat × Nat)), s.size ≤ pos + f → pos ≤ s.size → (∀ a, st = some a → a < pos) → pcs (sepB true) false (s.data.toList.drop pos) pos (st.getD pos) = some sp →
    Lib.closeSpans s (Lib.spansFromP runeP s f pos st acc) = acc ++ sp
  | 0, pos, st, acc, sp, hf, hp, hst, h => by
    obtain rfl : pos = s.size := by omega
    rw [List.drop_eq_nil_of_le (by rw [len]; exact Nat.le_refl _), pcs] at h
    cases st with
    | none =>
      simp only [Option.getD_none, if_true, Bool.false_eq_true, if_false, Option.some.injEq] at h
      subst h; simp [Lib.spansFromP, Lib.closeSpans]
    | some a =>
      have := hst a rfl
      rw [Option.getD_some, if_neg (by omega)] at h
      cases h; simp [Lib.spansFromP, Lib.closeSpans]
  | f + 1, pos, st, acc, sp, hf, hp, hst, h => by
    rcases Nat.lt_or_ge pos s.size with hlt | hge
    · have hll : pos < s.data.toList.length := by rw [len]; exact hlt
      have hb : s.data.toList[pos] = s[pos] := rfl
      have hdec := Lib.decode_at s pos
      rw [Tgt.get_lt s pos hlt] at hdec
      rcases Nat.lt_or_ge (s[pos]).toNat 128 with h7 | h7
      · rw [Lib.decodeN_ascii _ _ _ _ _ h7] at hdec
        have sn := step_none runeP s f pos acc hlt
        have ss := fun a => step_some runeP s f pos a acc hlt
        simp only [hdec] at sn ss
        rw [sep_low _ h7] at sn
        simp only [sep_low _ h7] at ss
        rw [List.drop_eq_getElem_cons hll, pcs, hb] at h
        by_cases hs : sepB true s[pos] = true
        · rw [if_pos hs] at h sn
          simp only [if_pos hs] at ss
          cases st with
          | none =>
            rw [sn]
            rw [Option.getD_none, if_pos rfl, if_neg (by decide)] at h
            exact spans_runes s f (pos + 1) none acc sp (by omega) (by omega) (fun a ha => by cases ha) h
          | some a =>
            rw [ss]
            have ha := hst a rfl
            rw [Option.getD_some, if_neg (by omega)] at h
            cases hq : pcs (sepB true) false (s.data.toList.drop (pos + 1)) (pos + 1) (pos + 1) with
            | none => rw [hq] at h; cases h
            | some r =>
              rw [hq] at h
              simp only [Option.map_some, Option.some.injEq] at h
              subst h
              have := spans_runes s f (pos + 1) none (acc ++ [(a, pos)]) r (by omega) (by omega) (fun a ha => by cases ha) hq
              rw [this]; simp
        · rw [if_neg hs] at h sn
          simp only [if_neg hs] at ss
          cases st with
          | none => rw [sn]; exact spans_runes s f (pos + 1) (some pos) acc sp (by omega) (by omega) (fun a ha => by cases ha; omega) h
          | some a => rw [ss]; exact spans_runes s f (pos + 1) (some a) acc sp (by omega) (by omega) (fun b hb => by cases hb; have := hst a rfl; omega) h
      · have hr : runeP (Utf8.decode s pos).1 = false := by
          rw [hdec, runeP, decide_eq_false (by have := decodeN_high (s.size - pos) (s[pos]).toNat (s.get! (pos + 1)).toNat (s.get! (pos + 2)).toNat (s.get! (pos + 3)).toNat h7; omega)]; rfl
        have hw : 1 ≤ (Utf8.decode s pos).2 := Lib.width_pos s pos
        have hhi := fun k => Tgt.rune_high s pos k hlt h7
        have sn := step_none runeP s f pos acc hlt
        have ss := fun a => step_some runeP s f pos a acc hlt
        generalize Utf8.decode s pos = d at *
        obtain ⟨hk, _⟩ := hhi (pos + d.2 - 1) (by omega) (by omega)
        have hsk := pcs_skip (p := sepB true) (st := false) (l := s.data.toList) d.2 pos (st.getD pos) (by rw [len]; omega) (fun j hj h1 h2 => by
          obtain ⟨q, hq⟩ := hhi j h1 h2
          exact sep_high _ hq)
        rw [hsk] at h
        rw [hr, if_neg (by decide)] at sn
        simp only [hr, Bool.false_eq_true, if_false] at ss
        cases st with
        | none => rw [sn]; exact spans_runes s f (pos + d.2) (some pos) acc sp (by omega) (by omega) (fun a ha => by cases ha; omega) h
        | some a => rw [ss]; exact spans_runes s f (pos + d.2) (some a) acc sp (by omega) (by omega) (fun b hb => by cases hb; have := hst a rfl; omega) h
    · obtain rfl : pos = s.size := by omega
      rw [Lib.spansFromP_end _ _ _ _ _ _ (by omega)]
      rw [List.drop_eq_nil_of_le (by rw [len]; exact Nat.le_refl _), pcs] at h
      cases st with
      | none =>
        simp only [Option.getD_none, if_true, Bool.false_eq_true, if_false, Option.some.injEq] at h
        subst h; simp [Lib.closeSpans]
      | some a =>
        have := hst a rfl
        rw [Option.getD_some, if_neg (by omega)] at h
        cases h; simp [Lib.closeSpans]
theorem fields_words (s : ByteArray) : Lib.goFieldsP runeP s = (words true s.data.toList).map ba := by
  obtain ⟨sp, h⟩ := pcs_some (p := sepB true) s.data.toList 0 0
  have hs : spans true s.data.toList = some sp := h
  have := spans_runes s s.size 0 none [] sp (by omega) (Nat.zero_le _) (fun a ha => by cases ha) h
  rw [List.nil_append] at this
  rw [Lib.goFieldsP, Lib.spansOfP, this, words, if_pos rfl, hs, Option.getD_some, List.map_map]
  exact List.map_congr_left fun x _ => (ext_ba s x.1 x.2).symm

section code
set_option maxHeartbeats 1000000
attribute [local go_sem] Base.some_undef
theorem blankR_any (r : Nat) (w : World) : Calls Tryz.prog 47 #[.int .i32 r] w fun e w' => e = .returned (.bool (runeP r)) ∧ w' = w := by
  rcases Nat.lt_or_ge r 128 with h | h
  · have h1 : (r : Int) < 128 := by omega
    have hc : IntKind.u8.wrap (r : Int) = (r : Int) := by show (r : Int) % 256 = r; omega
    have HB := Lib.hid (fun w => Oct.blank_any (r : Int) w)
    have e : runeP r = Oct.blank (r : Int) := by rw [runeP, decide_eq_true h]; rfl
    rw [e]; clear e
    generalize Oct.blank (r : Int) = q at *
    go_enter Tryz.func47, Tryz.ntmps47
    go_wp2_with (go_at_call 31; with_reducible refine (HB.out _).mono ?_; rintro e w1 ⟨rfl, hw⟩; rw [hw]; clear hw)
    go_ret
    exact ⟨rfl, rfl⟩
  · have h1 : ¬ (r : Int) < 128 := by omega
    have e : runeP r = false := by rw [runeP, decide_eq_false (by omega)]; rfl
    rw [e]; clear e
    go_enter Tryz.func47, Tryz.ntmps47
    go_wp2_with fail
    go_ret
    exact ⟨rfl, rfl⟩
theorem contains_any (a : Option Addr) (n cap : Nat) (ss : List ByteArray) (x : ByteArray) (r : Bool) (hr : r = true ↔ x ∈ ss) (w : World) (hv : Strs w a n ss) (hn : n ≤ maxLen) :
    Calls Tryz.prog 26 #[.slice a n cap, .string x] w fun e w' => e = .returned (.bool r) ∧ w' = w := by
  rcases Nat.eq_zero_or_pos n with h0 | h0
  · subst h0
    have : ss = [] := List.eq_nil_of_length_eq_zero hv.1
    subst this
    have hf : r = false := by cases r with
      | false => rfl
      | true => exact absurd (hr.1 rfl) (by simp)
    rw [hf]
    exact Tryz.slices_Contains_string_empty a cap x w
  · obtain ⟨b, off, rfl, _, hc⟩ := hv.2 h0
    have hl := hv.1
    refine (Tryz.slices_Contains_string b off n cap ss x w (by omega) (by unfold maxLen at hn; omega) (fun j hj => by rw [hc j (by omega)]; simp [List.getD])).mono ?_
    rintro e w' ⟨rfl, rfl⟩
    refine ⟨ret_bool ?_, rfl⟩
    rw [Lib.containsS_iff, List.take_of_length_le (by omega), hr]
theorem split_any (s : ByteArray) (p : Nat) (hp : p < 4294967296) (w : World) (hs : s.size ≤ 1000000000) : Calls Tryz.prog 25 #[.string s, .int .u32 (p : Nat)] w fun e w' =>
    ∃ a n c, e = .returned (.slice a n c) ∧ n = (words (Qk.has p 3) s.data.toList).length ∧ Strs w' a n ((words (Qk.has p 3) s.data.toList).map ba) ∧ Below w.heap.size w w' := by
  have H := Lib.hid (fun w => Qk.has_any p hp 3 w)
  generalize Qk.has p 3 = q at *
  cases q with
  | true =>
    have eg : ∀ args w, (callFunc 47 args).run Tryz.prog w = .ok (.enter 47 args) w := enters_of Tryz.func47 (by kernel_rfl) rfl
    have HF := Lib.hid (fun w => Tryz.strings_FieldsFunc_runes 47 #[] eg runeP s w (by omega) (fun W x _ _ => (blankR_any x W).mono (by rintro e w' ⟨rfl, rfl⟩; exact ⟨rfl, 0, rfl⟩)))
    rw [fields_words] at HF
    simp only [List.length_map] at HF
    generalize words true s.data.toList = W at *
    go_enter Tryz.func25, Tryz.ntmps25
    go_wp2_with (first
      | (go_at_call 27; with_reducible refine (H.out _).mono ?_; rintro e w1 ⟨rfl, hw⟩; rw [hw]; clear hw)
      | (go_at_call 46; with_reducible refine (HF.out _).mono ?_; rintro e w1 ⟨A, rfl, hA, hO, hb⟩))
    go_ret
    obtain ⟨A', c', e1, e2⟩ := Strs.of_own hO
    cases e1
    exact ⟨_, _, _, rfl, rfl, e2, hb⟩
  | false =>
    have HF := Lib.hid (fun w => Txt.split_at 32 s w (by omega))
    have e : words false s.data.toList = parts 32 s.data.toList := rfl
    rw [e]; clear e
    generalize parts 32 s.data.toList = W at *
    go_enter Tryz.func25, Tryz.ntmps25
    go_wp2_with (first
      | (go_at_call 27; with_reducible refine (H.out _).mono ?_; rintro e w1 ⟨rfl, hw⟩; rw [hw]; clear hw)
      | (go_at_call 45; with_reducible refine (HF.out _).mono ?_; rintro e w1 ⟨n, k, rfl, rfl, hO, _, hb⟩))
    go_ret
    exact ⟨_, _, _, rfl, rfl, hO, hb⟩
end code
end Go.Proofs.YtlignmlkoahbmaaGreatDoor.Rq
