/-
  What strings.Cut at a separator of one byte and strings.IndexAny at the two bytes / and ? answer, of every text, in UTF-8 or not, as plain words.
-/
import Derived.Test.YtlignmlkoahbmaaGreatDoorTargetStrs
namespace Go.Proofs.YtlignmlkoahbmaaGreatDoor.Tgt
open Go.RowKit Base Oct Num Txt

theorem idx_split : ∀ l : List UInt8, (Lib.indexAny l [47, 63] = -1 ∧ hostOf l = l ∧ restOf l = []) ∨ ∃ i : Nat, i < l.length ∧ Lib.indexAny l [47, 63] = (i : Int) ∧ hostOf l = l.take i ∧ restOf l = l.drop i
  | [] => .inl ⟨rfl, rfl, rfl⟩
  | b :: l => by
    have hb : [47, 63].contains b = ended b := by rw [List.contains_cons, List.contains_cons, List.contains_nil, Bool.or_false]; rfl
    have e : Lib.indexAny (b :: l) [47, 63] = if [47, 63].contains b then 0 else if Lib.indexAny l [47, 63] == -1 then -1 else Lib.indexAny l [47, 63] + 1 := rfl
    have e1 : hostOf (b :: l) = if (!ended b) = true then b :: hostOf l else [] := by unfold hostOf; rw [List.takeWhile_cons]
    have e2 : restOf (b :: l) = if (!ended b) = true then restOf l else b :: l := by unfold restOf; rw [List.dropWhile_cons]
    rw [e, e1, e2, hb]
    cases ended b with
    | true => exact .inr ⟨0, by simp, rfl, rfl, rfl⟩
    | false =>
      simp only [Bool.not_false, if_true, Bool.false_eq_true, if_false]
      rcases idx_split l with ⟨h1, h2, h3⟩ | ⟨i, h0, h1, h2, h3⟩
      · exact .inl ⟨by rw [h1]; rfl, by rw [h2], h3⟩
      · refine .inr ⟨i + 1, by simp; omega, ?_, by rw [h2]; rfl, by rw [h3]; rfl⟩
        rw [h1, if_neg (by simp)]; omega
theorem idx_cut (c : UInt8) (l : List UInt8) : (Lib.indexByte l c = -1 ∧ cutAt c l = (l, [], false)) ∨ ∃ i : Nat, i < l.length ∧ Lib.indexByte l c = (i : Int) ∧ cutAt c l = (l.take i, l.drop (i + 1), true) := by
  by_cases h : Lib.indexByte l c = -1
  · refine .inl ⟨h, cutAt_none c l fun hm => ?_⟩
    obtain ⟨k, hk, e⟩ := List.getElem_of_mem hm
    exact Lib.indexByte_none h k (by rw [List.getElem?_eq_getElem hk, e])
  · have h0 := Lib.indexByte_ge l c
    obtain ⟨i, hi⟩ : ∃ i : Nat, Lib.indexByte l c = i := ⟨(Lib.indexByte l c).toNat, by omega⟩
    obtain ⟨g1, g2⟩ := Lib.indexByte_some hi
    have hlt : i < l.length := by
      rcases Nat.lt_or_ge i l.length with h | h
      · exact h
      · rw [List.getElem?_eq_none h] at g1; cases g1
    have hc : l[i] = c := by rw [List.getElem?_eq_getElem hlt] at g1; exact Option.some.inj g1
    refine .inr ⟨i, hlt, hi, ?_⟩
    have e1 : l = l.take i ++ c :: l.drop (i + 1) := by
      conv => lhs; rw [← List.take_append_drop i l, List.drop_eq_getElem_cons hlt, hc]
    have hno : c ∉ l.take i := fun hm => by
      obtain ⟨k, hk, e⟩ := List.getElem_of_mem hm
      have hk' : k < i := by simp at hk; omega
      exact g2 k hk' (by rw [List.getElem?_eq_getElem (by omega)]; rw [List.getElem_take] at e; rw [e])
    conv => lhs; rw [e1]
    exact cutAt_app c _ _ hno

theorem decodeN_tail (n b0 b1 b2 b3 : Nat) (hn : 1 ≤ n) : 1 ≤ (Lib.decodeN n b0 b1 b2 b3).2 ∧ (Lib.decodeN n b0 b1 b2 b3).2 ≤ n ∧ (Lib.decodeN n b0 b1 b2 b3).2 ≤ 4 ∧ (1 < (Lib.decodeN n b0 b1 b2 b3).2 → 128 ≤ b1) ∧ (2 < (Lib.decodeN n b0 b1 b2 b3).2 → 128 ≤ b2) ∧ (3 < (Lib.decodeN n b0 b1 b2 b3).2 → 128 ≤ b3) := by
  unfold Lib.decodeN
  repeat' split
  all_goals (simp only; omega)
theorem get_lt (s : ByteArray) (k : Nat) (h : k < s.size) : s.get! k = s[k] := by
  simp [ByteArray.get!, getElem!_pos, h]
  rfl
/-- Behind a byte that is no ASCII the rune's other bytes are no ASCII. -/
theorem rune_high (s : ByteArray) (pos k : Nat) (h : pos < s.size) (h0 : 128 ≤ (s[pos]'h).toNat) (h1 : pos ≤ k) (h2 : k < pos + (Utf8.decode s pos).2) : ∃ hk : k < s.size, 128 ≤ (s[k]'hk).toNat := by
  rw [Lib.decode_at] at h2
  obtain ⟨_, a2, a3, a4, a5, a6⟩ := decodeN_tail (s.size - pos) (s.get! pos).toNat (s.get! (pos + 1)).toNat (s.get! (pos + 2)).toNat (s.get! (pos + 3)).toNat (by omega)
  have hk : k < s.size := by omega
  refine ⟨hk, ?_⟩
  rw [← get_lt s k hk]
  rcases (by omega : k = pos ∨ k = pos + 1 ∨ k = pos + 2 ∨ k = pos + 3) with rfl | rfl | rfl | rfl
  · rw [get_lt s _ h]; exact h0
  · exact a4 (by omega)
  · exact a5 (by omega)
  · exact a6 (by omega)
theorem rune_valid_at (s : ByteArray) (pos : Nat) : Lib.validRune ((Utf8.decode s pos).1 : Int) = true := by
  have h := Lib.decodeN_valid (s.size - pos) (s.get! pos).toNat (s.get! (pos + 1)).toNat (s.get! (pos + 2)).toNat (s.get! (pos + 3)).toNat (UInt8.toNat_lt _)
  rw [← Lib.decode_at] at h
  simp only [Lib.validRune, decide_eq_true_eq]
  omega
theorem next_at {P : Program} (w : World) (g : Nat) (s : ByteArray) (pos : Nat) (ty : TypeId) (h : pos < s.size) (hg : w.heap[g]? = some (.stringIter s pos)) :
    (Instr.next (.pointer (some ⟨g, 0, none⟩)) true ty).run P w = .ok (.tuple #[.bool true, .int .i64 pos, .int .i32 (Utf8.decode s pos).1]) { w with heap := w.heap.setIfInBounds g (.stringIter s (pos + (Utf8.decode s pos).2)) } := by
  have hgl : g < w.heap.size := by
    rcases Nat.lt_or_ge g w.heap.size with h | h
    · exact h
    · rw [Array.getElem?_eq_none h] at hg; cases hg
  simp [Instr.next, getObj, setObj, Sem.run_bind, Sem.run, hg, Result.andThen, h, goInt]
theorem next_last {P : Program} (w : World) (g : Nat) (s : ByteArray) (pos : Nat) (ty : TypeId) (h : ¬ pos < s.size) (hg : w.heap[g]? = some (.stringIter s pos)) :
    (Instr.next (.pointer (some ⟨g, 0, none⟩)) true ty).run P w = .ok (.tuple #[.bool false]) w := by
  simp [Instr.next, getObj, Sem.run, hg, h]
theorem below_iter {B : Nat} {w0 w : World} (h : Below B w0 w) (g : Nat) (hg : B ≤ g) (o : Obj) : Below B w0 { w with heap := w.heap.setIfInBounds g o } := by
  refine ⟨h.os, h.tape, h.output, ?_, fun k hk => ?_⟩
  · simpa using h.size
  · rw [Array.getElem?_setIfInBounds_ne (by omega)]; exact h.block k hk
/-- One step over a text's runes: the world behind it. -/
theorem next_world {P : Program} (w0 w : World) (g : Nat) (s : ByteArray) (pos : Nat) (h : pos < s.size) (hg : w.heap[g]? = some (.stringIter s pos)) (hb : Below g w0 w) :
    ∃ W, (∀ ty, (Instr.next (.pointer (some ⟨g, 0, none⟩)) true ty).run P w = .ok (.tuple #[.bool true, .int .i64 pos, .int .i32 (Utf8.decode s pos).1]) W) ∧ W.heap[g]? = some (.stringIter s (pos + (Utf8.decode s pos).2)) ∧ g < W.heap.size ∧ Below g w0 W := by
  have hgl : g < w.heap.size := by
    rcases Nat.lt_or_ge g w.heap.size with h | h
    · exact h
    · rw [Array.getElem?_eq_none h] at hg; cases hg
  exact ⟨_, fun ty => next_at w g s pos ty h hg, by simp [hgl], by simpa using hgl, below_iter hb g (Nat.le_refl _) _⟩

section code
set_option maxHeartbeats 8000000
set_option maxRecDepth 1000000
theorem cutLite_any (s : ByteArray) (c : UInt8) (w : World) (hs : s.size ≤ 1000000000) :
    Calls Tryz.prog 90 #[.string s, .string ⟨#[c]⟩] w fun e w' => e = .returned (.tuple #[.string (ba (cutAt c s.data.toList).1), .string (ba (cutAt c s.data.toList).2.1), .bool (cutAt c s.data.toList).2.2]) ∧ ∃ n, w' = w.drewN n := by
  have HI := Lib.hid (fun w => Tryz.stringslite_Index_one s c w)
  rcases idx_cut c s.data.toList with ⟨h1, h2⟩ | ⟨i, h0, h1, h2⟩
  · rw [h1] at HI
    rw [h2]
    clear h1 h2
    go_enter Tryz.func90, Tryz.ntmps90
    go_wp2_with (go_at_call 99; with_reducible refine (HI.out _).mono ?_; rintro e w1 ⟨rfl, hw⟩; rw [hw]; clear hw)
    go_ret3
    exact ⟨rfl, 0, rfl⟩
  · rw [h1] at HI
    rw [h2]
    rw [len] at h0
    have c0 : (0 : Int) ≤ (i : Int) := by omega
    have c1 : (i : Int) ≤ (s.size : Int) := by omega
    have c2 : IntKind.i64.wrap ((i : Int) + 1) = ((i + 1 : Nat) : Int) := by rw [wrap_in _ (by omega) (by omega)]; omega
    have c3 : ((i + 1 : Nat) : Int) ≤ (s.size : Int) := by omega
    have e1 : s.extract 0 i = ba (s.data.toList.take i) := ba_ext (by rw [Lib.extract_data]; simp [ba])
    have e2 : s.extract (i + 1) s.size = ba (s.data.toList.drop (i + 1)) := ba_ext (by rw [Lib.extract_data, List.take_of_length_le (by rw [List.length_drop, len]; omega)]; rfl)
    simp only
    rw [← e1, ← e2]
    clear h1 h2 e1 e2
    go_enter Tryz.func90, Tryz.ntmps90
    go_wp2_with (go_at_call 99; with_reducible refine (HI.out _).mono ?_; rintro e w1 ⟨rfl, hw⟩; rw [hw]; clear hw)
    go_quiet (fail)
    rename_i nq
    go_wp2
    go_ret3
    exact ⟨rfl, nq, rfl⟩
theorem cut_any (s : ByteArray) (c : UInt8) (w : World) (hs : s.size ≤ 1000000000) :
    Calls Tryz.prog 74 #[.string s, .string ⟨#[c]⟩] w fun e w' => e = .returned (.tuple #[.string (ba (cutAt c s.data.toList).1), .string (ba (cutAt c s.data.toList).2.1), .bool (cutAt c s.data.toList).2.2]) ∧ ∃ n, w' = w.drewN n := by
  have HI := Lib.hid (fun w => cutLite_any s c w hs)
  generalize cutAt c s.data.toList = r at *
  go_enter Tryz.func74, Tryz.ntmps74
  go_wp2_with (go_at_call 90; with_reducible refine (HI.out _).mono ?_; rintro e w1 ⟨rfl, n, hw⟩; rw [hw]; clear hw)
  go_ret3
  exact ⟨rfl, n, rfl⟩

theorem indexAny_short (s : ByteArray) (w : World) (h8 : s.size ≤ 8) :
    Calls Tryz.prog 78 #[.string s, .string ⟨#[47, 63]⟩] w fun e w' => e = .returned (.int .i64 (Lib.indexAny s.data.toList [47, 63])) ∧ Below w.heap.size w w' := by
  have h8z : decide ((8 : Int) < (s.size : Int)) = false := decide_eq_false (by omega)
  have HSh := Lib.hid (fun w => Tryz.strings_shouldUseASCIISet (s.size : Int) w)
  rw [h8z] at HSh
  clear h8z
  go_enter Tryz.func78, Tryz.ntmps78
  go_wp2_with (go_at_call 93; with_reducible refine (HSh.out _).mono ?_; rintro e w1 ⟨rfl, hw⟩; rw [hw]; clear hw)
  have hgw := Lib.hid (Nat.le_refl w.heap.size)
  go_loopg [9, 10] s.size (fun g _ _ wx => ∃ i : Nat, s.size ≤ i + g ∧ i ≤ s.size ∧ wx.heap[w.heap.size]? = some (.stringIter s i) ∧ Hid (Below w.heap.size w wx) ∧ Hid (Lib.NoAny s.data.toList [47, 63] i))
  case atStart => exact ⟨0, by omega, by omega, World.iter_heap w s 0, Lib.hid ((Below.refl _ _).alloc (Nat.le_refl _) _), Lib.hid (Lib.NoAny.zero _ _)⟩
  case round =>
    obtain ⟨i, hig, hile, hwx, hb, hno⟩ := hrel
    rcases Nat.lt_or_ge i s.size with hi | hi
    · obtain ⟨gn, rfl⟩ : ∃ gn, gk = gn + 1 := ⟨gk - 1, by omega⟩
      obtain ⟨W, hnx, hWg, hWl, hbW⟩ := next_world (P := Tryz.prog) w wr w.heap.size s i hi hwx hb.out
      have HB := Lib.hid hbW
      have HWl := Lib.hid hWl
      clear hwx hb hbW hWl
      by_cases hx : (s[i]'hi).toNat < 128
      · rw [decode_ascii s i hi hx] at hnx hWg
        simp only at hnx hWg
        have Hx := Lib.hid (Lib.data_getElem? s i hi)
        generalize s[i]'hi = x at *
        have hR := Lib.hid (fun w => Tryz.strings_IndexRune_ascii ⟨#[47, 63]⟩ (x.toNat : Int) w (by omega) (by omega))
        have hcon := Lib.contains_iff_indexByte [47, 63] x
        have hback : ((x.toNat : Int)).toNat.toUInt8 = x := by simp
        rw [hback] at hR
        have hR2 : Hid (∀ w, Calls Tryz.prog 92 #[.string ⟨#[47, 63]⟩, .int .i32 (x.toNat : Int)] w fun e w' => e = .returned (.int .i64 (Lib.indexByte [47, 63] x)) ∧ w' = w) := hR
        clear hR hback
        have HWg := Lib.hid hWg
        clear hWg
        generalize hix : Lib.indexByte [47, 63] x = ix at *
        clear hix
        cases hin : List.contains [47, 63] x with
        | false =>
          rw [hin] at hcon
          have hlt : ¬ ((0 : Int) ≤ ix) := of_decide_eq_false hcon.symm
          have HN := Lib.hid (hno.out.succ Hx.out hin)
          clear hcon hin hno
          go_wp2_with (go_at_call 92; with_reducible refine (hR2.out _).mono ?_; rintro e w2 ⟨rfl, hw⟩; rw [hw]; clear hw)
          go_roundg gn
          case measure => omega
          case rel => exact ⟨i + 1, by omega, by omega, HWg.out, HB, HN⟩
        | true =>
          rw [hin] at hcon
          have hge : (0 : Int) ≤ ix := of_decide_eq_true hcon.symm
          have HN := Lib.hid (Lib.indexAny_hit hno.out Hx.out hin)
          clear hcon hin hno
          go_wp2_with (go_at_call 92; with_reducible refine (hR2.out _).mono ?_; rintro e w2 ⟨rfl, hw⟩; rw [hw]; clear hw)
          go_ret
          exact ⟨by rw [HN.out]; rfl, HB.out⟩
      · have hhi := decode_high s i hi (by omega)
        have HN : Hid (Lib.NoAny s.data.toList [47, 63] (i + (Utf8.decode s i).2)) := Lib.hid (by
          intro j b hj hjb
          rcases Nat.lt_or_ge j i with hlt | hge
          · exact hno.out j b hlt hjb
          · obtain ⟨hk, h128⟩ := rune_high s i j hi (by omega) hge hj
            rw [Lib.data_getElem? s j hk] at hjb
            obtain rfl := Option.some.inj hjb
            generalize s[j] = c at *
            rw [List.contains_cons, List.contains_cons, List.contains_nil]
            have n1 : c ≠ 47 := fun e => by rw [e] at h128; revert h128; decide
            have n2 : c ≠ 63 := fun e => by rw [e] at h128; revert h128; decide
            simp [n1, n2])
        have hv := rune_valid_at s i
        have hwid : i + (Utf8.decode s i).2 ≤ s.size := by
          have := decodeN_tail (s.size - i) (s.get! i).toNat (s.get! (i + 1)).toNat (s.get! (i + 2)).toNat (s.get! (i + 3)).toNat (by omega)
          rw [← Lib.decode_at] at this
          omega
        have HWg := Lib.hid hWg
        clear hWg
        obtain ⟨hr1, hr2⟩ := hhi
        generalize (Utf8.decode s i).1 = r at *
        generalize (Utf8.decode s i).2 = k at *
        have hR2 := Lib.hid (fun w => indexRune_high r w hr1 hv)
        clear hv hr1 hx hno
        go_wp2_with (go_at_call 92; with_reducible refine (hR2.out _).mono ?_; rintro e w2 ⟨rfl, hb2⟩)
        go_roundg gn
        case measure => omega
        case rel => exact ⟨i + k, by omega, by omega, (hb2.block _ HWl.out).trans HWg.out, Lib.hid (HB.out.trans (hb2.mono (by have := HWl.out; omega))), HN⟩
    · obtain rfl : i = s.size := by omega
      have hnx := fun ty => next_last (P := Tryz.prog) wr w.heap.size s s.size ty (by omega) hwx
      have HN := Lib.hid (Lib.indexAny_none (by rw [len]; exact hno.out))
      clear hwx hno
      go_wp2
      go_ret
      exact ⟨by rw [HN.out]; rfl, hb.out⟩
theorem zero_256 (w : World) : (zeroValue 103).run Tryz.prog w = .ok (.agg (Array.replicate 256 (.bool false))) w := by kernel_rfl
theorem indexAny_any (s : ByteArray) (w : World) (hs : s.size ≤ 1000000000) :
    Calls Tryz.prog 78 #[.string s, .string ⟨#[47, 63]⟩] w fun e w' => e = .returned (.int .i64 (Lib.indexAny s.data.toList [47, 63])) ∧ Below w.heap.size w w' := by
  rcases Nat.lt_or_ge 8 s.size with h | h
  · refine (Tryz.strings_IndexAny_long zero_256 s ⟨#[47, 63]⟩ w (by decide) h (by omega) (by decide) ?_).mono ?_
    · intro j b hb
      match j with
      | 0 => obtain rfl : b = 47 := by simpa using hb.symm
             decide
      | 1 => obtain rfl : b = 63 := by simpa using hb.symm
             decide
      | j + 2 => simp at hb
    · rintro e w' ⟨rfl, rfl⟩
      exact ⟨rfl, ((Below.refl _ _).alloc (Nat.le_refl _) _).alloc (by simp) _⟩
  · exact indexAny_short s w h
end code
end Go.Proofs.YtlignmlkoahbmaaGreatDoor.Tgt
