/-
  Layer 3 (text): the walk of TextTells: it returns true, and writes nothing that was there.
-/
import Derived.Test.YteldcpogoliioaaDoorTextKnown
import Derived.Test.YteldcpogoliioaaDoorAppend
namespace Go.Proofs.YteldcpogoliioaaDoor.Txt
open Go.RowKit Base Oct

/-- What is held of one text, all at once: both packages answer the same. -/
structure Both (x s set : ByteArray) : Prop where
  l1 : ∀ w : World, Calls Tryd.prog 9 #[.string x] w fun e w' => e = .returned (.string (lower x)) ∧ Below w.heap.size w w'
  l2 : ∀ w : World, Calls Tryd.prog 10 #[.string x] w fun e w' => e = .returned (.string (lower x)) ∧ Below w.heap.size w w'
  s1 : ∀ w : World, Calls Tryd.prog 11 #[.string x, .string s] w fun e w' => e = .returned (.bool (same x s)) ∧ Below w.heap.size w w'
  s2 : ∀ w : World, Calls Tryd.prog 12 #[.string x, .string s] w fun e w' => e = .returned (.bool (same x s)) ∧ Below w.heap.size w w'
  s3 : ∀ w : World, Calls Tryd.prog 11 #[.string x, .string (lower x)] w fun e w' => e = .returned (.bool true) ∧ Below w.heap.size w w'
  t1 : ∀ w : World, Calls Tryd.prog 13 #[.string x] w fun e w' => e = .returned (.string (trim x)) ∧ w' = w
  t2 : ∀ w : World, Calls Tryd.prog 14 #[.string x] w fun e w' => e = .returned (.string (trim x)) ∧ w' = w
  o1 : ∀ w : World, Calls Tryd.prog 15 #[.string x, .string set] w fun e w' => e = .returned (.string (trimOf x set)) ∧ Below w.heap.size w w'
  o2 : ∀ w : World, Calls Tryd.prog 16 #[.string x, .string set] w fun e w' => e = .returned (.string (trimOf x set)) ∧ w' = w
  p1 : ∀ w : World, Calls Tryd.prog 15 #[.string x, .string ⟨#[11, 12, 32, 9]⟩] w fun e w' => e = .returned (.string (trimOf x ⟨#[11, 12, 32, 9]⟩)) ∧ Below w.heap.size w w'
  p2 : ∀ w : World, Calls Tryd.prog 16 #[.string x, .string ⟨#[11, 12, 32, 9]⟩] w fun e w' => e = .returned (.string (trimOf x ⟨#[11, 12, 32, 9]⟩)) ∧ w' = w
  i1 : ∀ (w : World) (g : Nat), Strs w (some ⟨g, 0, none⟩) 1 [x] → Calls Tryd.prog 18 #[.slice (some ⟨g, 0, none⟩) 1 1] w fun e w' => ∃ b m c, e = .returned (.slice b m c) ∧ m ≤ 1000000000 ∧ Strs w' b m (list [x]) ∧ Below w.heap.size w w'
  i2 : ∀ (w : World) (g : Nat), Strs w (some ⟨g, 0, none⟩) 1 [x] → Calls Tryd.prog 19 #[.slice (some ⟨g, 0, none⟩) 1 1] w fun e w' => ∃ b m c, e = .returned (.slice b m c) ∧ m ≤ 1000000000 ∧ Strs w' b m (list [x]) ∧ Below w.heap.size w w'
theorem both (x s set : ByteArray) (hx : x.size ≤ 1000) (hs : s.size ≤ 1000) (ht : set.size ≤ 1000) : Both x s set where
  l1 := fun w => lower_any x w (by omega)
  l2 := fun w => rlower_any x w (by omega)
  s1 := fun w => same_any x s w (by unfold maxLen; omega)
  s2 := fun w => rsame_any x s w (by omega) (by omega)
  s3 := fun w => (same_any x (lower x) w (by unfold maxLen; omega)).mono (by rintro e w' ⟨rfl, hb⟩; exact ⟨by rw [same_lower], hb⟩)
  t1 := fun w => trim_any x w (by unfold maxLen; omega)
  t2 := fun w => rtrim_any x w (by unfold maxLen; omega)
  o1 := fun w => trimOf_any x set w (by unfold maxLen; omega) (by unfold maxLen; omega)
  o2 := fun w => rtrimOf_any x set w (by unfold maxLen; omega) (by unfold maxLen; omega)
  p1 := fun w => trimOf_any x _ w (by unfold maxLen; omega) (by decide)
  p2 := fun w => rtrimOf_any x _ w (by decide) (by unfold maxLen; omega)
  i1 := fun w g h => (list_any _ 1 1 [x] w h (by simp [room]; omega)).mono (by
    rintro e w' ⟨b, m, c, rfl, hm, hS, hb⟩
    have := list_le [x]
    exact ⟨b, m, c, rfl, by simp [room] at this; omega, hS, hb⟩)
  i2 := fun w g h => (rlist_any _ 1 1 [x] w h (by simp [room]; omega)).mono (by
    rintro e w' ⟨b, m, c, rfl, hm, hS, hb⟩
    have := list_le [x]
    exact ⟨b, m, c, rfl, by simp [room] at this; omega, hS, hb⟩)
theorem room_le (c : Nat) : ∀ ss : List ByteArray, (∀ s ∈ ss, s.size ≤ c) → room ss ≤ ss.length * (c + 1)
  | [], _ => by simp [room]
  | s :: ss, h => by
    have ih := room_le c ss fun x hx => h x (by simp [hx])
    have h1 := h s (by simp)
    rw [room] at *
    rw [List.map_cons, List.sum_cons, List.length_cons, Nat.add_mul]
    omega
theorem texts_here {w : World} {a : Option Addr} {n : Nat} {ss : List ByteArray} (h : Strs w a n ss) (hn : 0 < n) : ∃ b off, a = some ⟨b, off, none⟩ ∧ ∀ j u, (ss.map Value.string)[j]? = some u → w.cell? ⟨b, off + j, none⟩ = some u := by
  obtain ⟨b, off, e, _, hc⟩ := h.2 hn
  refine ⟨b, off, e, fun j u hj => ?_⟩
  have hl := h.1
  rw [List.getElem?_map] at hj
  rcases Nat.lt_or_ge j ss.length with hlt | hge
  · rw [hc j (by omega)]
    rw [List.getElem?_eq_getElem hlt] at hj ⊢
    exact hj
  · rw [List.getElem?_eq_none hge] at hj; cases hj
theorem texts_one (ss : List ByteArray) : ∀ u ∈ ss.map Value.string, u.oneCell' = true := by
  intro u hu
  obtain ⟨s, _, rfl⟩ := List.mem_map.1 hu
  rfl
theorem own_lit (w : World) (s : ByteArray) (t : TypeId) : (w.alloc (.cells #[.string s] t)).ownsRow w.heap.size t 1 (.slice (some ⟨w.heap.size, 0, none⟩) 1 1) 1 ([s].map Value.string) :=
  World.ownsRow_lit w #[.string s] 1 (Nat.le_refl _) (by decide) rfl
/-- 'append([]string{s}, l...)', at a guarded place: its run. -/
theorem app_text (w : World) (s : ByteArray) (a : Option Addr) (n cap : Nat) (ls : List ByteArray) (hv : Strs w a n ls) (hn : n ≤ 1000000) :
    ∃ A c w', (Builtin.append_ #[22, 22] 22 #[.slice (some ⟨w.heap.size, 0, none⟩) 1 1, .slice a n cap]).run Tryd.prog (w.alloc (.cells #[.string s] 9)) = .ok (.slice A (1 + n) c) w' ∧ Strs w' A (1 + n) (s :: ls) ∧ Below w.heap.size w w' := by
  obtain ⟨i0, hi, hz0, hz1, hz2⟩ := info_parts text_info
  obtain ⟨v, w', hr, hown, hg, _⟩ := App.run_append_list (P := Tryd.prog) (w.alloc (.cells #[.string s] 9)) 22 22 w.heap.size 9 i0 (.string ByteArray.empty) 1 16 Tryd.underlying22 hi hz0 hz1 hz2 rfl (by decide) _ 1 ([s].map Value.string) (own_lit w s _)
    a n cap (ls.map Value.string) (by rw [List.length_map, hv.1]; omega) (texts_here (hv.below ((Below.refl _ _).alloc (Nat.le_refl _) _))) (texts_one ls) (by unfold maxLen; omega) (by omega) (by simp)
  obtain ⟨A, c, rfl, hS⟩ := Strs.of_own (ss := s :: ls) hown
  exact ⟨A, c, w', hr, hS, ((Below.refl _ _).alloc (Nat.le_refl _) _).grown hg (by simp) (own_base (own_lit w s 9))⟩
/-- One of five texts, by its place. -/
def fifth (x0 x1 x2 x3 x4 : ByteArray) : Nat → ByteArray
  | 0 => x0 | 1 => x1 | 2 => x2 | 3 => x3 | _ => x4
theorem fifth_cell (w : World) (t : TypeId) (x0 x1 x2 x3 x4 : ByteArray) (k : Nat) (hk : k < 5) : (w.alloc (.cells #[.string x0, .string x1, .string x2, .string x3, .string x4] t)).cell? ⟨w.heap.size, k, none⟩ = some (.string (fifth x0 x1 x2 x3 x4 k)) := by
  rw [cell_of_row (w.alloc _) w.heap.size k _ t (0, 0) (heap_alloc_new w _)]
  rcases (by omega : k = 0 ∨ k = 1 ∨ k = 2 ∨ k = 3 ∨ k = 4) with rfl | rfl | rfl | rfl | rfl <;> rfl
theorem fifth_of (p : ByteArray → Prop) (x0 x1 x2 x3 x4 : ByteArray) (h0 : p x0) (h1 : p x1) (h2 : p x2) (h3 : p x3) (h4 : p x4) : ∀ k, p (fifth x0 x1 x2 x3 x4 k)
  | 0 => h0 | 1 => h1 | 2 => h2 | 3 => h3 | _ + 4 => h4

section code
set_option maxHeartbeats 1000000
attribute [local go_sem] Base.some_undef
theorem textTells_out (s t set : ByteArray) (a : Option Addr) (n cap : Nat) (ls : List ByteArray) (w : World) (hv : Strs w a n ls) (hs : s.size ≤ maxLen) (ht : t.size ≤ maxLen) (hset : set.size ≤ maxLen)
    (hout : 80 < s.size ∨ 80 < t.size ∨ 20 < set.size ∨ smallOf ls = false) :
    Calls Tryd.prog 3 #[.string s, .string t, .string set, .slice a n cap] w fun e w' => e = .returned (.bool true) ∧ Below w.heap.size w w' := by
  unfold maxLen at hs ht hset
  have HV := Lib.hid hv
  clear hv
  have HSm := Lib.hid (fun w' hb => small_any a n cap ls w' (HV.out.below hb))
  generalize smallOf ls = sm at *
  rcases Nat.lt_or_ge 80 s.size with c1 | c1
  · go_enter Tryd.func3, Tryd.ntmps3
    go_wp2_with (go_at_call 7; with_reducible refine (known_any _).mono ?_; rintro e w1 ⟨rfl, hb⟩)
    go_ret
    exact ⟨rfl, hb⟩
  rcases Nat.lt_or_ge 80 t.size with c2 | c2
  · go_enter Tryd.func3, Tryd.ntmps3
    go_wp2_with (go_at_call 7; with_reducible refine (known_any _).mono ?_; rintro e w1 ⟨rfl, hb⟩)
    go_ret
    exact ⟨rfl, hb⟩
  rcases Nat.lt_or_ge 20 set.size with c3 | c3
  · go_enter Tryd.func3, Tryd.ntmps3
    go_wp2_with (go_at_call 7; with_reducible refine (known_any _).mono ?_; rintro e w1 ⟨rfl, hb⟩)
    go_ret
    exact ⟨rfl, hb⟩
  obtain rfl : sm = false := by
    rcases hout with h | h | h | h
    · omega
    · omega
    · omega
    · exact h
  clear hout
  go_enter Tryd.func3, Tryd.ntmps3
  go_wp2_with (first
    | (go_at_call 7; with_reducible refine (known_any _).mono ?_; rintro e w1 ⟨rfl, hb⟩)
    | (go_at_call 8; with_reducible refine (HSm.out _ hb).mono ?_; rintro e w2 ⟨rfl, hw⟩; rw [hw]; clear hw))
  go_ret
  exact ⟨rfl, hb⟩

set_option maxRecDepth 10000 in
theorem textTells_in (s t set : ByteArray) (a : Option Addr) (n cap : Nat) (ls : List ByteArray) (w : World) (hv : Strs w a n ls) (c1 : s.size ≤ 80) (c2 : t.size ≤ 80) (c3 : set.size ≤ 20) (hsm : smallOf ls = true) :
    Calls Tryd.prog 3 #[.string s, .string t, .string set, .slice a n cap] w fun e w' => e = .returned (.bool true) ∧ Below w.heap.size w w' := by
  have HV := Lib.hid hv
  have HL := Lib.hid hv.1
  clear hv
  obtain ⟨hn12, hls⟩ := small_spec hsm
  have HSm := Lib.hid (fun w' hb => small_any a n cap ls w' (HV.out.below hb))
  rw [hsm] at HSm
  have hn : n ≤ 12 := by rw [← HL.out]; exact hn12
  have hroom := room_le 60 ls hls
  have HR := Lib.hid (show room ls ≤ 1000 by omega)
  have HRs := Lib.hid (show room (s :: ls) ≤ 2000 by rw [room, List.map_cons, List.sum_cons]; have := HR.out; rw [room] at this; omega)
  clear hroom hls hsm hn12
  have v1 : ¬ 9223372036854775807 < 1 + s.size := by omega
  have v2 : ¬ 9223372036854775807 < s.size + 1 := by omega
  have v3 : ¬ 9223372036854775807 < 1 + s.size + 1 := by omega
  have v4 : ¬ 9223372036854775807 < s.size + 1 + t.size := by omega
  have v5 : ¬ 9223372036854775807 < 1 + s.size + 2 := by omega
  go_enter Tryd.func3, Tryd.ntmps3
  go_wp2_with (first
    | (go_at_call 7; with_reducible refine (known_any _).mono ?_; rintro e w1 ⟨rfl, hb⟩)
    | (go_at_call 8; with_reducible refine (HSm.out _ hb).mono ?_; rintro e w2 ⟨rfl, hw⟩; rw [hw]; clear hw))
  have hX2 : (({ data := #[32] } : ByteArray) ++ s ++ { data := #[9] }).size ≤ 1000 := by
    rw [ByteArray.size_append, ByteArray.size_append, show (ByteArray.mk #[32]).size = 1 from rfl, show (ByteArray.mk #[9]).size = 1 from rfl]; omega
  have hX3 : (s ++ { data := #[44] } ++ t : ByteArray).size ≤ 1000 := by
    rw [ByteArray.size_append, ByteArray.size_append, show (ByteArray.mk #[44]).size = 1 from rfl]; omega
  have hX4 : (({ data := #[11] } : ByteArray) ++ s ++ { data := #[12, 32] }).size ≤ 1000 := by
    rw [ByteArray.size_append, ByteArray.size_append, show (ByteArray.mk #[11]).size = 1 from rfl, show (ByteArray.mk #[12, 32]).size = 2 from rfl]; omega
  generalize ({ data := #[32] } : ByteArray) ++ s ++ { data := #[9] } = X2 at *
  generalize (s ++ { data := #[44] } ++ t : ByteArray) = X3 at *
  generalize ({ data := #[11] } : ByteArray) ++ s ++ { data := #[12, 32] } = X4 at *
  have hX := Lib.hid (fifth_of (fun x : ByteArray => x.size ≤ 1000) s t X2 X3 X4 (by omega) (by omega) hX2 hX3 hX4)
  have hcell : Hid (∀ k, k < 5 → (w1.alloc (.cells #[.string s, .string t, .string X2, .string X3, .string X4] 9)).cell? ⟨w1.heap.size, k, none⟩ = some (.string (fifth s t X2 X3 X4 k))) := Lib.hid fun k hk => fifth_cell w1 _ s t X2 X3 X4 k hk
  have hg : w1.heap.size < (w1.alloc (.cells #[.string s, .string t, .string X2, .string X3, .string X4] 9)).heap.size := by simp
  have hW := Lib.hid (show Below w.heap.size w (w1.alloc (.cells #[.string s, .string t, .string X2, .string X3, .string X4] 9)) from hb.alloc hb.size _)
  clear hX2 hX3 hX4 hb
  generalize w1.alloc (.cells #[.string s, .string t, .string X2, .string X3, .string X4] 9) = W at *
  generalize w1.heap.size = g at *
  go_loopw [45] (fun i wq => ∃ q : Nat, q ≤ 5 ∧ i = .int .i64 q ∧ Hid (Below W.heap.size W wq)) (fun i _ => 5 - (intOf i).toNat)
  case atStart => exact ⟨0, Nat.zero_le _, rfl, Lib.hid (Below.refl _ _)⟩
  case round =>
    obtain ⟨q, hq, rfl, hbq⟩ := hrel
    rcases Nat.lt_or_ge q 5 with hlt | hge
    · have hcq := (hbq.out.cell (p := ⟨g, q, none⟩) hg).trans (hcell.out q hlt)
      have hq5 : (q : Int) < 5 := by omega
      have HB := Lib.hid (both (fifth s t X2 X3 X4 q) s set (hX.out q) (by omega) (by omega))
      have hc := hbq.out
      generalize fifth s t X2 X3 X4 q = x at *
      have L1 := Lib.hid HB.out.l1; have L2 := Lib.hid HB.out.l2; have S1 := Lib.hid HB.out.s1; have S2 := Lib.hid HB.out.s2; have S3 := Lib.hid HB.out.s3
      have T1 := Lib.hid HB.out.t1; have T2 := Lib.hid HB.out.t2; have O1 := Lib.hid HB.out.o1; have O2 := Lib.hid HB.out.o2; have P1 := Lib.hid HB.out.p1; have P2 := Lib.hid HB.out.p2
      have I1 := Lib.hid HB.out.i1; have I2 := Lib.hid HB.out.i2
      clear HB hbq
      generalize same x s = r at *
      generalize lower x = lx at *
      generalize trim x = tx at *
      generalize trimOf x set = ox at *
      generalize trimOf x ⟨#[11, 12, 32, 9]⟩ = px at *
      generalize list [x] = ix at *
      go_wp2_with (first
        | (go_at_call 9; with_reducible refine (L1.out _).mono ?_; rintro e w2 ⟨rfl, hb2⟩; replace hc := Base.below_step hc hb2; clear hb2)
        | (go_at_call 10; with_reducible refine (L2.out _).mono ?_; rintro e w3 ⟨rfl, hb3⟩; replace hc := Base.below_step hc hb3; clear hb3)
        | (go_at_call 11; with_reducible refine (S1.out _).mono ?_; rintro e w4 ⟨rfl, hb4⟩; replace hc := Base.below_step hc hb4; clear hb4)
        | (go_at_call 11; with_reducible refine (S3.out _).mono ?_; rintro e w4 ⟨rfl, hb4⟩; replace hc := Base.below_step hc hb4; clear hb4)
        | (go_at_call 12; with_reducible refine (S2.out _).mono ?_; rintro e w5 ⟨rfl, hb5⟩; replace hc := Base.below_step hc hb5; clear hb5)
        | (go_at_call 13; with_reducible refine (T1.out _).mono ?_; rintro e w6 ⟨rfl, hw⟩; rw [hw]; clear hw)
        | (go_at_call 14; with_reducible refine (T2.out _).mono ?_; rintro e w6 ⟨rfl, hw⟩; rw [hw]; clear hw)
        | (go_at_call 15; with_reducible refine (O1.out _).mono ?_; rintro e w7 ⟨rfl, hb7⟩; replace hc := Base.below_step hc hb7; clear hb7)
        | (go_at_call 15; with_reducible refine (P1.out _).mono ?_; rintro e w7 ⟨rfl, hb7⟩; replace hc := Base.below_step hc hb7; clear hb7)
        | (go_at_call 16; with_reducible refine (O2.out _).mono ?_; rintro e w8 ⟨rfl, hw⟩; rw [hw]; clear hw)
        | (go_at_call 16; with_reducible refine (P2.out _).mono ?_; rintro e w8 ⟨rfl, hw⟩; rw [hw]; clear hw)
        | (go_at_call 18; with_reducible refine (I1.out _ _ ?_).mono ?_; exact Strs.one _ _ rfl _ _; rintro e w9 ⟨b9, m9, c9, rfl, hm9, hS9, hb9⟩
           replace hc := Base.below_step (hc.alloc hc.size _) hb9
           have hS9' := hS9.below ((Below.refl _ _).alloc (Nat.le_refl _) (.cells #[.string x] 9))
           clear hb9 hS9)
        | (go_at_call 19; with_reducible refine (I2.out _ _ ?_).mono ?_; exact Strs.one _ _ rfl _ _; rintro e w10 ⟨b10, m10, c10, rfl, hm10, hS10, hb10⟩
           replace hc := Base.below_step (hc.alloc hc.size _) hb10
           have hS9'' := hS9'.below hb10
           have hE := rstrings_any b9 m9 c9 ix b10 m10 c10 ix w10 hS9'' hS10 hm9 hm10
           rw [decide_eq_true rfl] at hE
           have HE := Lib.hid hE
           clear hb10 hS9' hS9'' hS10 hE)
        | (go_at_call 17; with_reducible refine HE.out.mono ?_; rintro e w11 ⟨rfl, q11, rfl⟩))
      go_roundw
      case rel => exact ⟨q + 1, by omega, by go_num, Lib.hid (Base.below_drewN hc _)⟩
      case measure => simp [intOf]; omega
    · have hq5 : ¬ (q : Int) < 5 := by omega
      have hc := Base.below_step hW.out hbq.out
      have hll := list_le ls
      have hls := list_le (s :: ls)
      have hr1 := HR.out
      have hr2 := HRs.out
      have h1 := Lib.hid (list_any a n cap ls wr (HV.out.below hc) (by omega))
      have HM := Lib.hid (show (ls.map Value.string).length = n * 1 by rw [List.length_map, HL.out]; omega)
      obtain ⟨i0, hi, hz0, hz1, hz2⟩ := info_parts text_info
      have G1 := Lib.hid hi; have G2 := Lib.hid hz0; have G3 := Lib.hid hz1; have G4 := Lib.hid hz2
      clear hi hz0 hz1 hz2 hbq hcell hg hX
      go_wp2_with (first
        | (go_at_call 18; with_reducible refine h1.out.mono ?_; rintro e w2 ⟨b2, _, c2, rfl, rfl, hS2, hb2⟩
           replace hc := Base.below_step hc hb2
           have h2 := rlist_any a n cap ls w2 (HV.out.below hc) (by omega)
           clear hb2)
        | (go_at_call 19; with_reducible refine h2.mono ?_; rintro e w3 ⟨b3, _, c3, rfl, rfl, hS3, hb3⟩
           replace hc := Base.below_step hc hb3
           have hE := rstrings_any b2 _ c2 _ b3 _ c3 _ w3 (hS2.below hb3) hS3 (by omega) (by omega)
           rw [decide_eq_true rfl] at hE
           clear hb3 hS2 hS3 h2)
        | (go_at_call 17; with_reducible refine hE.mono ?_; rintro e w4 ⟨rfl, q4, rfl⟩
           replace hc := Base.below_drewN hc q4
           clear hE
           first
             | (obtain ⟨A5, c5, w5, hrun5, hS5, hb5⟩ := app_text (w3.drewN q4) s a n cap ls (HV.out.below hc) (by omega)
                rw [show (w3.drewN q4).heap.size = w3.heap.size from rfl] at hrun5
                have hc5 := Base.below_step hc hb5
                have h6 := list_any A5 (1 + n) c5 (s :: ls) w5 hS5 (by omega))
             | skip)
        | (at_builtin; refine App.wpList_append_run (by rfl) _ _ _ rfl _ _ rfl rfl _ _ hrun5 ?_)
        | (at_builtin; refine App.wpList_append_run (by rfl) _ _ _ rfl _ _ rfl rfl _ _ hrun7 ?_)
        | (go_at_call 18; with_reducible refine h6.mono ?_; rintro e w6 ⟨b6, _, c6, rfl, rfl, hS6, hb6⟩
           clear hrun5
           have hc6 := Base.below_step hc5 hb6
           obtain ⟨A7, c7, w7, hrun7, hS7, hb7⟩ := app_text w6 s a n cap ls (HV.out.below hc6) (by omega)
           have hc7 := Base.below_step hc6 hb7
           have hS67 := hS6.below hb7
           have h8 := rlist_any A7 (1 + n) c7 (s :: ls) w7 hS7 (by omega))
        | (go_at_call 19; with_reducible refine h8.mono ?_; rintro e w8 ⟨b8, _, c8, rfl, rfl, hS8, hb8⟩
           have hc8 := Base.below_step hc7 hb8
           have hE8 := rstrings_any b6 _ c6 _ b8 _ c8 _ w8 (hS67.below hb8) hS8 (by omega) (by omega)
           rw [decide_eq_true rfl] at hE8)
        | (go_at_call 17; with_reducible refine hE8.mono ?_; rintro e w9 ⟨rfl, q9, rfl⟩))
      go_ret
      exact ⟨rfl, Base.below_drewN hc8 _⟩

theorem textTells_law (s t set : ByteArray) (a : Option Addr) (n cap : Nat) (ls : List ByteArray) (w : World) (hv : Strs w a n ls) (hs : s.size ≤ maxLen) (ht : t.size ≤ maxLen) (hset : set.size ≤ maxLen) :
    Calls Tryd.prog 3 #[.string s, .string t, .string set, .slice a n cap] w fun e w' => e = .returned (.bool true) ∧ Below w.heap.size w w' := by
  rcases Nat.lt_or_ge 80 s.size with c1 | c1
  · exact textTells_out s t set a n cap ls w hv hs ht hset (.inl c1)
  rcases Nat.lt_or_ge 80 t.size with c2 | c2
  · exact textTells_out s t set a n cap ls w hv hs ht hset (.inr (.inl c2))
  rcases Nat.lt_or_ge 20 set.size with c3 | c3
  · exact textTells_out s t set a n cap ls w hv hs ht hset (.inr (.inr (.inl c3)))
  cases hq : smallOf ls with
  | false => exact textTells_out s t set a n cap ls w hv hs ht hset (.inr (.inr (.inr hq)))
  | true => exact textTells_in s t set a n cap ls w hv c1 c2 c3 hq
end code
end Go.Proofs.YteldcpogoliioaaDoor.Txt
