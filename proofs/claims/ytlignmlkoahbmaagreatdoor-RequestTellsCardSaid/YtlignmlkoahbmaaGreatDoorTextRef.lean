/-
  Layer 3 (text): the document's own Lower, Same, TrimOf, Trim, Split: what they answer, of every text up to a great size: the same plain words as package text's.
-/
import Derived.Test.YtlignmlkoahbmaaGreatDoorTextTrim
import Derived.Test.YtlignmlkoahbmaaGreatDoorTextSame
namespace Go.Proofs.YtlignmlkoahbmaaGreatDoor.Txt
open Go.RowKit Base Oct

theorem stands_isIn (set : ByteArray) (x : UInt8) : stands set.data.toList (x.toNat : Int) = isIn set x := by
  unfold stands isIn
  rw [Bool.eq_iff_iff, List.any_eq_true, List.contains_iff_exists_mem_beq]
  constructor
  · rintro ⟨b, hb, e⟩; exact ⟨b, hb, by rw [beq_iff_eq] at e ⊢; exact (UInt8.toNat_inj.1 (by omega)).symm⟩
  · rintro ⟨b, hb, e⟩; rw [beq_iff_eq] at e; subst e; exact ⟨x, hb, by simp⟩

/-- A block whose first cells are the bytes l, and may be written. -/
def Bytes (w : World) (g : Nat) (l : List UInt8) : Prop := ∀ j (h : j < l.length), w.cell? ⟨g, j, none⟩ = some (.int .u8 (l[j].toNat : Int)) ∧ w.frozen? ⟨g, j, none⟩ = false
theorem Bytes.set {w : World} {g : Nat} {l : List UInt8} (h : Bytes w g l) (k : Nat) (b : UInt8) : Bytes (w.setCell ⟨g, k, none⟩ (.int .u8 (b.toNat : Int))) g (l.set k b) := by
  intro j hj
  rw [List.length_set] at hj
  obtain ⟨c, z⟩ := h j hj
  refine ⟨?_, by rw [World.frozen?_setCell]; exact z⟩
  by_cases e : k = j
  · subst e
    rw [World.cell?_setCell_same _ _ _ c, List.getElem_set_self]
  · rw [World.cell?_setCell_other _ _ _ _ (by simp <;> omega), List.getElem_set_ne e]; exact c
theorem Bytes.below {w w' : World} {g : Nat} {l : List UInt8} (h : Bytes w g l) (hg : g < w.heap.size) (hb : Below w.heap.size w w') : Bytes w' g l :=
  fun j hj => ⟨(hb.cell (p := ⟨g, j, none⟩) hg).trans (h j hj).1, (hb.frozen (p := ⟨g, j, none⟩) hg).trans (h j hj).2⟩
theorem conv_bytes (s : ByteArray) (w : World) : ∃ W cap, (convert 9 22 (.string s)).run Tryz.prog w = .ok (.slice (some ⟨w.heap.size, 0, none⟩) s.size cap) W ∧ Bytes W w.heap.size s.data.toList ∧ w.heap.size < W.heap.size ∧ Below w.heap.size w W := by
  have hcv := run_bytes_of_string (P := Tryz.prog) w 9 22 5 s Tryz.underlying9 Tryz.underlying22 Tryz.underlying5
  refine ⟨_, _, hcv, fun j hj => ?_, by simp, (Below.refl _ _).drew.alloc (Nat.le_refl _) _⟩
  have hj' : j < s.data.size := by simpa using hj
  refine ⟨(World.cell?_alloc_mark w.drew _ _ _ j).trans (bytesRow_at s _ j hj'), (World.frozen?_alloc_mark w.drew _ _ _ _ j).trans ?_⟩
  have : ¬ (bytesRow s (grownCap w s.size 0 5)).size ≤ j := by
    unfold bytesRow
    rw [Array.size_append, Array.size_map]; omega
  simp [this]
theorem mix_put (l : List UInt8) (k : Nat) (h : k < l.length) : (mix l k).set k (lowB l[k]) = mix l (k + 1) := by
  unfold mix low
  rw [List.set_append_right _ _ (by simp; omega), List.take_succ_eq_append_getElem h, List.drop_eq_getElem_cons h]
  have : k - (List.map lowB (List.take k l)).length = 0 := by simp; omega
  rw [this, List.set_cons_zero, List.map_append, List.append_assoc]
  rfl
theorem mix_get (l : List UInt8) (k : Nat) (h : k < l.length) : (mix l k)[k]'(by rw [mix_length]; exact h) = l[k] := by
  unfold mix low
  rw [List.getElem_append_right (by simp; omega)]
  have : k - (List.map lowB (List.take k l)).length = 0 := by simp; omega
  simp only [this, List.getElem_drop, Nat.add_zero]
theorem mix_skip (l : List UInt8) (k : Nat) (h : k < l.length) (e : lowB l[k] = l[k]) : mix l k = mix l (k + 1) := by
  rw [← mix_put l k h, e, ← mix_get l k h, List.set_getElem_self]
def tbytes : Value → Nat
  | .string t => t.size
  | _ => 0

section code
set_option maxHeartbeats 1000000
attribute [local go_sem] Base.some_undef
theorem rlower_any (s : ByteArray) (w : World) (hs : s.size ≤ 1099511627776) : Calls Tryz.prog 64 #[.string s] w fun e w' => e = .returned (.string (lower s)) ∧ Below w.heap.size w w' := by
  obtain ⟨W, cap, hcv, hB, hg, hb⟩ := conv_bytes s w
  have hB0 := Lib.hid (show Bytes W w.heap.size (mix s.data.toList 0) by rw [mix_zero]; exact hB)
  have hb0 := Lib.hid hb
  clear hB hb
  go_enter Tryz.func64, Tryz.ntmps64
  go_wp2
  clear hcv
  generalize hgw : w.heap.size = g at *
  have HG := Lib.hid hgw
  clear hgw
  go_loopw [4] (fun i wr => ∃ k : Nat, k ≤ s.size ∧ i = .int .i64 k ∧ Hid (Bytes wr g (mix s.data.toList k)) ∧ Hid (Below g w wr)) (fun i _ => s.size - (intOf i).toNat)
  case atStart => exact ⟨0, Nat.zero_le _, rfl, hB0, hb0⟩
  case round =>
    obtain ⟨k, hk, rfl, hB, hbr⟩ := hrel
    rcases Nat.lt_or_ge k s.size with hlt | hge
    · have hll : k < s.data.toList.length := by rw [len]; exact hlt
      obtain ⟨hc, hz⟩ := hB.out k (by rw [mix_length]; exact hll)
      rw [mix_get _ _ hll] at hc
      have i1 : (k : Int) < (s.size : Int) := by omega
      have hb0 : 0 ≤ (s.data.toList[k].toNat : Int) := by omega
      have hb1 := byte_lt s.data.toList[k]
      by_cases hx : 65 ≤ s.data.toList[k].toNat ∧ s.data.toList[k].toNat ≤ 90
      · obtain ⟨x0, x1⟩ := hx
        have e0 := lowB_toNat s.data.toList[k]
        have e1 : lowN (s.data.toList[k].toNat : Int) = (s.data.toList[k].toNat : Int) + 32 := by unfold lowN; rw [if_pos (by omega)]
        have hset := (hB.out.set k (lowB s.data.toList[k]))
        rw [mix_put _ _ hll, e0, e1] at hset
        have HS := Lib.hid hset
        have y0 : (65 : Int) ≤ (s.data.toList[k].toNat : Int) := by omega
        have y1 : (s.data.toList[k].toNat : Int) ≤ 90 := by omega
        clear e0 e1 hset x0 x1
        generalize (s.data.toList[k].toNat : Int) = x at *
        have e2 : IntKind.u8.wrap (x + 32) = x + 32 := by rw [IntKind.wrap_u8]; omega
        go_wp2
        go_roundw
        case rel => exact ⟨k + 1, by omega, by go_num, HS, Lib.hid (hbr.out.setCell (Nat.le_refl _) _)⟩
        case measure => simp [intOf]; omega
      · have e0 : lowB s.data.toList[k] = s.data.toList[k] := by unfold lowB; rw [if_neg hx]
        have hB2 := hB.out
        rw [mix_skip _ _ hll e0] at hB2
        have HS := Lib.hid hB2
        clear hB2 e0
        rcases Nat.lt_or_ge s.data.toList[k].toNat 65 with h | h
        · have y0 : ¬ (65 : Int) ≤ (s.data.toList[k].toNat : Int) := by omega
          generalize (s.data.toList[k].toNat : Int) = x at *
          go_wp2
          go_roundw
          case rel => exact ⟨k + 1, by omega, by go_num, HS, hbr⟩
          case measure => simp [intOf]; omega
        · have y0 : (65 : Int) ≤ (s.data.toList[k].toNat : Int) := by omega
          have y1 : ¬ (s.data.toList[k].toNat : Int) ≤ 90 := by omega
          generalize (s.data.toList[k].toNat : Int) = x at *
          go_wp2
          go_roundw
          case rel => exact ⟨k + 1, by omega, by go_num, HS, hbr⟩
          case measure => simp [intOf]; omega
    · obtain rfl : k = s.size := by omega
      have hconv := run_convert_bytes_back (P := Tryz.prog) wr 22 9 5 ⟨g, 0, none⟩ cap (low s.data.toList) Tryz.underlying22 Tryz.underlying5 Tryz.underlying9 (fun j hj => by
        have h1 := (hB.out j (by rw [mix_length]; simpa [low] using hj)).1
        have e : (⟨g, 0, none⟩ : Addr).add j = ⟨g, j, none⟩ := by unfold Addr.add; by_cases h : j = 0 <;> simp [h]
        rw [e, h1]
        congr 4
        simp only [mix_all s.data.toList s.size (by rw [len]; exact Nat.le_refl _)])
      have hl : (low s.data.toList).length = s.size := by rw [low, List.length_map, len]
      rw [hl] at hconv
      go_wp2
      go_ret
      exact ⟨rfl, by rw [HG.out]; exact hbr.out⟩

theorem rsame_any (a b : ByteArray) (w : World) (ha : a.size ≤ 1099511627776) (hb : b.size ≤ 1099511627776) : Calls Tryz.prog 42 #[.string a, .string b] w fun e w' => e = .returned (.bool (same a b)) ∧ Below w.heap.size w w' := by
  have h1 := Lib.hid (fun w => rlower_any a w ha)
  have h2 := Lib.hid (fun w => rlower_any b w hb)
  have hr : ((lower a).toList == (lower b).toList) = same a b := by rw [Lib.toList_data, Lib.toList_data]; rfl
  generalize lower a = x at *
  generalize lower b = y at *
  go_enter Tryz.func42, Tryz.ntmps42
  go_wp2_with (first
    | (go_at_call 64; with_reducible refine (h1.out _).mono ?_; rintro e w1 ⟨rfl, hb1⟩)
    | (go_at_call 64; with_reducible refine (h2.out _).mono ?_; rintro e w2 ⟨rfl, hb2⟩))
  go_ret
  exact ⟨by rw [← hr]; rfl, Base.below_step hb1 hb2⟩

theorem first_of (t : ByteArray) (h : 0 < t.size) : t.data.toList = t[0] :: t.data.toList.drop 1 ∧ (t.extract 1 t.size).data.toList = t.data.toList.drop 1 ∧ t.toList.isEmpty = false := by
  have hl : 0 < t.data.toList.length := by rw [len]; exact h
  have e : t.data.toList = t[0] :: t.data.toList.drop 1 := by
    conv => lhs; rw [← List.drop_zero (l := t.data.toList), List.drop_eq_getElem_cons hl]
    rfl
  refine ⟨e, ?_, ?_⟩
  · rw [Lib.extract_data, List.take_of_length_le (by rw [List.length_drop, len]; exact Nat.le_refl _)]
  · rw [Lib.toList_data, e]; rfl
theorem last_of (t : ByteArray) (h : 0 < t.size) : t.data.toList = t.data.toList.take (t.size - 1) ++ [t[t.size - 1]] ∧ (t.extract 0 (t.size - 1)).data.toList = t.data.toList.take (t.size - 1) ∧ t.toList.isEmpty = false := by
  have e := take_snoc t (t.size - 1) (by omega)
  rw [show t.size - 1 + 1 = t.size by omega, take_all t _ (Nat.le_refl _)] at e
  refine ⟨e, ?_, ?_⟩
  · rw [Lib.extract_data, List.drop_zero, Nat.sub_zero]
  · rw [Lib.toList_data]
    cases hl : t.data.toList with
    | nil => exfalso; have h2 := len t; rw [hl, List.length_nil] at h2; omega
    | cons _ _ => rfl
theorem in_any (x : UInt8) (r : Bool) (set : ByteArray) (w : World) (ht : set.size ≤ maxLen) (hq : isIn set x = r) : Calls Tryz.prog 79 #[.int .u8 x.toNat, .string set] w fun e w' => e = .returned (.bool r) ∧ w' = w := by
  have := Oct.stands_any (x.toNat : Int) set w ht
  rw [stands_isIn, hq] at this
  exact this
end code
end Go.Proofs.YtlignmlkoahbmaaGreatDoor.Txt
