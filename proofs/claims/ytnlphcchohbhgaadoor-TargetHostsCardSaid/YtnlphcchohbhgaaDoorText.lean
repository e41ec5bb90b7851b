/-
  Layer 3 (text): what Lower, Same, Trim and TrimOf answer, of every text up to a great size, and write nothing that was there.
-/
import Derived.Test.YtnlphcchohbhgaaDoorTextWords
import Derived.Test.YtnlphcchohbhgaaDoorOctet
import Derived.Lib.AppendStr
import Derived.Laws.OwnMore
import Derived.Laws.IdiomStrings
import Derived.Shelf.Abstract
namespace Go.Proofs.YtnlphcchohbhgaaDoor.Txt
open Go.RowKit Base Oct

theorem byte_info : (Tryd.prog.info? 5).map (fun i => (i.zero, i.size, i.bytes)) = some (some (.int .u8 0), 1, 1) := by kernel_rfl
theorem text_info : (Tryd.prog.info? 9).map (fun i => (i.zero, i.size, i.bytes)) = some (some (.string ByteArray.empty), 1, 16) := by kernel_rfl

/-- The bytes behind k rounds of Lower. -/
def mix (l : List UInt8) (k : Nat) : List UInt8 := low (l.take k) ++ l.drop k
def bcells (l : List UInt8) : List Value := l.map fun b => Value.int .u8 b.toNat
theorem mix_zero (l : List UInt8) : mix l 0 = l := by simp [mix, low]
theorem mix_all (l : List UInt8) (k : Nat) (h : l.length ≤ k) : mix l k = low l := by
  unfold mix; rw [List.take_of_length_le h, List.drop_eq_nil_of_le h, List.append_nil]
theorem mix_length (l : List UInt8) (k : Nat) : (mix l k).length = l.length := by
  unfold mix low; simp; omega
theorem mix_at (l : List UInt8) (k : Nat) (h : k < l.length) : (bcells (mix l k))[k]? = some (.int .u8 (l[k].toNat : Int)) := by
  unfold bcells mix low
  rw [List.getElem?_map, List.getElem?_append_right (by simp; omega)]
  have : k - (List.map lowB (List.take k l)).length = 0 := by simp; omega
  rw [this, List.getElem?_drop, Nat.add_zero, List.getElem?_eq_getElem h]; rfl
theorem mix_set (l : List UInt8) (k : Nat) (h : k < l.length) : (bcells (mix l k)).set k (.int .u8 (lowN (l[k].toNat : Int))) = bcells (mix l (k + 1)) := by
  unfold bcells mix low
  rw [List.map_append, List.map_append, List.set_append_right _ _ (by simp; omega), List.take_succ_eq_append_getElem h, List.drop_eq_getElem_cons h]
  have : k - (List.map (fun b : UInt8 => Value.int IntKind.u8 b.toNat) (List.map lowB (List.take k l))).length = 0 := by simp; omega
  rw [this, List.map_cons, List.set_cons_zero, List.map_append, List.map_append, List.append_assoc]
  simp [lowB_toNat]

section code
set_option maxHeartbeats 1000000
theorem lowN_any (n : Int) (w : World) (h0 : 0 ≤ n) (h1 : n ≤ 255) : Calls Tryd.prog 41 #[.int .u8 n] w fun e w' => e = .returned (.int .u8 (lowN n)) ∧ w' = w := by
  by_cases h : 65 ≤ n ∧ n ≤ 90
  · obtain ⟨a, b⟩ := h
    have e1 : IntKind.u8.wrap (n - 65) = n - 65 := by rw [IntKind.wrap_u8]; omega
    have e2 : IntKind.u8.wrap (n - 65 + 97) = n + 32 := by rw [IntKind.wrap_u8]; omega
    go_enter Tryd.func41, Tryd.ntmps41
    go_wp2
    go_ret
    exact ⟨by simp only [lowN, a, b, and_self, if_true]; rw [← e2, ← e1]; rfl, rfl⟩
  · have hr : lowN n = n := by unfold lowN; rw [if_neg h]
    rcases Int.lt_or_le n 65 with a | a
    · go_enter Tryd.func41, Tryd.ntmps41
      go_wp2
      go_ret
      first | exact ⟨rfl, rfl⟩ | exact ⟨by rw [hr]; rfl, rfl⟩
    · have b : 90 < n := by omega
      go_enter Tryd.func41, Tryd.ntmps41
      go_wp2
      go_ret
      first | exact ⟨rfl, rfl⟩ | exact ⟨by rw [hr]; rfl, rfl⟩

theorem same_any (a b : ByteArray) (w : World) (ha : a.size ≤ maxLen) : Calls Tryd.prog 23 #[.string a, .string b] w fun e w' => e = .returned (.bool (same a b)) ∧ Below w.heap.size w w' := by
  unfold maxLen at ha
  by_cases hl : a.size = b.size
  · have hq : ∀ x (w : World), 0 ≤ x → x ≤ 255 → Hid (Calls Tryd.prog 41 #[.int .u8 x] w fun e w' => e = .returned (.int .u8 (lowN x)) ∧ w' = w) := fun x w h0 h1 => Lib.hid (lowN_any x w h0 h1)
    go_enter Tryd.func23, Tryd.ntmps23
    go_wp2
    go_loopw [13] (fun i wr => ∃ k : Nat, k ≤ a.size ∧ i = .int .i64 k ∧ Hid (low (a.data.toList.take k) = low (b.data.toList.take k)) ∧ Hid (Below w.heap.size w wr)) (fun i _ => a.size - (intOf i).toNat)
    case atStart => exact ⟨0, Nat.zero_le _, rfl, Lib.hid rfl, Lib.hid (Below.refl _ _)⟩
    case round =>
      obtain ⟨k, hk, rfl, hsm, hbr⟩ := hrel
      rcases Nat.lt_or_ge k a.size with hlt | hge
      · have hltb : k < b.size := by omega
        have ta := Lib.hid (take_snoc a k hlt)
        have tb := Lib.hid (take_snoc b k hltb)
        have hca := fun w => hq (a[k].toNat : Int) w (by omega) (byte_lt _)
        have hcb := fun w => hq (b[k].toNat : Int) w (by omega) (byte_lt _)
        have la := lowB_toNat a[k]
        have lb := lowB_toNat b[k]
        have hna : k < a.data.toList.length := by rw [len]; exact hlt
        by_cases he : lowB a[k] = lowB b[k]
        · have hxy : lowN (a[k].toNat : Int) = lowN (b[k].toNat : Int) := by rw [← la, ← lb, he]
          have HE := Lib.hid he
          clear he
          have h1 := Lib.hid hca; have h2 := Lib.hid hcb
          clear hca hcb hq
          have i1 : (k : Int) < (a.size : Int) := by omega
          have i2 : (k : Int) < (b.size : Int) := by omega
          go_wp2_with fail
          go_quiet ((first | (go_at_call 41; with_reducible exact Calls.quiet_of_same (h1.out _).out) | (go_at_call 41; with_reducible exact Calls.quiet_of_same (h2.out _).out)))
          rename_i nq
          have hb' := Lib.hid (Base.below_drewN hbr.out nq)
          go_wp2
          go_roundw
          case rel =>
            refine ⟨k + 1, by omega, by go_num, Lib.hid ?_, hb'⟩
            rw [ta.out, tb.out, low, low, List.map_append, List.map_append]
            have e1 := hsm.out
            unfold low at e1
            rw [e1]
            simp [HE.out]
          case measure => simp [intOf]; omega
        · have hxy : ¬ lowN (a[k].toNat : Int) = lowN (b[k].toNat : Int) := fun e => he (by
            rw [← la, ← lb] at e
            exact UInt8.toNat_inj.1 (by omega))
          have hf : same a b = false := by
            refine Bool.eq_false_iff.2 fun hs => he ?_
            have e1 := congrArg (fun l => l[k]?) (beq_iff_eq.1 hs)
            have hnb : k < b.data.toList.length := by rw [len]; exact hltb
            simp only [low, List.getElem?_map, List.getElem?_eq_getElem hna, List.getElem?_eq_getElem hnb, Option.map_some, Option.some.injEq] at e1
            exact e1
          have HE := Lib.hid he
          clear he la lb
          have h1 := Lib.hid hca; have h2 := Lib.hid hcb
          clear hca hcb hq
          have i1 : (k : Int) < (a.size : Int) := by omega
          have i2 : (k : Int) < (b.size : Int) := by omega
          go_wp2_with fail
          go_quiet ((first | (go_at_call 41; with_reducible exact Calls.quiet_of_same (h1.out _).out) | (go_at_call 41; with_reducible exact Calls.quiet_of_same (h2.out _).out)))
          rename_i nq
          have hb' := Lib.hid (Base.below_drewN hbr.out nq)
          go_wp2
          go_ret
          exact ⟨by rw [hf]; rfl, hb'.out⟩
      · obtain rfl : k = a.size := by omega
        go_wp2
        go_ret
        refine ⟨?_, hbr.out⟩
        have e1 := hsm.out
        rw [take_all a _ (Nat.le_refl _), take_all b _ (by omega)] at e1
        have : same a b = true := beq_iff_eq.2 e1
        rw [this]; rfl
  · have hf : same a b = false := Bool.eq_false_iff.2 fun hs => hl (same_sizes hs)
    have hl' : ¬ (a.size : Int) = (b.size : Int) := by omega
    go_enter Tryd.func23, Tryd.ntmps23
    go_wp2
    go_ret
    exact ⟨by rw [hf]; rfl, Below.refl _ _⟩

theorem blank_is (x : UInt8) : Oct.blank (x.toNat : Int) = blank x := by
  rw [Bool.eq_iff_iff]
  simp only [Oct.blank, blank, Bool.or_eq_true, decide_eq_true_eq, beq_iff_eq]
  constructor
  · rintro (h | h)
    · exact Or.inl (UInt8.toNat_inj.1 (by show x.toNat = 32; omega))
    · exact Or.inr (UInt8.toNat_inj.1 (by show x.toNat = 9; omega))
  · rintro (rfl | rfl) <;> decide

end code
end Go.Proofs.YtnlphcchohbhgaaDoor.Txt
