/-
  Layer 3 (text): what Lower, Same, Trim and TrimOf answer, of every text up to a great size, and write nothing that was there.
-/
import Derived.Test.YtonedklnjkjcgaaDoorTextWords
import Derived.Test.YtonedklnjkjcgaaDoorOctet
import Derived.Lib.AppendStr
import Derived.Laws.OwnMore
import Derived.Laws.IdiomStrings
import Derived.Shelf.Abstract
import Derived.Test.YtonedklnjkjcgaaDoorShelf
import Derived.Shelf.Strings.Split
namespace Go.Proofs.YtonedklnjkjcgaaDoor.Txt
open Go.RowKit Base Oct

theorem byte_info : (Tryd.prog.info? 5).map (fun i => (i.zero, i.size, i.bytes)) = some (some (.int .u8 0), 1, 1) := by kernel_rfl
theorem text_info : (Tryd.prog.info? 9).map (fun i => (i.zero, i.size, i.bytes)) = some (some (.string ByteArray.empty), 1, 16) := by kernel_rfl

/-- The bytes behind k rounds of Lower. -/
def mix (l : List UInt8) (k : Nat) : List UInt8 := low (l.take k) ++ l.drop k
def bcells (l : List UInt8) : List Value := l.map fun b => Value.int .u8 b.toNat
theorem mix_zero (l : List UInt8) : mix l 0 = l := by simp [mix, low]
theorem mix_all (l : List UInt8) (k : Nat) (h : l.length ≤ k) : mix l k = low l := by
  unfold mix; rw [List.take_of_length_le h, List.drop_eq_nil_of_le h, List.append_nil]
theorem mix_length (l : List UInt8) (k : Nat) : (mix l k).length = l.length := by
  unfold mix low; simp; omega
theorem mix_at (l : List UInt8) (k : Nat) (h : k < l.length) : (bcells (mix l k))[k]? = some (.int .u8 (l[k].toNat : Int)) := by
  unfold bcells mix low
  rw [List.getElem?_map, List.getElem?_append_right (by simp; omega)]
  have : k - (List.map lowB (List.take k l)).length = 0 := by simp; omega
  rw [this, List.getElem?_drop, Nat.add_zero, List.getElem?_eq_getElem h]; rfl
theorem mix_set (l : List UInt8) (k : Nat) (h : k < l.length) : (bcells (mix l k)).set k (.int .u8 (lowN (l[k].toNat : Int))) = bcells (mix l (k + 1)) := by
  unfold bcells mix low
  rw [List.map_append, List.map_append, List.set_append_right _ _ (by simp; omega), List.take_succ_eq_append_getElem h, List.drop_eq_getElem_cons h]
  have : k - (List.map (fun b : UInt8 => Value.int IntKind.u8 b.toNat) (List.map lowB (List.take k l))).length = 0 := by simp; omega
  rw [this, List.map_cons, List.set_cons_zero, List.map_append, List.map_append, List.append_assoc]
  simp [lowB_toNat]

section code
set_option maxHeartbeats 1000000
theorem lowN_any (n : Int) (w : World) (h0 : 0 ≤ n) (h1 : n ≤ 255) : Calls Tryd.prog 45 #[.int .u8 n] w fun e w' => e = .returned (.int .u8 (lowN n)) ∧ w' = w := by
  by_cases h : 65 ≤ n ∧ n ≤ 90
  · obtain ⟨a, b⟩ := h
    have e1 : IntKind.u8.wrap (n - 65) = n - 65 := by rw [IntKind.wrap_u8]; omega
    have e2 : IntKind.u8.wrap (n - 65 + 97) = n + 32 := by rw [IntKind.wrap_u8]; omega
    go_enter Tryd.func45, Tryd.ntmps45
    go_wp2
    go_ret
    exact ⟨by simp only [lowN, a, b, and_self, if_true]; rw [← e2, ← e1]; rfl, rfl⟩
  · have hr : lowN n = n := by unfold lowN; rw [if_neg h]
    rcases Int.lt_or_le n 65 with a | a
    · go_enter Tryd.func45, Tryd.ntmps45
      go_wp2
      go_ret
      first | exact ⟨rfl, rfl⟩ | exact ⟨by rw [hr]; rfl, rfl⟩
    · have b : 90 < n := by omega
      go_enter Tryd.func45, Tryd.ntmps45
      go_wp2
      go_ret
      first | exact ⟨rfl, rfl⟩ | exact ⟨by rw [hr]; rfl, rfl⟩

theorem same_any (a b : ByteArray) (w : World) (ha : a.size ≤ maxLen) : Calls Tryd.prog 33 #[.string a, .string b] w fun e w' => e = .returned (.bool (same a b)) ∧ Below w.heap.size w w' := by
  unfold maxLen at ha
  by_cases hl : a.size = b.size
  · have hq : ∀ x (w : World), 0 ≤ x → x ≤ 255 → Hid (Calls Tryd.prog 45 #[.int .u8 x] w fun e w' => e = .returned (.int .u8 (lowN x)) ∧ w' = w) := fun x w h0 h1 => Lib.hid (lowN_any x w h0 h1)
    go_enter Tryd.func33, Tryd.ntmps33
    go_wp2
    go_loopw [13] (fun i wr => ∃ k : Nat, k ≤ a.size ∧ i = .int .i64 k ∧ Hid (low (a.data.toList.take k) = low (b.data.toList.take k)) ∧ Hid (Below w.heap.size w wr)) (fun i _ => a.size - (intOf i).toNat)
    case atStart => exact ⟨0, Nat.zero_le _, rfl, Lib.hid rfl, Lib.hid (Below.refl _ _)⟩
    case round =>
      obtain ⟨k, hk, rfl, hsm, hbr⟩ := hrel
      rcases Nat.lt_or_ge k a.size with hlt | hge
      · have hltb : k < b.size := by omega
        have ta := Lib.hid (take_snoc a k hlt)
        have tb := Lib.hid (take_snoc b k hltb)
        have hca := fun w => hq (a[k].toNat : Int) w (by omega) (byte_lt _)
        have hcb := fun w => hq (b[k].toNat : Int) w (by omega) (byte_lt _)
        have la := lowB_toNat a[k]
        have lb := lowB_toNat b[k]
        have hna : k < a.data.toList.length := by rw [len]; exact hlt
        by_cases he : lowB a[k] = lowB b[k]
        · have hxy : lowN (a[k].toNat : Int) = lowN (b[k].toNat : Int) := by rw [← la, ← lb, he]
          have HE := Lib.hid he
          clear he
          have h1 := Lib.hid hca; have h2 := Lib.hid hcb
          clear hca hcb hq
          have i1 : (k : Int) < (a.size : Int) := by omega
          have i2 : (k : Int) < (b.size : Int) := by omega
          go_wp2_with fail
          go_quiet ((first | (go_at_call 45; with_reducible exact Calls.quiet_of_same (h1.out _).out) | (go_at_call 45; with_reducible exact Calls.quiet_of_same (h2.out _).out)))
          rename_i nq
          have hb' := Lib.hid (Base.below_drewN hbr.out nq)
          go_wp2
          go_roundw
          case rel =>
            refine ⟨k + 1, by omega, by go_num, Lib.hid ?_, hb'⟩
            rw [ta.out, tb.out, low, low, List.map_append, List.map_append]
            have e1 := hsm.out
            unfold low at e1
            rw [e1]
            simp [HE.out]
          case measure => simp [intOf]; omega
        · have hxy : ¬ lowN (a[k].toNat : Int) = lowN (b[k].toNat : Int) := fun e => he (by
            rw [← la, ← lb] at e
            exact UInt8.toNat_inj.1 (by omega))
          have hf : same a b = false := by
            refine Bool.eq_false_iff.2 fun hs => he ?_
            have e1 := congrArg (fun l => l[k]?) (beq_iff_eq.1 hs)
            have hnb : k < b.data.toList.length := by rw [len]; exact hltb
            simp only [low, List.getElem?_map, List.getElem?_eq_getElem hna, List.getElem?_eq_getElem hnb, Option.map_some, Option.some.injEq] at e1
            exact e1
          have HE := Lib.hid he
          clear he la lb
          have h1 := Lib.hid hca; have h2 := Lib.hid hcb
          clear hca hcb hq
          have i1 : (k : Int) < (a.size : Int) := by omega
          have i2 : (k : Int) < (b.size : Int) := by omega
          go_wp2_with fail
          go_quiet ((first | (go_at_call 45; with_reducible exact Calls.quiet_of_same (h1.out _).out) | (go_at_call 45; with_reducible exact Calls.quiet_of_same (h2.out _).out)))
          rename_i nq
          have hb' := Lib.hid (Base.below_drewN hbr.out nq)
          go_wp2
          go_ret
          exact ⟨by rw [hf]; rfl, hb'.out⟩
      · obtain rfl : k = a.size := by omega
        go_wp2
        go_ret
        refine ⟨?_, hbr.out⟩
        have e1 := hsm.out
        rw [take_all a _ (Nat.le_refl _), take_all b _ (by omega)] at e1
        have : same a b = true := beq_iff_eq.2 e1
        rw [this]; rfl
  · have hf : same a b = false := Bool.eq_false_iff.2 fun hs => hl (same_sizes hs)
    have hl' : ¬ (a.size : Int) = (b.size : Int) := by omega
    go_enter Tryd.func33, Tryd.ntmps33
    go_wp2
    go_ret
    exact ⟨by rw [hf]; rfl, Below.refl _ _⟩

theorem blank_is (x : UInt8) : Oct.blank (x.toNat : Int) = blank x := by
  rw [Bool.eq_iff_iff]
  simp only [Oct.blank, blank, Bool.or_eq_true, decide_eq_true_eq, beq_iff_eq]
  constructor
  · rintro (h | h)
    · exact Or.inl (UInt8.toNat_inj.1 (by show x.toNat = 32; omega))
    · exact Or.inr (UInt8.toNat_inj.1 (by show x.toNat = 9; omega))
  · rintro (rfl | rfl) <;> decide

set_option maxRecDepth 10000 in
theorem strip_any (g : Nat) (lb : Array Value) (eg : ∀ args w, (callFunc g args).run Tryd.prog w = .ok (.enter g args) w) (p : UInt8 → Bool) (s : ByteArray) (w : World) (hs : s.size ≤ maxLen)
    (hp : ∀ x : UInt8, Calls Tryd.prog g (#[.int .u8 x.toNat] ++ lb) w fun e w' => e = .returned (.bool (p x)) ∧ w' = w) :
    Calls Tryd.prog 43 #[.string s, .func (.func g) #[] lb] w fun e w' => e = .returned (.string (trimB p s)) ∧ w' = w := by
  unfold maxLen at hs
  have HP := Lib.hid hp
  clear hp
  go_enter Tryd.func43, Tryd.ntmps43
  go_wp2
  go_loop [5] (fun i => ∃ k : Nat, k ≤ s.size ∧ i = .int .i64 k ∧ Hid (∀ x ∈ s.data.toList.take k, p x = true)) (fun i => s.size - (intOf i).toNat)
  case atStart => exact ⟨0, Nat.zero_le _, rfl, Lib.hid (by simp)⟩
  case round =>
    obtain ⟨k, hk, rfl, hpre⟩ := hrel
    by_cases hgo : ∃ h : k < s.size, p s[k] = true
    · obtain ⟨hlt, hq⟩ := hgo
      have hcall := HP.out s[k]
      rw [hq] at hcall
      have HC := Lib.hid hcall
      have ta := Lib.hid (take_snoc s k hlt)
      have HQ := Lib.hid hq
      clear hcall hq
      have i1 : (k : Int) < (s.size : Int) := by omega
      go_wp2_with (go_at_fn g; with_reducible refine HC.out.mono ?_; rintro e w' ⟨rfl, rfl⟩)
      go_round
      case rel =>
        refine ⟨k + 1, by omega, by go_num, Lib.hid ?_⟩
        rw [ta.out]
        intro x hx
        rcases List.mem_append.1 hx with hx | hx
        · exact hpre.out x hx
        · obtain rfl : x = s[k] := by simpa using hx
          exact HQ.out
      case measure => simp [intOf]; omega
    · have hstop := Lib.hid (show k < s.size → ∃ h : k < s.size, p s[k] = false from fun h => ⟨h, by
        cases hq : p s[k] with
        | false => rfl
        | true => exact absurd ⟨h, hq⟩ hgo⟩)
      clear hgo
      rcases Nat.lt_or_ge k s.size with hlt | hge
      all_goals (first
        | (have i1 : (k : Int) < (s.size : Int) := by omega
           have hcall := HP.out s[k]
           obtain ⟨_, hq⟩ := hstop.out hlt
           rw [hq] at hcall
           have HC := Lib.hid hcall
           clear hcall hq
           (go_wp2_with (go_at_fn g; with_reducible refine HC.out.mono ?_; rintro e w' ⟨rfl, rfl⟩)))
        | (have i1 : ¬ (k : Int) < (s.size : Int) := by omega
           go_wp2
           clear i1))
      all_goals
        go_loop [6] (fun i => ∃ m : Nat, k ≤ m ∧ m ≤ s.size ∧ i = .int .i64 m ∧ Hid (∀ x ∈ s.data.toList.drop m, p x = true)) (fun i => (intOf i).toNat)
        case atStart => exact ⟨s.size, hk, Nat.le_refl _, rfl, Lib.hid (by
          intro x hx
          rw [List.drop_eq_nil_of_le (by rw [len]; exact Nat.le_refl _)] at hx
          cases hx)⟩
        case round =>
          obtain ⟨m, hkm, hm, rfl, hpost⟩ := hrel
          rcases Nat.lt_or_ge k m with hlm | hgm
          · first
            | (exfalso; omega)
            | (
              have i0 : (k : Int) < (m : Int) := by omega
              have i1 : ((m - 1 : Nat) : Int) = (m : Int) - 1 := by omega
              have i2 : m - 1 < s.size := by omega
              have i3 : (m : Int) - 1 < (s.size : Int) := by omega
              have i4 : 0 ≤ (m : Int) - 1 := by omega
              have i5 : IntKind.i64.wrap ((m : Int) - 1) = (m : Int) - 1 := wrap_in _ (by omega) (by omega)
              have i6 : ((m : Int) - 1).toNat = m - 1 := by omega
              cases hq : p s[m - 1] with
              | true =>
                have hcall := HP.out s[m - 1]
                rw [hq] at hcall
                have HC := Lib.hid hcall
                have HQ := Lib.hid hq
                clear hcall hq
                go_wp2_with (go_at_fn g; with_reducible refine HC.out.mono ?_; rintro e w' ⟨rfl, rfl⟩)
                go_round
                case rel =>
                  refine ⟨m - 1, by omega, by omega, by rw [i1], Lib.hid ?_⟩
                  intro x hx
                  rw [List.drop_eq_getElem_cons (by rw [len]; exact i2), show m - 1 + 1 = m by omega] at hx
                  rcases List.mem_cons.1 hx with rfl | hx
                  · exact HQ.out
                  · exact hpost.out x hx
                case measure => simp [intOf]; omega
              | false =>
                have hcall := HP.out s[m - 1]
                rw [hq] at hcall
                have HC := Lib.hid hcall
                have HQ := Lib.hid hq
                clear hcall hq
                have hcut := trim_cut p s k m hkm hm hpre.out hpost.out (fun h => ⟨hstop.out (by omega), i2, HQ.out⟩)
                go_wp2_with (go_at_fn g; with_reducible refine HC.out.mono ?_; rintro e w' ⟨rfl, rfl⟩)
                go_ret
                exact ⟨by rw [← hcut]; rfl, rfl⟩)
          · obtain rfl : k = m := by omega
            have hcut := trim_cut p s k k hkm hm hpre.out hpost.out (fun h => absurd h (by omega))
            have i1 : ¬ (k : Int) < (k : Int) := by omega
            have e0 : s.extract k k = ByteArray.empty := by apply ba_ext; rw [Lib.extract_data]; simp
            rw [e0] at hcut
            go_wp2
            go_ret
            exact ⟨by rw [← hcut]; rfl, rfl⟩

theorem trim_any (s : ByteArray) (w : World) (hs : s.size ≤ maxLen) : Calls Tryd.prog 32 #[.string s] w fun e w' => e = .returned (.string (trim s)) ∧ w' = w := by
  have eg : ∀ args w, (callFunc 44 args).run Tryd.prog w = .ok (.enter 44 args) w := enters_of Tryd.func44 (by kernel_rfl) rfl
  have h := Lib.hid (strip_any 44 #[] eg blank s w hs (fun x => (Oct.blank_any (x.toNat : Int) w).mono (by rintro e w' ⟨rfl, rfl⟩; exact ⟨by rw [blank_is], rfl⟩)))
  go_enter Tryd.func32, Tryd.ntmps32
  go_wp2_with (go_at_call 43; with_reducible refine h.out.mono ?_; rintro e w' ⟨rfl, rfl⟩)
  go_ret
  exact ⟨rfl, rfl⟩
end code
end Go.Proofs.YtonedklnjkjcgaaDoor.Txt

/-
  Layer 3 (text): what TrimOf answers, of every text and set up to a great size.
-/
namespace Go.Proofs.YtonedklnjkjcgaaDoor.Txt
open Go.RowKit Base Oct

/-- Without bytes of the set at both ends. -/
def isIn (set : ByteArray) (x : UInt8) : Bool := set.data.toList.contains x
def trimOf (s set : ByteArray) : ByteArray := trimB (isIn set) s
def marks (l : List UInt8) : List Value := (List.range 256).map fun j => Value.bool (l.any fun b => b.toNat == j)
theorem marks_length (l : List UInt8) : (marks l).length = 256 := by rw [marks, List.length_map, List.length_range]
theorem marks_none (l : List UInt8) (j : Nat) (h : ¬ j < 256) : (marks l)[j]? = none := List.getElem?_eq_none (by rw [marks_length]; omega)
theorem marks_some (l : List UInt8) (j : Nat) (h : j < 256) : (marks l)[j]? = some (.bool (l.any fun b => b.toNat == j)) := by
  unfold marks; rw [List.getElem?_map, List.getElem?_range h]; rfl
theorem marks_nil (n : Nat) (hn : n = 256) : (Array.replicate n (Value.bool false)).toList = marks [] := by
  rw [Array.toList_replicate]
  apply List.ext_getElem?
  intro j
  by_cases h : j < 256
  · rw [marks_some _ _ h, List.getElem?_replicate, if_pos (by omega)]; rfl
  · rw [marks_none _ _ h, List.getElem?_replicate, if_neg (by omega)]
theorem marks_at (l : List UInt8) (x : UInt8) : (marks l)[x.toNat]? = some (.bool (l.contains x)) := by
  rw [marks_some _ _ x.toNat_lt]
  simp only [Option.some.injEq, Value.bool.injEq]
  rw [Bool.eq_iff_iff, List.any_eq_true, List.contains_iff_exists_mem_beq]
  constructor
  · rintro ⟨b, hb, e⟩; exact ⟨b, hb, by rw [beq_iff_eq] at e ⊢; exact (UInt8.toNat_inj.1 e).symm⟩
  · rintro ⟨b, hb, e⟩; rw [beq_iff_eq] at e; subst e; exact ⟨x, hb, by simp⟩
theorem marks_set (l : List UInt8) (x : UInt8) : (marks l).set x.toNat (.bool true) = marks (l ++ [x]) := by
  apply List.ext_getElem?
  intro j
  rw [List.getElem?_set]
  have hx := x.toNat_lt
  by_cases h : x.toNat = j
  · subst h
    rw [if_pos rfl, if_pos (by rw [marks_length]; exact hx), marks_some _ _ hx]
    simp
  · rw [if_neg h]
    by_cases hj : j < 256
    · rw [marks_some _ _ hj, marks_some _ _ hj]
      have : (x.toNat == j) = false := by simpa using h
      simp [this]
    · rw [marks_none _ _ hj, marks_none _ _ hj]

theorem zero_marks (w : World) : (zeroValue 78).run Tryd.prog w = .ok (.agg (Array.replicate 256 (.bool false))) w := by kernel_rfl
section code
set_option maxHeartbeats 1000000
end code
end Go.Proofs.YtonedklnjkjcgaaDoor.Txt

/-
  Layer 3 (text): what List and Find answer, of every slice of texts and of fields up to a great size.
-/
namespace Go.Proofs.YtonedklnjkjcgaaDoor.Txt
open Go.RowKit Base Oct

/-- How long a list may be, at most, by its texts. -/
def room (vs : List ByteArray) : Nat := (vs.map fun v => v.size + 1).sum
theorem partsOf_le (v : ByteArray) : (partsOf v).length ≤ v.size + 1 := by
  unfold partsOf; rw [List.length_map]; have := parts_le 44 v.data.toList; rwa [len] at this
theorem list_le : ∀ vs : List ByteArray, (list vs).length ≤ room vs
  | [] => by simp [list, room]
  | v :: vs => by
    have h1 := partsOf_le v
    have h2 := list_le vs
    simp only [list, room, List.flatMap_cons, List.length_append, List.map_cons, List.sum_cons] at *
    omega
theorem room_mem : ∀ (vs : List ByteArray) (v : ByteArray), v ∈ vs → v.size + 1 ≤ room vs
  | u :: vs, v, h => by
    rw [room, List.map_cons, List.sum_cons]
    rcases List.mem_cons.1 h with rfl | h
    · omega
    · have := room_mem vs v h; rw [room] at this; omega
theorem len_room : ∀ vs : List ByteArray, vs.length ≤ room vs
  | [] => Nat.zero_le _
  | v :: vs => by have := len_room vs; rw [room] at *; rw [List.map_cons, List.sum_cons, List.length_cons]; omega
theorem partsOf_map (x : ByteArray) : partsOf x = ((parts 44 x.data.toList).map ba).map trim := by rw [partsOf, List.map_map]; rfl
theorem list_take_le (vs : List ByteArray) (k : Nat) : (list (vs.take k)).length ≤ (list vs).length := by
  conv => rhs; rw [← List.take_append_drop k vs]
  unfold list
  rw [List.flatMap_append, List.length_append]; omega
theorem list_snoc (vs : List ByteArray) (k : Nat) (h : k < vs.length) : list (vs.take (k + 1)) = list (vs.take k) ++ partsOf (vs[k]?.getD ByteArray.empty) := by
  rw [strs_snoc vs k h]; unfold list; simp

section code
set_option maxHeartbeats 1000000
set_option maxRecDepth 10000
end code
end Go.Proofs.YtonedklnjkjcgaaDoor.Txt

/-
  Layer 3 (text): whether two slices of fields, two of texts, are alike: package text's Fields, and the document's Fields and Strings.
-/
namespace Go.Proofs.YtonedklnjkjcgaaDoor.Txt
open Go.RowKit Base Oct

theorem ba_beq (a b : ByteArray) : (a.toList == b.toList) = decide (a = b) := by
  rw [Lib.toList_data, Lib.toList_data, Bool.eq_iff_iff, beq_iff_eq, decide_eq_true_eq]
  exact ⟨ba_ext, fun h => by rw [h]⟩
theorem toList_iff (a b : ByteArray) : a.toList = b.toList ↔ a = b := by
  rw [Lib.toList_data, Lib.toList_data]
  exact ⟨ba_ext, fun h => by rw [h]⟩
theorem take_eq_snoc {α : Type} (d : α) (xs ys : List α) (k : Nat) (hx : k < xs.length) (hy : k < ys.length) (h : xs.take k = ys.take k) (e : xs[k]?.getD d = ys[k]?.getD d) : xs.take (k + 1) = ys.take (k + 1) := by
  rw [List.take_succ_eq_append_getElem hx, List.take_succ_eq_append_getElem hy, h]
  rw [List.getElem?_eq_getElem hx, List.getElem?_eq_getElem hy] at e
  congr 2
theorem ne_of_at {α : Type} (d : α) (xs ys : List α) (k : Nat) (e : ¬ xs[k]?.getD d = ys[k]?.getD d) : xs ≠ ys := fun h => e (by rw [h])

section code
set_option maxHeartbeats 1000000
end code
end Go.Proofs.YtonedklnjkjcgaaDoor.Txt
