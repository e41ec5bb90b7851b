/-
  Layer 19 (percent): Dots and Norm: what they answer, of any segments, of every text up to a great size.
-/
import Derived.Test.YtojjhknejkhdhaaDoorPctB
namespace Go.Proofs.YtojjhknejkhdhaaDoor.Pct
open Go.RowKit Base Txt

def textsOf (A : List (List UInt8)) : List Value := (A.map ba).map Value.string
theorem textsOf_snoc (A : List (List UInt8)) (x : ByteArray) : textsOf (A ++ [x.data.toList]) = textsOf A ++ [.string x] := by
  simp [textsOf]; rfl
theorem textsOf_last (A : List (List UInt8)) : textsOf A.dropLast = (textsOf A).dropLast := by
  simp [textsOf, List.map_dropLast]
theorem last_at {ss : List ByteArray} {k : Nat} (h : ss.length = k + 1) : lastLeads (listL ss) = lead (ss[k]?.getD ByteArray.empty).data.toList := by
  unfold lastLeads listL
  rw [List.getLast?_map, List.getLast?_eq_getElem?, h]
  simp only [Nat.add_sub_cancel]
  rw [List.getElem?_eq_getElem (by omega)]
  rfl
theorem up_ne {x : ByteArray} (h : x ≠ ⟨#[46, 46]⟩) : ¬ x.toList = [46, 46] := by
  have t2 := Ls.toList_iff x ⟨#[46, 46]⟩
  rw [show (⟨#[46, 46]⟩ : ByteArray).toList = [46, 46] by decide +kernel] at t2
  exact fun e => h (t2.1 e)
theorem up_list {x : ByteArray} (h : x ≠ ⟨#[46, 46]⟩) : (x.data.toList == [46, 46]) = false := by
  rw [← eq_up, decide_eq_false h]

section code
set_option maxHeartbeats 4000000
set_option maxRecDepth 100000
attribute [local go_sem] Base.some_undef
theorem dots_any (a : Option Addr) (n cap : Nat) (ss : List ByteArray) (w : World) (hv : Strs w a n ss) (hn : n ≤ 1000000000) :
    Calls Tryd.prog 16 #[.slice a n cap] w fun e w' => ∃ b m c, e = .returned (.slice b m c) ∧ m = (dotsB ss).length ∧ Strs w' b m (dotsB ss) ∧ Below w.heap.size w w' := by
  have HV := Lib.hid hv
  have HL := Lib.hid hv.1
  clear hv
  obtain ⟨i0, hi, hz0, hz1, hz2⟩ := info_parts text_info
  have G1 := Lib.hid hi; have G2 := Lib.hid hz0; have G3 := Lib.hid hz1; have G4 := Lib.hid hz2
  clear hi hz0 hz1 hz2
  obtain ⟨D, hD⟩ : ∃ D, dotsB ss = D := ⟨_, rfl⟩
  rw [hD]
  have HD := Lib.hid hD
  clear hD
  go_enter Tryd.func16, Tryd.ntmps16
  go_wp2
  go_loopw [3, 8] (fun v i wr => ∃ k : Nat, k ≤ n ∧ i = .int .i64 k ∧ Hid (wr.ownsRow w.heap.size 9 1 v (trod (listL (ss.take k))).length (textsOf (trod (listL (ss.take k))))) ∧ Hid (Below w.heap.size w wr)) (fun _ i _ => n - (intOf i).toNat)
  case atStart => exact ⟨0, Nat.zero_le _, rfl, Lib.hid ⟨rfl, .inl ⟨rfl, rfl⟩⟩, Lib.hid (Below.refl _ _)⟩
  case round =>
    obtain ⟨k, hk, rfl, hown, hbr⟩ := hrel
    rcases Nat.lt_or_ge k n with hlt | hge
    · obtain ⟨bl, off, rfl, _, hc⟩ := (HV.out.below hbr.out).2 (by omega)
      have hck := hc k hlt
      have hkl : k < ss.length := by rw [HL.out]; exact hlt
      have hsn : trod (listL (ss.take (k + 1))) = step (trod (listL (ss.take k))) (ss[k]?.getD ByteArray.empty).data.toList := by rw [listL_take ss k hkl, trod_snoc]
      have htl : (trod (listL (ss.take k))).length ≤ k := by
        have := trod_len (listL (ss.take k)) []
        unfold listL at this ⊢
        rw [List.length_map, List.length_take] at this
        unfold trod; simp at this ⊢; omega
      clear hc hkl
      generalize ss[k]?.getD ByteArray.empty = x at *
      generalize trod (listL (ss.take k)) = A at *
      have HLd := Lib.hid (fun w => leads_any x w)
      obtain ⟨b, c, rfl, hS⟩ := Strs.of_own (n := A.length) (ss := A.map ba) hown.out
      clear hS
      cases hq : lead x.data.toList with
      | false =>
        rw [hq] at HLd
        rw [step, hq, if_neg (by decide)] at hsn
        have HSN := Lib.hid hsn
        clear hq hsn
        go_wp2_with (first
          | (go_at_call 31; with_reducible refine (HLd.out _).mono ?_; rintro e w1 ⟨rfl, hw⟩; rw [hw]; clear hw)
          | (at_builtin; (refine wpList_append_own _ rfl _ _ 23 rfl w.heap.size 9 i0 (.string ByteArray.empty) 1 16 Tryd.underlying23 G1.out G2.out G3.out G4.out rfl (by decide) _ _ _ rfl (hown.out.alloc _) ⟨wr.heap.size, 0, none⟩ 1 1 [.string x] rfl rfl ?c1 ?c2 ?c3 ?c4 ?c5 ?_)))
        case c1 => exact news_one wr _ _
        case c2 => intro u hu; obtain rfl : u = .string x := by simpa using hu
                   rfl
        case c3 => unfold maxLen; omega
        case c4 => omega
        case c5 => have := hbr.out.size; simp; omega
        intro v' w' hown' hgr _
        have H2 : Hid (w'.ownsRow w.heap.size 9 1 v' (trod (listL (ss.take (k + 1)))).length (textsOf (trod (listL (ss.take (k + 1)))))) := Lib.hid (by
          rw [HSN.out, textsOf_snoc, List.length_append]; exact hown')
        have H3 := Lib.hid ((hbr.out.alloc hbr.out.size _).grown hgr (by have := hbr.out.size; simp; omega) (own_base hown.out))
        clear hown' hgr hown hbr HSN
        go_wp2
        go_roundw
        case rel => exact ⟨k + 1, by omega, by go_num, H2, H3⟩
        case measure => simp [intOf]; omega
      | true =>
        rw [hq] at HLd
        rw [step, hq, if_pos rfl] at hsn
        by_cases hup : x = ⟨#[46, 46]⟩
        · subst hup
          rw [if_pos (by rfl)] at hsn
          have HSN := Lib.hid hsn
          clear hq hsn
          by_cases hA : A.length = 0
          · obtain rfl : A = [] := List.length_eq_zero_iff.1 hA
            have H2 : Hid (wr.ownsRow w.heap.size 9 1 (.slice b ([] : List (List UInt8)).length c) (trod (listL (ss.take (k + 1)))).length (textsOf (trod (listL (ss.take (k + 1)))))) := Lib.hid (by rw [HSN.out]; exact hown.out)
            clear hown HSN
            go_wp2_with (first
              | (go_at_call 31; with_reducible refine (HLd.out _).mono ?_; rintro e w1 ⟨rfl, hw⟩; rw [hw]; clear hw))
            go_roundw
            case rel => exact ⟨k + 1, by omega, by go_num, H2, hbr⟩
            case measure => simp [intOf]; omega
          · obtain ⟨_, hcap, ⟨g, rfl⟩, hless⟩ := own_less hown.out (by omega)
            rw [← textsOf_last] at hless
            have H2 : Hid (wr.ownsRow w.heap.size 9 1 (.slice (some ⟨g, 0, none⟩) (A.length - 1) c) (trod (listL (ss.take (k + 1)))).length (textsOf (trod (listL (ss.take (k + 1)))))) := Lib.hid (by rw [HSN.out, List.length_dropLast]; exact hless)
            clear hown HSN hless
            generalize A.length = m at *
            have m0 : (0 : Int) < (m : Int) := by omega
            have m1 : IntKind.i64.wrap ((m : Int) - 1) = ((m - 1 : Nat) : Int) := by rw [wrap_in _ (by omega) (by omega)]; omega
            have m2 : m - 1 ≤ c := by omega
            go_wp2_with (first
              | (go_at_call 31; with_reducible refine (HLd.out _).mono ?_; rintro e w1 ⟨rfl, hw⟩; rw [hw]; clear hw))
            go_roundw
            case rel => exact ⟨k + 1, by omega, by go_num, H2, hbr⟩
            case measure => simp [intOf]; omega
        · have n2 := up_ne hup
          rw [up_list hup, if_neg (by decide)] at hsn
          have H2 : Hid (wr.ownsRow w.heap.size 9 1 (.slice b A.length c) (trod (listL (ss.take (k + 1)))).length (textsOf (trod (listL (ss.take (k + 1)))))) := Lib.hid (by rw [hsn]; exact hown.out)
          clear hown hsn hq hup
          go_wp2_with (first
            | (go_at_call 31; with_reducible refine (HLd.out _).mono ?_; rintro e w1 ⟨rfl, hw⟩; rw [hw]; clear hw))
          go_roundw
          case rel => exact ⟨k + 1, by omega, by go_num, H2, hbr⟩
          case measure => simp [intOf]; omega
    · obtain rfl : k = n := by omega
      have hput : ss.take k = ss := List.take_of_length_le (by rw [HL.out]; exact Nat.le_refl _)
      rw [hput] at hown
      clear hput
      have hAl : (trod (listL ss)).length ≤ k := by
        have := trod_len (listL ss) []
        unfold listL at this ⊢
        rw [List.length_map, HL.out] at this
        unfold trod; simpa using this
      have hdots : (if trod (listL ss) = [] ∨ lastLeads (listL ss) = true then trod (listL ss) ++ [[]] else trod (listL ss)).map ba = D := HD.out
      clear HD
      generalize trod (listL ss) = A at *
      obtain ⟨b, c, rfl, hS⟩ := Strs.of_own (n := A.length) (ss := A.map ba) hown.out
      have HS := Lib.hid hS
      clear hS
      by_cases hA : A = []
      · rw [if_pos (.inl hA)] at hdots
        subst hdots
        have q0 : ((A.length : Nat) : Int) = 0 := by rw [hA]; rfl
        clear hA
        go_wp2_with (first
          | (at_builtin; (refine wpList_append_own _ rfl _ _ 23 rfl w.heap.size 9 i0 (.string ByteArray.empty) 1 16 Tryd.underlying23 G1.out G2.out G3.out G4.out rfl (by decide) _ _ _ rfl (hown.out.alloc _) ⟨wr.heap.size, 0, none⟩ 1 1 [.string ⟨#[]⟩] rfl rfl ?c1 ?c2 ?c3 ?c4 ?c5 ?_)))
        case c1 => exact news_one wr _ _
        case c2 => intro u hu; obtain rfl : u = .string ⟨#[]⟩ := by simpa using hu
                   rfl
        case c3 => unfold maxLen; omega
        case c4 => omega
        case c5 => have := hbr.out.size; simp; omega
        intro v' w' hown' hgr _
        have H3 := Lib.hid ((hbr.out.alloc hbr.out.size _).grown hgr (by have := hbr.out.size; simp; omega) (own_base hown.out))
        have e5 : textsOf A ++ [.string ⟨#[]⟩] = ((A ++ [[]]).map ba).map Value.string := by simp [textsOf]; rfl
        rw [e5] at hown'
        obtain ⟨b', c', rfl, hS'⟩ := Strs.of_own hown'
        have H4 := Lib.hid hS'
        clear hown' hgr hown hbr hS' e5
        go_wp2
        go_ret
        exact ⟨_, _, _, rfl, by simp, H4.out, H3.out⟩
      · have hAn : ¬ A.length = 0 := fun e => hA (List.length_eq_zero_iff.1 e)
        obtain ⟨m, rfl⟩ : ∃ m, k = m + 1 := ⟨k - 1, by omega⟩
        obtain ⟨bl, off, rfl, _, hc⟩ := (HV.out.below hbr.out).2 (by omega)
        have hck := hc m (by omega)
        have hll := last_at (k := m) HL.out
        clear hc
        generalize ss[m]?.getD ByteArray.empty = x at *
        have HLd := Lib.hid (fun w => leads_any x w)
        rw [hll] at hdots
        clear hll
        have q0 : ¬ ((A.length : Nat) : Int) = 0 := by omega
        have q1 : IntKind.i64.wrap (((m + 1 : Nat) : Int) - 1) = (m : Int) := by rw [wrap_in _ (by omega) (by omega)]; omega
        cases hq : lead x.data.toList with
        | true =>
          rw [hq] at HLd
          rw [hq, if_pos (.inr rfl)] at hdots
          subst hdots
          clear hq hA
          go_wp2_with (first
            | (go_at_call 31; with_reducible refine (HLd.out _).mono ?_; rintro e w1 ⟨rfl, hw⟩; rw [hw]; clear hw)
            | (at_builtin; (refine wpList_append_own _ rfl _ _ 23 rfl w.heap.size 9 i0 (.string ByteArray.empty) 1 16 Tryd.underlying23 G1.out G2.out G3.out G4.out rfl (by decide) _ _ _ rfl (hown.out.alloc _) ⟨wr.heap.size, 0, none⟩ 1 1 [.string ⟨#[]⟩] rfl rfl ?c1 ?c2 ?c3 ?c4 ?c5 ?_)))
          case c1 => exact news_one wr _ _
          case c2 => intro u hu; obtain rfl : u = .string ⟨#[]⟩ := by simpa using hu
                     rfl
          case c3 => unfold maxLen; omega
          case c4 => omega
          case c5 => have := hbr.out.size; simp; omega
          intro v' w' hown' hgr _
          have H3 := Lib.hid ((hbr.out.alloc hbr.out.size _).grown hgr (by have := hbr.out.size; simp; omega) (own_base hown.out))
          have e5 : textsOf A ++ [.string ⟨#[]⟩] = ((A ++ [[]]).map ba).map Value.string := by simp [textsOf]; rfl
          rw [e5] at hown'
          obtain ⟨b', c', rfl, hS'⟩ := Strs.of_own hown'
          have H4 := Lib.hid hS'
          clear hown' hgr hown hbr hS' e5
          go_wp2
          go_ret
          exact ⟨_, _, _, rfl, by simp, H4.out, H3.out⟩
        | false =>
          rw [hq] at HLd
          rw [hq, if_neg (by rw [not_or]; exact ⟨hA, by decide⟩)] at hdots
          subst hdots
          clear hq hA
          go_wp2_with (first
            | (go_at_call 31; with_reducible refine (HLd.out _).mono ?_; rintro e w1 ⟨rfl, hw⟩; rw [hw]; clear hw))
          go_ret
          exact ⟨_, _, _, rfl, by simp, HS.out, hbr.out⟩
end code
end Go.Proofs.YtojjhknejkhdhaaDoor.Pct
