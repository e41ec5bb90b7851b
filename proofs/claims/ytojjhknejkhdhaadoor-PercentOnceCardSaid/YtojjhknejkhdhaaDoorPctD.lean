/-
  Layer 19 (percent): the document's own Segments, Dots, Join, Decode, Norm: the same plain words as package percent's.
-/
import Derived.Test.YtojjhknejkhdhaaDoorPctN
import Derived.Test.YtojjhknejkhdhaaDoorTextRef
import Derived.Laws.OwnMore
namespace Go.Proofs.YtojjhknejkhdhaaDoor.Pct
open Go.RowKit Base Txt

theorem oper_append {P : Program} {o : Oper} {a : Act} {w w' : World} {K : Act → World → Prop} {Q : Exit → Act → World → Prop} {v u v' : Value} (s z : Operand) (t : TypeId) (ho : o.op = .call { callee := .builtin .append, args := #[s, z], argTypes := #[t, t] }) (hs : a.eval s = v) (hx : a.eval z = u)
    (hr : (Builtin.append_ #[t, t] o.type #[v, u]).run P w = .ok v' w') (h : K (a.put o.dst v') w') : o.wp P a w K Q := by
  unfold Oper.wp
  have e : (execOp a.eval o).run P w = .ok (.value v') w' := by
    unfold execOp
    simp only [ho, resolve, invoke, builtin, Sem.run_bind, Sem.run_pure, Result.andThen_ok, List.map_toArray, List.map_cons, List.map_nil, hs, hx, hr]
  rw [e, Oper.upon_value]
  exact h
theorem strs_here {w : World} {a : Option Addr} {n : Nat} {ss : List ByteArray} (h : Strs w a n ss) : 0 < n → ∃ b off, a = some ⟨b, off, none⟩ ∧ ∀ j u, (ss.map Value.string)[j]? = some u → w.cell? ⟨b, off + j, none⟩ = some u := by
  intro hn
  obtain ⟨b, off, e, _, hc⟩ := h.2 hn
  refine ⟨b, off, e, fun j u hj => ?_⟩
  have hl : j < ss.length := by
    rcases Nat.lt_or_ge j ss.length with h | h
    · exact h
    · rw [List.getElem?_eq_none (by simpa using h)] at hj; cases hj
  rw [hc j (by rw [← h.1]; exact hl)]
  rw [List.getElem?_map, List.getElem?_eq_getElem hl] at hj
  rw [List.getElem?_eq_getElem hl]
  exact hj
theorem texts_one (ss : List ByteArray) : ∀ u ∈ ss.map Value.string, u.oneCell' = true := by
  intro u hu; obtain ⟨s, _, rfl⟩ := List.mem_map.1 hu; rfl
theorem ba_of (x : ByteArray) : ba x.data.toList = x := rfl
/-- What the document's Dots holds behind k segments of n. -/
def held (n : Nat) (ss : List ByteArray) (k : Nat) : List (List UInt8) := if k = n ∧ 0 < n ∧ lastLeads (listL ss) = true then trod (listL ss) ++ [[]] else trod (listL (ss.take k))
theorem held_before {n k : Nat} {ss : List ByteArray} (h : k < n) : held n ss k = trod (listL (ss.take k)) := by
  unfold held; rw [if_neg (by omega)]
theorem held_next {k : Nat} {ss : List ByteArray} (h : k < ss.length) : held ss.length ss (k + 1) =
    (if k + 1 = ss.length ∧ lead (ss[k]?.getD ByteArray.empty).data.toList = true then step (trod (listL (ss.take k))) (ss[k]?.getD ByteArray.empty).data.toList ++ [[]]
     else step (trod (listL (ss.take k))) (ss[k]?.getD ByteArray.empty).data.toList) := by
  have hs : trod (listL (ss.take (k + 1))) = step (trod (listL (ss.take k))) (ss[k]?.getD ByteArray.empty).data.toList := by rw [listL_take ss k h, trod_snoc]
  unfold held
  by_cases hk : k + 1 = ss.length
  · rw [last_at (k := k) hk.symm]
    have hput : ss.take (k + 1) = ss := List.take_of_length_le (by omega)
    rw [hput] at hs ⊢
    rw [hs]
    simp only [hk, true_and, show 0 < ss.length by omega]
  · simp only [hk, false_and, if_false]
    exact hs
theorem held_last {ss : List ByteArray} : (if held ss.length ss ss.length = [] then [[]] else held ss.length ss ss.length) = dots (listL ss) := by
  unfold held dots
  simp only [true_and, List.take_length]
  by_cases hn : 0 < ss.length
  · by_cases hl : lastLeads (listL ss) = true
    · simp [hn, hl]
    · by_cases ht : trod (listL ss) = []
      · simp [hl, ht]
      · simp [hl, ht]
  · obtain rfl : ss = [] := List.length_eq_zero_iff.1 (by omega)
    simp [listL, trod]
theorem dot_ne {x : ByteArray} (h : x ≠ ⟨#[46]⟩) : ¬ x.toList = [46] := by
  have t2 := Ls.toList_iff x ⟨#[46]⟩
  rw [show (⟨#[46]⟩ : ByteArray).toList = [46] by decide +kernel] at t2
  exact fun e => h (t2.1 e)
theorem lead_cases (x : ByteArray) : (lead x.data.toList = true ∧ (x = ⟨#[46, 46]⟩ ∨ x = ⟨#[46]⟩)) ∨ (lead x.data.toList = false ∧ x ≠ ⟨#[46, 46]⟩ ∧ x ≠ ⟨#[46]⟩) := by
  by_cases h1 : x = ⟨#[46, 46]⟩
  · subst h1; exact .inl ⟨by decide +kernel, .inl rfl⟩
  · by_cases h2 : x = ⟨#[46]⟩
    · subst h2; exact .inl ⟨by decide +kernel, .inr rfl⟩
    · right
      refine ⟨?_, h1, h2⟩
      unfold lead
      rw [Bool.or_eq_false_iff]
      refine ⟨?_, up_list h1⟩
      rw [beq_eq_false_iff_ne]
      intro e
      exact h2 (Txt.ba_ext e)

section code
set_option maxHeartbeats 4000000
set_option maxRecDepth 100000
attribute [local go_sem] Base.some_undef
theorem rsegments_any (s : ByteArray) (w : World) (hs : s.size ≤ 1000000000) :
    Calls Tryd.prog 15 #[.string s] w fun e w' => ∃ a n c, e = .returned (.slice a n c) ∧ n = (segsB s).length ∧ Strs w' a n (segsB s) ∧ Below w.heap.size w w' := by
  by_cases hr : ∃ r, s.data.toList = 47 :: r
  · obtain ⟨r, hr⟩ := hr
    have hz : s.size = r.length + 1 := by rw [← len, hr]; rfl
    have e0 : ∀ hh, s[0]'hh = 47 := fun hh => by
      have : s.data.toList[0]? = some 47 := by rw [hr]; rfl
      rw [List.getElem?_eq_getElem (by rw [hr]; simp)] at this
      exact Option.some.inj this
    have l0 : 0 < s.size := by omega
    have n0 : ¬ s.toList = [] := by
      intro e
      have := (Ls.toList_iff s ⟨#[]⟩).1 (by rw [e]; decide +kernel)
      subst this; exact absurd l0 (by decide)
    have hx : (s.extract 1 s.size).data.toList = r := by
      rw [Lib.extract_data, hr]; exact List.take_of_length_le (by show r.length ≤ s.size - 1; omega)
    have hS0 := rsplit_any (s.extract 1 s.size) 47
    rw [hx] at hS0
    have HS : Hid (∀ w : World, Calls Tryd.prog 30 #[.string (s.extract 1 s.size), .int .u8 47] w fun e w' => ∃ b m cp, e = .returned (.slice b m cp) ∧ m = (parts 47 r).length ∧ Strs w' b m ((parts 47 r).map ba) ∧ Below w.heap.size w w') :=
      Lib.hid (fun w => hS0 w (by rw [← len, hx]; omega))
    have e3 : segsB s = (parts 47 r).map ba := by unfold segsB; rw [hr, segs_cons]
    rw [e3]
    have c1 : (1 : Int) ≤ (s.size : Int) := by omega
    have n1 : s.toList.isEmpty = false := by cases h : s.toList with | nil => exact absurd h n0 | cons _ _ => rfl
    clear e3 hr hx hS0 hz
    generalize parts 47 r = P at *
    go_enter Tryd.func15, Tryd.ntmps15
    go_wp2_with (first
      | (go_at_call 30; with_reducible refine (HS.out _).mono ?_; rintro e w1 ⟨b, m, c, rfl, hm, hS, hb⟩))
    go_ret
    exact ⟨_, _, _, rfl, (List.length_map _).symm, hm ▸ hS, hb⟩
  · have e3 : segsB s = [] := by unfold segsB; rw [segs_none hr]; rfl
    rw [e3]
    clear e3
    by_cases h0 : s = ⟨#[]⟩
    · subst h0
      go_enter Tryd.func15, Tryd.ntmps15
      go_wp2
      go_ret
      first
        | exact ⟨none, 0, ⟨0, rfl⟩, rfl, Strs.nil _ _, Below.refl _ _⟩
        | exact ⟨none, 0, ⟨0, rfl⟩, rfl, Strs.nil _ _, Below.refl _ _⟩
    · have n0 : ¬ s.toList = [] := fun e => h0 ((Ls.toList_iff s ⟨#[]⟩).1 (by rw [e]; decide +kernel))
      have l0 : 0 < s.size := by
        rcases Nat.eq_zero_or_pos s.size with h | h
        · exfalso; apply h0; apply Txt.ba_ext; rw [List.length_eq_zero_iff.1 ((len s).trans h)]
        · exact h
      obtain ⟨c, hc⟩ : ∃ c, s[0] = c := ⟨_, rfl⟩
      have e0 : ∀ hh, s[0]'hh = c := fun _ => hc
      have hne : ¬ (c.toNat : Int) = 47 := by
        intro e
        refine hr ⟨s.data.toList.drop 1, ?_⟩
        have : s.data.toList = s.data.toList[0]'(by rw [len]; exact l0) :: s.data.toList.drop 1 := by
          conv => lhs; rw [← List.drop_zero (l := s.data.toList), List.drop_eq_getElem_cons (by rw [len]; exact l0)]
        rw [this]
        congr 1
        have : s.data.toList[0]'(by rw [len]; exact l0) = c := hc
        rw [this]
        exact UInt8.toNat_inj.1 (by show c.toNat = 47; omega)
      have n1 : s.toList.isEmpty = false := by cases h : s.toList with | nil => exact absurd h n0 | cons _ _ => rfl
      clear hr h0 hc
      go_enter Tryd.func15, Tryd.ntmps15
      go_wp2
      go_ret
      exact ⟨_, _, _, rfl, rfl, Strs.nil _ _, Below.refl _ _⟩
theorem rjoin_any (a : Option Addr) (n cap : Nat) (ss : List ByteArray) (w : World) (hv : Strs w a n ss) (hn : n ≤ 1000000000) (hz : (join (listL ss)).length ≤ 100000000000) :
    Calls Tryd.prog 26 #[.slice a n cap] w fun e w' => e = .returned (.string (joinB ss)) ∧ Below w.heap.size w w' := by
  have HV := Lib.hid hv
  have HL := Lib.hid hv.1
  have HZ := Lib.hid hz
  clear hv hz
  obtain ⟨R, hR⟩ : ∃ R, joinB ss = R := ⟨_, rfl⟩
  rw [hR]
  have HR := Lib.hid hR
  clear hR
  go_enter Tryd.func26, Tryd.ntmps26
  go_wp2
  go_loopw [3, 4] (fun t i wr => ∃ (k : Nat) (T : ByteArray), k ≤ n ∧ i = .int .i64 k ∧ t = .string T ∧ Hid (T.data.toList = join (listL (ss.take k))) ∧ Hid (Below w.heap.size w wr)) (fun _ i _ => n - (intOf i).toNat)
  case atStart => exact ⟨0, ⟨#[]⟩, Nat.zero_le _, rfl, rfl, Lib.hid rfl, Lib.hid (Below.refl _ _)⟩
  case round =>
    obtain ⟨k, T, hk, rfl, rfl, hT, hbr⟩ := hrel
    rcases Nat.lt_or_ge k n with hlt | hge
    · obtain ⟨bl, off, rfl, hbl, hc⟩ := (HV.out.below hbr.out).2 (by omega)
      have hc0 := hc k hlt
      have hkl : k < ss.length := by rw [HL.out]; exact hlt
      have hsn : join (listL (ss.take (k + 1))) = join (listL (ss.take k)) ++ ([47] ++ (ss[k]?.getD ByteArray.empty).data.toList) := by rw [listL_take ss k hkl, join_snoc]
      have hle := join_take ss (k + 1)
      rw [hsn, ← hT.out] at hle
      simp only [List.length_append, List.length_cons, List.length_nil] at hle
      rw [len, len] at hle
      have hz := HZ.out
      clear hc hkl
      generalize ss[k]?.getD ByteArray.empty = f at *
      have v1 : ¬ 9223372036854775807 < T.size + 1 := by omega
      have v2 : ¬ 9223372036854775807 < T.size + 1 + f.size := by omega
      have H2 : Hid (((T ++ ⟨#[47]⟩) ++ f).data.toList = join (listL (ss.take (k + 1)))) := Lib.hid (by rw [hsn, ← hT.out]; simp [ByteArray.data_append])
      clear hle hz hsn hT
      go_wp2
      go_roundw
      case rel => exact ⟨k + 1, _, by omega, by go_num, rfl, H2, hbr⟩
      case measure => simp [intOf]; omega
    · obtain rfl : k = n := by omega
      have hput : ss.take k = ss := List.take_of_length_le (by rw [HL.out]; exact Nat.le_refl _)
      rw [hput] at hT
      have HT := Lib.hid (show T = R by rw [← HR.out]; exact Txt.ba_ext hT.out)
      clear hT hput
      go_wp2
      go_ret
      exact ⟨by rw [← HT.out]; rfl, hbr.out⟩
theorem rdots_any (a : Option Addr) (n cap : Nat) (ss : List ByteArray) (w : World) (hv : Strs w a n ss) (hn : n ≤ 1000000000) :
    Calls Tryd.prog 17 #[.slice a n cap] w fun e w' => ∃ b m c, e = .returned (.slice b m c) ∧ m = (dotsB ss).length ∧ Strs w' b m (dotsB ss) ∧ Below w.heap.size w w' := by
  obtain rfl := hv.1
  have HV := Lib.hid hv
  clear hv
  obtain ⟨i0, hi, hz0, hz1, hz2⟩ := info_parts text_info
  have G1 := Lib.hid hi; have G2 := Lib.hid hz0; have G3 := Lib.hid hz1; have G4 := Lib.hid hz2
  clear hi hz0 hz1 hz2
  obtain ⟨D, hD⟩ : ∃ D, dotsB ss = D := ⟨_, rfl⟩
  rw [hD]
  have HD := Lib.hid hD
  clear hD
  have HNX := Lib.hid (fun k h => held_next (ss := ss) (k := k) h)
  have HBF := Lib.hid (fun k h => held_before (n := ss.length) (ss := ss) (k := k) h)
  have HTL : Hid (∀ k, k ≤ ss.length → (trod (listL (ss.take k))).length ≤ k) := Lib.hid (fun k hk => by
    have := trod_len (listL (ss.take k)) []
    unfold listL at this ⊢
    rw [List.length_map, List.length_take] at this
    unfold trod; simp at this ⊢; omega)
  obtain ⟨n, hnn⟩ : ∃ n, ss.length = n := ⟨_, rfl⟩
  have HH0 := Lib.hid (held_last (ss := ss))
  rw [hnn] at HNX HBF HTL HV hn HH0
  rw [hnn]
  have HL := Lib.hid hnn
  clear hnn
  go_enter Tryd.func17, Tryd.ntmps17
  go_wp2
  go_loopw [3, 4] (fun v i wr => ∃ k : Nat, k ≤ n ∧ i = .int .i64 k ∧ Hid (wr.ownsRow w.heap.size 9 1 v (held n ss k).length (textsOf (held n ss k))) ∧ Hid (Below w.heap.size w wr)) (fun _ i _ => n - (intOf i).toNat)
  case atStart =>
    refine ⟨0, Nat.zero_le _, rfl, Lib.hid ?_, Lib.hid (Below.refl _ _)⟩
    have e : held n ss 0 = [] := by unfold held; rw [if_neg (by omega)]; rfl
    rw [e]; exact ⟨rfl, .inl ⟨rfl, rfl⟩⟩
  case round =>
    obtain ⟨k, hk, rfl, hown, hbr⟩ := hrel
    rcases Nat.lt_or_ge k n with hlt | hge
    · obtain ⟨bl, off, rfl, hbl, hc⟩ := HV.out.2 (by omega)
      have hck0 := hc k hlt
      have hck := (hbr.out.cell (p := ⟨bl, off + k, none⟩) hbl).trans hck0
      have hnx := HNX.out k hlt
      rw [HBF.out k hlt] at hown
      have htl := HTL.out k hk
      clear hc
      generalize ss[k]?.getD ByteArray.empty = x at *
      generalize trod (listL (ss.take k)) = A at *
      obtain ⟨b, c, rfl, hS⟩ := Strs.of_own (n := A.length) (ss := A.map ba) hown.out
      have HS := Lib.hid hS
      clear hS
      rcases lead_cases x with ⟨hq, hx⟩ | ⟨hq, hx1, hx2⟩
      · rw [hq] at hnx
        simp only [and_true] at hnx
        obtain ⟨n1, hn1⟩ : ∃ n1 : Nat, n1 = n - 1 := ⟨_, rfl⟩
        have q2 : IntKind.i64.wrap ((n : Int) - 1) = (n1 : Int) := by rw [wrap_in _ (by omega) (by omega)]; omega
        rcases hx with rfl | rfl
        · have hst : step A (⟨#[46, 46]⟩ : ByteArray).data.toList = A.dropLast := by rw [step, if_pos (by decide +kernel), if_pos (by decide +kernel)]
          rw [hst] at hnx
          by_cases hA : A.length = 0
          · have q0 : ¬ (0 : Int) < ((A.length : Nat) : Int) := by omega
            have hB : A.dropLast = A := by rw [List.length_eq_zero_iff.1 hA]; rfl
            rw [hB] at hnx
            obtain ⟨B, hBe⟩ : ∃ B, A = B := ⟨_, rfl⟩
            rw [hBe] at hnx
            have HBL : Hid (A.length = B.length) := Lib.hid (by rw [hBe])
            have hown2 : wr.ownsRow w.heap.size 9 1 (.slice b A.length c) A.length (textsOf B) := by rw [← hBe]; exact hown.out
            clear hst hq hA hB hBe
            have HO : Hid (wr.ownsRow w.heap.size 9 1 (.slice b (A.length) c) (A.length) (textsOf B)) := Lib.hid (hown2)
            have HSx : Hid (Strs wr b (A.length) (B.map ba)) := Lib.hid (by
              obtain ⟨b9, c9, e9, h9⟩ := Strs.of_own (ss := B.map ba) HO.out
              cases e9; exact h9)
            have HM : Hid ((textsOf B).length = (A.length) * 1) := Lib.hid (by rw [textsOf, List.length_map, List.length_map, Nat.mul_one]; exact HBL.out.symm)
            clear hown2
            by_cases hlast : k + 1 = n
            · rw [if_pos hlast] at hnx
              have HNN := Lib.hid hnx
              obtain rfl : k = n1 := by omega
              have HLA := Lib.hid hlast
              clear hn1 hlast
              clear hnx HNX HBF HTL HS hown HH0
              go_wp2_with (first
                | (at_builtin; refine App.wpList_append_list _ rfl _ _ 23 rfl w.heap.size 9 i0 (.string ByteArray.empty) 1 16 Tryd.underlying23 G1.out G2.out G3.out G4.out rfl (by decide) _ A.length (textsOf B) rfl (HO1.out.alloc (.cells #[.string ⟨#[]⟩] 9)) (some ⟨w1.heap.size, 0, none⟩) 1 1 [.string ⟨#[]⟩] rfl rfl (strs_here (Strs.one w1 w1.heap.size rfl 9 ⟨#[]⟩)) (texts_one [⟨#[]⟩]) (by unfold maxLen; omega) (by omega) (by have := HB1.out.size; have := hbr.out.size; simp; omega) ?_
                   intro v2 w2 ho2 hg2 _ _
                   have HB2 := Lib.hid ((HB1.out.alloc HB1.out.size (.cells #[.string ⟨#[]⟩] 9)).grown hg2 (by have := HB1.out.size; simp; omega) (fun k hk => (HO1.out.lt k hk).1))
                   have HO2 := Lib.hid ho2
                   clear ho2 hg2)
                | (at_builtin; refine App.wpList_append_list _ rfl _ _ 23 rfl w.heap.size 9 i0 (.string ByteArray.empty) 1 16 Tryd.underlying23 G1.out G2.out G3.out G4.out rfl (by decide) _ 0 [] rfl (World.ownsRow_nil _ _ _ _) b A.length c (textsOf B) rfl HM.out (strs_here HSx.out) (texts_one _) (by unfold maxLen; omega) (by omega) hbr.out.size ?_
                   intro v1 w1 ho1 hg1 _ _
                   have HB1 := Lib.hid (hbr.out.grown hg1 hbr.out.size (by intro k hk; cases hk))
                   rw [Nat.zero_add, List.nil_append] at ho1
                   have HO1 := Lib.hid ho1
                   clear ho1 hg1))
              have H2 : Hid (w2.ownsRow w.heap.size 9 1 v2 (held n ss (k + 1)).length (textsOf (held n ss (k + 1)))) := Lib.hid (by
                rw [HNN.out, List.length_append, ← HBL.out]
                have e5 : textsOf (B ++ [[]]) = textsOf B ++ [.string ⟨#[]⟩] := by simp [textsOf]; rfl
                rw [e5]; exact HO2.out)
              clear HO2 HNN
              go_roundw
              case rel => exact ⟨k + 1, by omega, by go_num, H2, HB2⟩
              case measure => simp [intOf]; omega
            · rw [if_neg hlast] at hnx
              have q3 : ¬ k = n1 := by omega
              have q3' : ¬ (k : Int) = (n1 : Int) := by omega
              clear hn1
              have H2 : Hid (wr.ownsRow w.heap.size 9 1 (.slice b (A.length) c) (held n ss (k + 1)).length (textsOf (held n ss (k + 1)))) := Lib.hid (by rw [hnx, ← HBL.out]; exact HO.out)
              clear hown hnx HNX HBF HTL HS HO HSx HM HH0
              go_wp2
              go_roundw
              case rel => exact ⟨k + 1, by omega, by go_num, H2, hbr⟩
              case measure => simp [intOf]; omega
          · obtain ⟨_, hcap, ⟨g, rfl⟩, hless⟩ := own_less hown.out (by omega)
            rw [← textsOf_last] at hless
            obtain ⟨B, hBe⟩ : ∃ B, A.dropLast = B := ⟨_, rfl⟩
            rw [hBe] at hnx hless
            have HBL : Hid (A.length - 1 = B.length) := Lib.hid (by rw [← hBe, List.length_dropLast])
            clear hst hq hBe hown HS
            generalize A.length = m at *
            have q0 : (0 : Int) < (m : Int) := by omega
            have q4 : IntKind.i64.wrap ((m : Int) - 1) = ((m - 1 : Nat) : Int) := by rw [wrap_in _ (by omega) (by omega)]; omega
            have q5 : m - 1 ≤ c := by omega
            have HO : Hid (wr.ownsRow w.heap.size 9 1 (.slice (some ⟨g, 0, none⟩) (m - 1) c) (m - 1) (textsOf B)) := Lib.hid (hless)
            have HSx : Hid (Strs wr (some ⟨g, 0, none⟩) (m - 1) (B.map ba)) := Lib.hid (by
              obtain ⟨b9, c9, e9, h9⟩ := Strs.of_own (ss := B.map ba) HO.out
              cases e9; exact h9)
            have HM : Hid ((textsOf B).length = (m - 1) * 1) := Lib.hid (by rw [textsOf, List.length_map, List.length_map, Nat.mul_one]; exact HBL.out.symm)
            clear hless
            by_cases hlast : k + 1 = n
            · rw [if_pos hlast] at hnx
              have HNN := Lib.hid hnx
              obtain rfl : k = n1 := by omega
              have HLA := Lib.hid hlast
              clear hn1 hlast
              clear hnx HNX HBF HTL HH0
              go_wp2_with (first
                | (at_builtin; refine App.wpList_append_list _ rfl _ _ 23 rfl w.heap.size 9 i0 (.string ByteArray.empty) 1 16 Tryd.underlying23 G1.out G2.out G3.out G4.out rfl (by decide) _ (m - 1) (textsOf B) rfl (HO1.out.alloc (.cells #[.string ⟨#[]⟩] 9)) (some ⟨w1.heap.size, 0, none⟩) 1 1 [.string ⟨#[]⟩] rfl rfl (strs_here (Strs.one w1 w1.heap.size rfl 9 ⟨#[]⟩)) (texts_one [⟨#[]⟩]) (by unfold maxLen; omega) (by omega) (by have := HB1.out.size; have := hbr.out.size; simp; omega) ?_
                   intro v2 w2 ho2 hg2 _ _
                   have HB2 := Lib.hid ((HB1.out.alloc HB1.out.size (.cells #[.string ⟨#[]⟩] 9)).grown hg2 (by have := HB1.out.size; simp; omega) (fun k hk => (HO1.out.lt k hk).1))
                   have HO2 := Lib.hid ho2
                   clear ho2 hg2)
                | (at_builtin; refine App.wpList_append_list _ rfl _ _ 23 rfl w.heap.size 9 i0 (.string ByteArray.empty) 1 16 Tryd.underlying23 G1.out G2.out G3.out G4.out rfl (by decide) _ 0 [] rfl (World.ownsRow_nil _ _ _ _) (some ⟨g, 0, none⟩) (m - 1) c (textsOf B) rfl HM.out (strs_here HSx.out) (texts_one _) (by unfold maxLen; omega) (by omega) hbr.out.size ?_
                   intro v1 w1 ho1 hg1 _ _
                   have HB1 := Lib.hid (hbr.out.grown hg1 hbr.out.size (by intro k hk; cases hk))
                   rw [Nat.zero_add, List.nil_append] at ho1
                   have HO1 := Lib.hid ho1
                   clear ho1 hg1))
              have H2 : Hid (w2.ownsRow w.heap.size 9 1 v2 (held n ss (k + 1)).length (textsOf (held n ss (k + 1)))) := Lib.hid (by
                rw [HNN.out, List.length_append, ← HBL.out]
                have e5 : textsOf (B ++ [[]]) = textsOf B ++ [.string ⟨#[]⟩] := by simp [textsOf]; rfl
                rw [e5]; exact HO2.out)
              clear HO2 HNN
              go_roundw
              case rel => exact ⟨k + 1, by omega, by go_num, H2, HB2⟩
              case measure => simp [intOf]; omega
            · rw [if_neg hlast] at hnx
              have q3 : ¬ k = n1 := by omega
              have q3' : ¬ (k : Int) = (n1 : Int) := by omega
              clear hn1
              have H2 : Hid (wr.ownsRow w.heap.size 9 1 (.slice (some ⟨g, 0, none⟩) ((m - 1)) c) (held n ss (k + 1)).length (textsOf (held n ss (k + 1)))) := Lib.hid (by rw [hnx, ← HBL.out]; exact HO.out)
              clear hnx HNX HBF HTL HO HSx HM HH0
              go_wp2
              go_roundw
              case rel => exact ⟨k + 1, by omega, by go_num, H2, hbr⟩
              case measure => simp [intOf]; omega
        · have hst : step A (⟨#[46]⟩ : ByteArray).data.toList = A := by rw [step, if_pos (by decide +kernel), if_neg (by decide +kernel)]
          rw [hst] at hnx
          obtain ⟨B, hBe⟩ : ∃ B, A = B := ⟨_, rfl⟩
          rw [hBe] at hnx
          have HBL : Hid (A.length = B.length) := Lib.hid (by rw [hBe])
          have hown2 : wr.ownsRow w.heap.size 9 1 (.slice b A.length c) A.length (textsOf B) := by rw [← hBe]; exact hown.out
          clear hst hq hBe
          have HO : Hid (wr.ownsRow w.heap.size 9 1 (.slice b (A.length) c) (A.length) (textsOf B)) := Lib.hid (hown2)
          have HSx : Hid (Strs wr b (A.length) (B.map ba)) := Lib.hid (by
            obtain ⟨b9, c9, e9, h9⟩ := Strs.of_own (ss := B.map ba) HO.out
            cases e9; exact h9)
          have HM : Hid ((textsOf B).length = (A.length) * 1) := Lib.hid (by rw [textsOf, List.length_map, List.length_map, Nat.mul_one]; exact HBL.out.symm)
          clear hown2
          by_cases hlast : k + 1 = n
          · rw [if_pos hlast] at hnx
            have HNN := Lib.hid hnx
            obtain rfl : k = n1 := by omega
            have HLA := Lib.hid hlast
            clear hn1 hlast
            clear hnx HNX HBF HTL HS hown HH0
            go_wp2_with (first
              | (at_builtin; refine App.wpList_append_list _ rfl _ _ 23 rfl w.heap.size 9 i0 (.string ByteArray.empty) 1 16 Tryd.underlying23 G1.out G2.out G3.out G4.out rfl (by decide) _ A.length (textsOf B) rfl (HO1.out.alloc (.cells #[.string ⟨#[]⟩] 9)) (some ⟨w1.heap.size, 0, none⟩) 1 1 [.string ⟨#[]⟩] rfl rfl (strs_here (Strs.one w1 w1.heap.size rfl 9 ⟨#[]⟩)) (texts_one [⟨#[]⟩]) (by unfold maxLen; omega) (by omega) (by have := HB1.out.size; have := hbr.out.size; simp; omega) ?_
                 intro v2 w2 ho2 hg2 _ _
                 have HB2 := Lib.hid ((HB1.out.alloc HB1.out.size (.cells #[.string ⟨#[]⟩] 9)).grown hg2 (by have := HB1.out.size; simp; omega) (fun k hk => (HO1.out.lt k hk).1))
                 have HO2 := Lib.hid ho2
                 clear ho2 hg2)
              | (at_builtin; refine App.wpList_append_list _ rfl _ _ 23 rfl w.heap.size 9 i0 (.string ByteArray.empty) 1 16 Tryd.underlying23 G1.out G2.out G3.out G4.out rfl (by decide) _ 0 [] rfl (World.ownsRow_nil _ _ _ _) b A.length c (textsOf B) rfl HM.out (strs_here HSx.out) (texts_one _) (by unfold maxLen; omega) (by omega) hbr.out.size ?_
                 intro v1 w1 ho1 hg1 _ _
                 have HB1 := Lib.hid (hbr.out.grown hg1 hbr.out.size (by intro k hk; cases hk))
                 rw [Nat.zero_add, List.nil_append] at ho1
                 have HO1 := Lib.hid ho1
                 clear ho1 hg1))
            have H2 : Hid (w2.ownsRow w.heap.size 9 1 v2 (held n ss (k + 1)).length (textsOf (held n ss (k + 1)))) := Lib.hid (by
              rw [HNN.out, List.length_append, ← HBL.out]
              have e5 : textsOf (B ++ [[]]) = textsOf B ++ [.string ⟨#[]⟩] := by simp [textsOf]; rfl
              rw [e5]; exact HO2.out)
            clear HO2 HNN
            go_roundw
            case rel => exact ⟨k + 1, by omega, by go_num, H2, HB2⟩
            case measure => simp [intOf]; omega
          · rw [if_neg hlast] at hnx
            have q3 : ¬ k = n1 := by omega
            have q3' : ¬ (k : Int) = (n1 : Int) := by omega
            clear hn1
            have H2 : Hid (wr.ownsRow w.heap.size 9 1 (.slice b (A.length) c) (held n ss (k + 1)).length (textsOf (held n ss (k + 1)))) := Lib.hid (by rw [hnx, ← HBL.out]; exact HO.out)
            clear hown hnx HNX HBF HTL HS HO HSx HM HH0
            go_wp2
            go_roundw
            case rel => exact ⟨k + 1, by omega, by go_num, H2, hbr⟩
            case measure => simp [intOf]; omega
      · have n2 := up_ne hx1
        have n3 := dot_ne hx2
        have n4 : (x.toList == [46, 46]) = false := beq_eq_false_iff_ne.2 n2
        have n5 : (x.toList == [46]) = false := beq_eq_false_iff_ne.2 n3
        rw [if_neg (by rw [hq]; simp)] at hnx
        have hst : step A x.data.toList = A ++ [x.data.toList] := by rw [step, if_neg (by rw [hq]; simp)]
        rw [hst] at hnx
        have HNN := Lib.hid hnx
        have HM : Hid ((textsOf A).length = A.length * 1) := Lib.hid (by rw [textsOf, List.length_map, List.length_map, Nat.mul_one])
        have HSd : Hid (Strs (wr.drewN 1) b A.length (A.map ba)) := Lib.hid (HS.out.below (Base.below_drewN (Below.refl _ _) 1))
        have HBd : Hid (Below w.heap.size w (wr.drewN 1)) := Lib.hid (Base.below_drewN hbr.out 1)
        clear hnx hst HNX HBF HTL HH0 hx1 hx2 hq hown HS
        go_wp2_with fail
        refine Tree.region (.quiet 0 (.quiet 2 (.quiet 3 (.quiet 4 (.quiet 5 (.two 1 (.act 6 (.act 7 (.quiet 8 (.done)))) 6 (.act 1 (.act 7 (.quiet 8 (.done)))))))))) (fun w' => Below w.heap.size w w') (by kernel_rfl) (by kernel_rfl) (fun _ _ d _ _ h => by cases d <;> exact h) HBd.out ?_
        simp only [Tree.grow, Tree.put1, List.getElem?_cons_zero, List.getElem?_cons_succ]
        refine Tree.quiet (by rfl) ?_ ?_ ?_
        rotate_left 1
        · intro w' hS
          have q9 := (hS.cell (p := ⟨bl, off + k, none⟩) hbl).trans hck0
          go_simp
          with_reducible rfl
        simp only [Act.put, List.setIfInBounds_toArray, List.set_cons_zero, List.set_cons_succ]
        refine Tree.quiet (by rfl) ?_ ?_ ?_
        rotate_left 1
        · intro w' hS
          have q9 := (hS.cell (p := ⟨bl, off + k, none⟩) hbl).trans hck0
          go_simp
          with_reducible rfl
        simp only [Act.put, List.setIfInBounds_toArray, List.set_cons_zero, List.set_cons_succ]
        refine Tree.quiet (by rfl) ?_ ?_ ?_
        rotate_left 1
        · intro w' hS
          have q9 := (hS.cell (p := ⟨bl, off + k, none⟩) hbl).trans hck0
          go_simp
          with_reducible rfl
        simp only [Act.put, List.setIfInBounds_toArray, List.set_cons_zero, List.set_cons_succ]
        refine Tree.quiet (by rfl) ?_ ?_ ?_
        rotate_left 1
        · intro w' hS
          have q9 := (hS.cell (p := ⟨bl, off + k, none⟩) hbl).trans hck0
          go_simp
          with_reducible rfl
        simp only [Act.put, List.setIfInBounds_toArray, List.set_cons_zero, List.set_cons_succ]
        refine Tree.quiet (by rfl) ?_ ?_ ?_
        rotate_left 1
        · intro w' hS
          have q9 := (hS.cell (p := ⟨bl, off + k, none⟩) hbl).trans hck0
          go_simp
          with_reducible rfl
        simp only [Act.put, List.setIfInBounds_toArray, List.set_cons_zero, List.set_cons_succ]
        generalize hWd : World.drewN wr 1 = Wd at *
        clear hWd
        refine Tree.both ?_ ?_
        · refine Tree.change (by rfl) (fun K hK => ?_)
          obtain ⟨v1, w1, hr1, ho1, hg1, _⟩ := App.run_append_list (P := Tryd.prog) (Wd) 23 23 w.heap.size 9 i0 (.string ByteArray.empty) 1 16 Tryd.underlying23 G1.out G2.out G3.out G4.out rfl (by decide) (.slice none 0 0) 0 [] (World.ownsRow_nil _ _ _ _) b A.length c (textsOf A) HM.out (strs_here HSd.out) (texts_one _) (by unfold maxLen; omega) (by omega) HBd.out.size
          have HB1 := Lib.hid (HBd.out.grown hg1 HBd.out.size (by intro k hk; cases hk))
          rw [Nat.zero_add, List.nil_append] at ho1
          have HO1 := Lib.hid ho1
          refine oper_append _ _ _ rfl rfl rfl hr1 ?_
          refine hK _ _ HB1.out ?_
          clear hK K ho1 hg1 hr1
          simp only [Act.put, List.setIfInBounds_toArray, List.set_cons_zero, List.set_cons_succ]
          refine Tree.change (by rfl) (fun K hK => ?_)
          go_simp
          refine hK _ _ (HB1.out.alloc HB1.out.size _) ?_
          clear hK K
          refine Tree.change (by rfl) (fun K hK => ?_)
          obtain ⟨v2, w2, hr2, ho2, hg2, _⟩ := App.run_append_list (P := Tryd.prog) (w1.alloc (.cells #[.string x] 9)) 23 23 w.heap.size 9 i0 (.string ByteArray.empty) 1 16 Tryd.underlying23 G1.out G2.out G3.out G4.out rfl (by decide) v1 A.length (textsOf A) (HO1.out.alloc _) (some ⟨w1.heap.size, 0, none⟩) 1 1 [.string x] rfl (strs_here (Strs.one w1 w1.heap.size rfl 9 x)) (texts_one [x]) (by unfold maxLen; omega) (by omega) (by have := HB1.out.size; simp; omega)
          have HB2 := Lib.hid ((HB1.out.alloc HB1.out.size (.cells #[.string x] 9)).grown hg2 (by have := HB1.out.size; simp; omega) (fun k hk => (HO1.out.lt k hk).1))
          have HO2 := Lib.hid ho2
          refine oper_append _ _ _ rfl rfl rfl hr2 ?_
          refine hK _ _ HB2.out ?_
          clear hK K ho2 hg2 hr2
          simp only [Act.put, List.setIfInBounds_toArray, List.set_cons_zero, List.set_cons_succ]
          refine Tree.assign _ (by rfl) (by rfl) ?_
          simp only [Act.put, Act.eval, Array.getD_eq_getD_getElem?, List.getElem?_toArray, List.getElem?_cons_zero, List.getElem?_cons_succ, Option.getD_some, List.setIfInBounds_toArray, List.set_cons_zero, List.set_cons_succ]
          refine Tree.done ?_
          have H2 : Hid (w2.ownsRow w.heap.size 9 1 v2 (held n ss (k + 1)).length (textsOf (held n ss (k + 1)))) := Lib.hid (by
            rw [HNN.out, List.length_append, textsOf_snoc]; exact HO2.out)
          clear HO2 HNN
          go_wp2
          go_roundw
          case rel => exact ⟨k + 1, by omega, by go_num, H2, HB2⟩
          case measure => simp [intOf]; omega
        · refine Tree.change (by rfl) (fun K hK => ?_)
          go_simp
          refine hK _ _ (HBd.out.alloc HBd.out.size _) ?_
          clear hK K
          refine Tree.change (by rfl) (fun K hK => ?_)
          obtain ⟨v1, w1, hr1, ho1, hg1, _⟩ := App.run_append_list (P := Tryd.prog) (Wd.alloc (.cells #[.string x] 9)) 23 23 w.heap.size 9 i0 (.string ByteArray.empty) 1 16 Tryd.underlying23 G1.out G2.out G3.out G4.out rfl (by decide) (.slice none 0 0) 0 [] (World.ownsRow_nil _ _ _ _) b A.length c (textsOf A) HM.out (strs_here (HSd.out.below ((Below.refl _ _).alloc (Nat.le_refl _) _))) (texts_one _) (by unfold maxLen; omega) (by omega) (by have := HBd.out.size; simp; omega)
          have HB1 := Lib.hid ((HBd.out.alloc HBd.out.size (.cells #[.string x] 9)).grown hg1 (by have := HBd.out.size; simp; omega) (by intro k hk; cases hk))
          have HX1 : Hid (Strs w1 (some ⟨Wd.heap.size, 0, none⟩) 1 [x]) := Lib.hid ((Strs.one Wd Wd.heap.size rfl 9 x).grown hg1 (by simp [Value.ownBlock]))
          rw [Nat.zero_add, List.nil_append] at ho1
          have HO1 := Lib.hid ho1
          refine oper_append _ _ _ rfl rfl rfl hr1 ?_
          refine hK _ _ HB1.out ?_
          clear hK K ho1 hg1 hr1
          simp only [Act.put, List.setIfInBounds_toArray, List.set_cons_zero, List.set_cons_succ]
          refine Tree.change (by rfl) (fun K hK => ?_)
          obtain ⟨v2, w2, hr2, ho2, hg2, _⟩ := App.run_append_list (P := Tryd.prog) (w1) 23 23 w.heap.size 9 i0 (.string ByteArray.empty) 1 16 Tryd.underlying23 G1.out G2.out G3.out G4.out rfl (by decide) v1 A.length (textsOf A) HO1.out (some ⟨Wd.heap.size, 0, none⟩) 1 1 [.string x] rfl (strs_here HX1.out) (texts_one [x]) (by unfold maxLen; omega) (by omega) HB1.out.size
          have HB2 := Lib.hid (HB1.out.grown hg2 HB1.out.size (fun k hk => (HO1.out.lt k hk).1))
          have HO2 := Lib.hid ho2
          refine oper_append _ _ _ rfl rfl rfl hr2 ?_
          refine hK _ _ HB2.out ?_
          clear hK K ho2 hg2 hr2
          simp only [Act.put, List.setIfInBounds_toArray, List.set_cons_zero, List.set_cons_succ]
          refine Tree.assign _ (by rfl) (by rfl) ?_
          simp only [Act.put, Act.eval, Array.getD_eq_getD_getElem?, List.getElem?_toArray, List.getElem?_cons_zero, List.getElem?_cons_succ, Option.getD_some, List.setIfInBounds_toArray, List.set_cons_zero, List.set_cons_succ]
          refine Tree.done ?_
          have H2 : Hid (w2.ownsRow w.heap.size 9 1 v2 (held n ss (k + 1)).length (textsOf (held n ss (k + 1)))) := Lib.hid (by
            rw [HNN.out, List.length_append, textsOf_snoc]; exact HO2.out)
          clear HO2 HNN
          go_wp2
          go_roundw
          case rel => exact ⟨k + 1, by omega, by go_num, H2, HB2⟩
          case measure => simp [intOf]; omega
    · obtain rfl : k = n := by omega
      have hdots : (if held k ss k = [] then [[]] else held k ss k).map ba = D := by rw [HH0.out]; exact HD.out
      clear HD HH0 HNX HBF HTL
      generalize held k ss k = A at *
      obtain ⟨b, c, rfl, hS⟩ := Strs.of_own (n := A.length) (ss := A.map ba) hown.out
      have HS := Lib.hid hS
      clear hS
      by_cases hA : A = []
      · rw [if_pos hA] at hdots
        subst hdots
        have q0 : A.length = 0 := by rw [hA]; rfl
        clear hA
        go_wp2
        go_ret
        exact ⟨_, _, _, rfl, rfl, Strs.one wr wr.heap.size rfl 9 ⟨#[]⟩, hbr.out.alloc hbr.out.size _⟩
      · rw [if_neg hA] at hdots
        subst hdots
        have hAn : ¬ A.length = 0 := fun e => hA (List.length_eq_zero_iff.1 e)
        have q0 : ¬ ((A.length : Nat) : Int) = 0 := by omega
        go_wp2
        go_ret
        exact ⟨_, _, _, rfl, by simp, HS.out, hbr.out⟩
end code
end Go.Proofs.YtojjhknejkhdhaaDoor.Pct
