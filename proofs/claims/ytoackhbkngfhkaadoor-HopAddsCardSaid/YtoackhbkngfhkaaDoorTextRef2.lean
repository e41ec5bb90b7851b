/-
  Layer 3 (text): the document's own Split and List: what they answer, of every text and slice of texts up to a great size.
-/
import Derived.Test.YtoackhbkngfhkaaDoorTextRef
import Derived.Test.YtoackhbkngfhkaaDoorTextFind
namespace Go.Proofs.YtoackhbkngfhkaaDoor.Txt
open Go.RowKit Base Oct

theorem drop_at (l : List UInt8) (f k : Nat) (hfk : f ≤ k) (hk : k < l.length) : l.drop f = (l.take k).drop f ++ l[k] :: l.drop (k + 1) := by
  conv => lhs; rw [← List.take_append_drop k l, List.drop_append_of_le_length (by rw [List.length_take]; omega), List.drop_eq_getElem_cons hk]
theorem mid_snoc (l : List UInt8) (f k : Nat) (hfk : f ≤ k) (hk : k < l.length) : (l.take (k + 1)).drop f = (l.take k).drop f ++ [l[k]] := by
  rw [List.take_succ_eq_append_getElem hk, List.drop_append_of_le_length (by rw [List.length_take]; omega)]

section code
set_option maxHeartbeats 1000000
set_option maxRecDepth 10000
attribute [local go_sem] Base.some_undef
theorem rsplit_own (s : ByteArray) (c : UInt8) (w : World) (hs : s.size ≤ 1000000000) :
    Calls Tryd.prog 40 #[.string s, .int .u8 c.toNat] w fun e w' => ∃ g n k, e = .returned (.slice (some ⟨g, 0, none⟩) n k) ∧ w.heap.size ≤ g ∧ n = (parts c s.data.toList).length ∧ Strs w' (some ⟨g, 0, none⟩) n ((parts c s.data.toList).map ba) ∧ w.heap.size < w'.heap.size ∧ Below w.heap.size w w' := by
  obtain ⟨i0, hi, hz0, hz1, hz2⟩ := info_parts text_info
  have G1 := Lib.hid hi; have G2 := Lib.hid hz0; have G3 := Lib.hid hz1; have G4 := Lib.hid hz2
  clear hi hz0 hz1 hz2
  have hpl := parts_le c s.data.toList
  rw [len] at hpl
  have hp1 : 0 < (parts c s.data.toList).length := by rw [parts_length]; omega
  go_enter Tryd.func40, Tryd.ntmps40
  go_wp2
  go_loopw [5, 6, 7] (fun v f i wr => ∃ (k fr : Nat) (done : List (List UInt8)), f = .int .i64 fr ∧ i = .int .i64 k ∧ done.length ≤ k ∧ Hid (wr.ownsRow w.heap.size 9 1 v done.length ((done.map ba).map Value.string)) ∧ Hid (Below w.heap.size w wr) ∧
    ((fr ≤ k ∧ k ≤ s.size ∧ Hid (done ++ parts c (s.data.toList.drop fr) = parts c s.data.toList) ∧ Hid (c ∉ (s.data.toList.take k).drop fr)) ∨ (k = s.size + 1 ∧ Hid (done = parts c s.data.toList)))) (fun _ _ i _ => s.size + 1 - (intOf i).toNat)
  case atStart => exact ⟨0, 0, [], rfl, rfl, Nat.le_refl _, Lib.hid ⟨rfl, .inl ⟨rfl, rfl⟩⟩, Lib.hid (Below.refl _ _), .inl ⟨Nat.le_refl _, Nat.zero_le _, Lib.hid rfl, Lib.hid (by simp)⟩⟩
  case round =>
    obtain ⟨k, fr, done, rfl, rfl, hdl, hown, hbr, hcase⟩ := hrel
    rcases hcase with ⟨hfk, hks, hdone, hno⟩ | ⟨rfl, hdone⟩
    · have t0 : (k : Int) ≤ (s.size : Int) := by omega
      have t1 : (fr : Int) ≤ (k : Int) := by omega
      have t9 : wrap64 ((k : Int) + 1) = (k : Int) + 1 := by unfold wrap64; omega
      rcases Nat.lt_or_ge k s.size with hlt | hge
      · have hll : k < s.data.toList.length := by rw [len]; exact hlt
        have t2 : (k : Int) < (s.size : Int) := by omega
        have t3 : ((k : Int) == (s.size : Int)) = false := beq_eq_false_iff_ne.2 (by omega)
        by_cases hc : s.data.toList[k] = c
        · have t4 : ((s[k].toNat : Int) == (c.toNat : Int)) = true := by rw [show s[k] = c from hc]; exact beq_self_eq_true _
          have hcut := parts_cut c ((s.data.toList.take k).drop fr) (s.data.toList.drop (k + 1)) hno.out
          rw [← hc, ← drop_at _ _ _ hfk hll, hc] at hcut
          have hx : (s.extract fr k) = ba ((s.data.toList.take k).drop fr) := ba_ext (by rw [Lib.extract_data]; show _ = (s.data.toList.take k).drop fr; rw [List.drop_take])
          have HX := Lib.hid hx
          have HD := Lib.hid (show (done ++ [(s.data.toList.take k).drop fr]) ++ parts c (s.data.toList.drop (k + 1)) = parts c s.data.toList by rw [← hdone.out, hcut, List.append_assoc]; rfl)
          clear hcut hx hc hno
          generalize (s.data.toList.take k).drop fr = p at *
          go_wp2_with (at_builtin; refine wpList_append_own _ rfl _ _ 26 rfl w.heap.size 9 i0 (.string ByteArray.empty) 1 16 Tryd.underlying26 G1.out G2.out G3.out G4.out rfl (by decide) _ _ _ rfl (hown.out.alloc _) ⟨wr.heap.size, 0, none⟩ 1 1 [.string (s.extract fr k)] rfl rfl ?c1 ?c2 ?c3 ?c4 ?c5 ?_)
          case c1 => exact news_one wr _ _
          case c2 => intro u hu; obtain rfl : u = .string (s.extract fr k) := by simpa using hu
                     rfl
          case c3 => unfold maxLen; omega
          case c4 => omega
          case c5 => have := hbr.out.size; simp; omega
          intro v' w' hown' hgr _
          have H1 : Hid (w'.ownsRow w.heap.size 9 1 v' (done ++ [p]).length (((done ++ [p]).map ba).map Value.string)) := Lib.hid (by
            rw [HX.out] at hown'
            simpa using hown')
          have H2 := Lib.hid ((hbr.out.alloc hbr.out.size _).grown hgr (by have := hbr.out.size; simp; omega) (own_base hown.out))
          have hdl2 : (done ++ [p]).length ≤ k + 1 := by rw [List.length_append]; simp; omega
          clear hown' hgr
          go_wp2
          go_roundw
          case rel => exact ⟨k + 1, k + 1, done ++ [p], by go_num, by go_num, hdl2, H1, H2, .inl ⟨Nat.le_refl _, by omega, HD, Lib.hid (by rw [List.drop_eq_nil_of_le (by rw [List.length_take]; omega)]; simp)⟩⟩
          case measure => simp [intOf]; omega
        · have t4 : ((s[k].toNat : Int) == (c.toNat : Int)) = false := beq_eq_false_iff_ne.2 (fun e => hc (show s[k] = c from UInt8.toNat_inj.1 (by omega)))
          have HN := Lib.hid (show c ∉ (s.data.toList.take (k + 1)).drop fr by
            rw [mid_snoc _ _ _ hfk hll, List.mem_append]
            rintro (h | h)
            · exact hno.out h
            · exact hc (List.mem_singleton.1 h).symm)
          clear hno
          go_wp2
          go_roundw
          case rel => exact ⟨k + 1, fr, done, rfl, by go_num, by omega, hown, hbr, .inl ⟨by omega, by omega, hdone, HN⟩⟩
          case measure => simp [intOf]; omega
      · obtain rfl : k = s.size := by omega
        · have t3 : ((s.size : Int) == (s.size : Int)) = true := beq_self_eq_true _
          have hno' := hno.out
          rw [take_all s _ (Nat.le_refl _)] at hno'
          have hcut := parts_none c (s.data.toList.drop fr) hno'
          have hx : (s.extract fr s.size) = ba (s.data.toList.drop fr) := ba_ext (by rw [Lib.extract_data, List.take_of_length_le (by rw [List.length_drop, len]; exact Nat.le_refl _)]; rfl)
          have HX := Lib.hid hx
          have HD := Lib.hid (show done ++ [s.data.toList.drop fr] = parts c s.data.toList by rw [← hdone.out, hcut])
          clear hcut hx hno hno'
          generalize s.data.toList.drop fr = p at *
          generalize hk : s.size = k at *
          go_wp2_with (at_builtin; refine wpList_append_own _ rfl _ _ 26 rfl w.heap.size 9 i0 (.string ByteArray.empty) 1 16 Tryd.underlying26 G1.out G2.out G3.out G4.out rfl (by decide) _ _ _ rfl (hown.out.alloc _) ⟨wr.heap.size, 0, none⟩ 1 1 [.string (s.extract fr k)] rfl rfl ?c1 ?c2 ?c3 ?c4 ?c5 ?_)
          case c1 => exact news_one wr _ _
          case c2 => intro u hu; obtain rfl : u = .string (s.extract fr k) := by simpa using hu
                     rfl
          case c3 => unfold maxLen; omega
          case c4 => omega
          case c5 => have := hbr.out.size; simp; omega
          intro v' w' hown' hgr _
          have H1 : Hid (w'.ownsRow w.heap.size 9 1 v' (done ++ [p]).length (((done ++ [p]).map ba).map Value.string)) := Lib.hid (by
            rw [HX.out] at hown'
            simpa using hown')
          have H2 := Lib.hid ((hbr.out.alloc hbr.out.size _).grown hgr (by have := hbr.out.size; simp; omega) (own_base hown.out))
          have hdl2 : (done ++ [p]).length ≤ k + 1 := by rw [List.length_append]; simp; omega
          clear hown' hgr
          go_wp2
          go_roundw
          case rel => exact ⟨k + 1, k + 1, done ++ [p], by go_num, by go_num, hdl2, H1, H2, .inr ⟨rfl, HD⟩⟩
          case measure => (simp [intOf] <;> omega)
    · have t0 : ¬ ((s.size : Int) + 1 ≤ (s.size : Int)) := by omega
      have hdn := hdone.out
      subst hdn
      obtain ⟨g, cap, rfl, hg0, hg1⟩ := hown.out.form hp1
      have HS := Lib.hid (show Strs wr (some ⟨g, 0, none⟩) (parts c s.data.toList).length ((parts c s.data.toList).map ba) by
        obtain ⟨A, cc, e, hS⟩ := Strs.of_own (ss := (parts c s.data.toList).map ba) hown.out
        obtain ⟨rfl, rfl⟩ : some ⟨g, 0, none⟩ = A ∧ cap = cc := by simpa using e
        exact hS)
      clear hown hdone
      go_wp2
      go_ret
      exact ⟨g, _, ⟨cap, rfl⟩, hg0, rfl, HS.out, by omega, hbr.out⟩

theorem rsplit44 (s : ByteArray) (w : World) (hs : s.size ≤ 1000000000) :
    Calls Tryd.prog 40 #[.string s, .int .u8 44] w fun e w' => ∃ g n k, e = .returned (.slice (some ⟨g, 0, none⟩) n k) ∧ w.heap.size ≤ g ∧ n = (parts 44 s.data.toList).length ∧ Strs w' (some ⟨g, 0, none⟩) n ((parts 44 s.data.toList).map ba) ∧ w.heap.size < w'.heap.size ∧ Below w.heap.size w w' :=
  rsplit_own s 44 w hs
theorem rlist_own (a : Option Addr) (n cap : Nat) (vs : List ByteArray) (w : World) (hv : Strs w a n vs) (hr : room vs ≤ 1000000000) :
    Calls Tryd.prog 25 #[.slice a n cap] w fun e w' => ∃ v, e = .returned v ∧ w'.ownsRow w.heap.size 9 1 v (list vs).length ((list vs).map Value.string) ∧ Below w.heap.size w w' := by
  have hle := list_le vs
  have hnr := len_room vs
  rw [hv.1] at hnr
  have HV := Lib.hid hv
  have HL := Lib.hid hv.1
  clear hv
  obtain ⟨i0, hi, hz0, hz1, hz2⟩ := info_parts text_info
  have G1 := Lib.hid hi; have G2 := Lib.hid hz0; have G3 := Lib.hid hz1; have G4 := Lib.hid hz2
  clear hi hz0 hz1 hz2
  go_enter Tryd.func25, Tryd.ntmps25
  go_wp2
  go_loopw [3, 4] (fun v i wr => ∃ k : Nat, k ≤ n ∧ i = .int .i64 k ∧ Hid (wr.ownsRow w.heap.size 9 1 v (list (vs.take k)).length ((list (vs.take k)).map Value.string)) ∧ Hid (Below w.heap.size w wr)) (fun _ i _ => n - (intOf i).toNat)
  case atStart => exact ⟨0, Nat.zero_le _, rfl, Lib.hid ⟨rfl, .inl ⟨rfl, rfl⟩⟩, Lib.hid (Below.refl _ _)⟩
  case round =>
    obtain ⟨k, hk, rfl, hown, hbr⟩ := hrel
    rcases Nat.lt_or_ge k n with hlt | hge
    · obtain ⟨bl, off, rfl, _, hc⟩ := (HV.out.below hbr.out).2 (by omega)
      have hck := hc k hlt
      have hsn := Lib.hid (list_snoc vs k (by rw [HL.out]; exact hlt))
      have hle1 := list_take_le vs (k + 1)
      rw [hsn.out, List.length_append] at hle1
      have hsz : (vs[k]?.getD ByteArray.empty).size ≤ 1000000000 := by
        have : k < vs.length := by rw [HL.out]; exact hlt
        rw [List.getElem?_eq_getElem this]
        have h2 : (vs[k].size + 1) ≤ room vs := by
          exact room_mem vs _ (List.getElem_mem _)
        show vs[k].size ≤ _
        omega
      clear hc
      generalize vs[k]?.getD ByteArray.empty = x at *
      have HP := Lib.hid (rsplit44 x wr hsz)
      have hpm := Lib.hid (partsOf_map x)
      have hpl : (partsOf x).length = ((parts 44 x.data.toList).map ba).length := by rw [hpm.out, List.length_map]
      have hp0 : ((parts 44 x.data.toList).map ba).length = (parts 44 x.data.toList).length := List.length_map _
      rw [← hp0] at HP
      have hps := Lib.hid (show ∀ y ∈ (parts 44 x.data.toList).map ba, y.size < 4294967281 from fun y hy => by
        obtain ⟨l, hl, rfl⟩ := List.mem_map.1 hy
        have := parts_size 44 _ l hl
        rw [len] at this
        rw [ba_size]; omega)
      generalize (parts 44 x.data.toList).map ba = P at *
      clear hp0
      generalize list (vs.take k) = L at *
      go_wp2_with (go_at_call 40; with_reducible refine HP.out.mono ?_; rintro e w1 ⟨B, n1, c1, rfl, hgB, hn1, hS, hg1, hb1⟩)
      have hB1 := Lib.hid (Base.below_step hbr.out hb1)
      have hown1 := Lib.hid (own_below hown.out hb1)
      have hS' := Lib.hid hS
      have hne := Lib.hid (show ∀ g, u3.ownBlock = some g → g ≠ B from fun g hg => by have := (hown.out.lt g hg).2; omega)
      clear hgB
      clear hS hb1 HP hown hbr
      go_loopw [3, 6] (fun v i wq => ∃ j : Nat, j ≤ n1 ∧ i = .int .i64 j ∧ w1.heap.size ≤ wq.heap.size ∧ Hid (wq.ownsRow w.heap.size 9 1 v (L.length + j) ((L ++ (P.map trim).take j).map Value.string)) ∧ Hid (Below w.heap.size w wq) ∧ Hid (∀ g, v.ownBlock = some g → g ≠ B) ∧ Hid (Strs wq (some ⟨B, 0, none⟩) n1 P)) (fun _ i _ => n1 - (intOf i).toNat)
      case atStart => exact ⟨0, Nat.zero_le _, rfl, Nat.le_refl _, by rw [List.take_zero, List.append_nil]; exact hown1, hB1, hne, hS'⟩
      case round =>
        obtain ⟨j, hj, rfl, hsz, hown, hbq, hne, hSq⟩ := hrel
        rcases Nat.lt_or_ge j n1 with hlj | hgj
        · obtain ⟨bs, os, e, hbs, hc⟩ := hSq.out.2 (by omega)
          obtain ⟨rfl, rfl⟩ : B = bs ∧ 0 = os := by simpa using e
          have hcj := hc j hlj
          rw [Nat.zero_add] at hcj
          have HS1 := Lib.hid (map_snoc trim ByteArray.empty P j (by omega))
          clear hc e
          have hys : (P[j]?.getD ByteArray.empty).size ≤ maxLen := by
            have : j < P.length := by omega
            rw [List.getElem?_eq_getElem this]
            have := hps.out _ (List.getElem_mem this)
            show P[j].size ≤ _
            unfold maxLen; omega
          generalize P[j]?.getD ByteArray.empty = y at *
          have HT := Lib.hid (fun w => rtrim_any y w hys)
          clear hys
          go_wp2_with (first
            | (go_at_call 41; with_reducible refine (HT.out _).mono ?_; rintro e w2 ⟨rfl, hw⟩; rw [hw]; clear hw)
            | (at_builtin; (refine wpList_append_own_at _ rfl _ _ 26 rfl w.heap.size 9 i0 (.string ByteArray.empty) 1 16 Tryd.underlying26 G1.out G2.out G3.out G4.out rfl (by decide) _ _ _ rfl (hown.out.alloc _) ⟨wr.heap.size, 0, none⟩ 1 1 [.string (trim y)] rfl rfl ?c1 ?c2 ?c3 ?c4 ?c5 ?_)))
          case c1 => exact news_one wr _ _
          case c2 => intro u hu; obtain rfl : u = .string (trim y) := by simpa using hu
                     rfl
          case c3 => unfold maxLen; omega
          case c4 => omega
          case c5 => have := hbq.out.size; simp; omega
          intro v' w' hown' hgr _ hloc
          have hown2 : w'.ownsRow w.heap.size 9 1 v' (L.length + (j + 1)) ((L ++ (P.map trim).take (j + 1)).map Value.string) := by
            rw [HS1.out]; simpa [List.append_assoc, Nat.add_assoc] using hown'
          have H2 := Lib.hid hown2
          have H3 := Lib.hid ((hbq.out.alloc hbq.out.size _).grown hgr (by have := hbq.out.size; simp; omega) (own_base hown.out))
          have H4 := Lib.hid ((hSq.out.below ((Below.refl _ _).alloc (Nat.le_refl _) _)).grown hgr (fun e => hne.out _ e rfl))
          have H5 := Lib.hid (show ∀ g, v'.ownBlock = some g → g ≠ B from fun g hg => by
            rcases hloc with h | h
            · exact hne.out g (h ▸ hg)
            · rw [h] at hg; cases hg; simp; omega)
          have H6 : w1.heap.size ≤ w'.heap.size := by have := hgr.size; simp at this; omega
          clear hown' hgr hown2 hloc
          go_wp2
          go_roundw
          case rel => exact ⟨j + 1, by omega, by go_num, H6, H2, H3, H5, H4⟩
          case measure => simp [intOf]; omega
        · obtain rfl : j = n1 := by omega
          have hown2 := hown.out
          rw [List.take_of_length_le (by rw [List.length_map]; omega), ← hpm.out] at hown2
          have H2 : Hid (wr.ownsRow w.heap.size 9 1 u3 (L ++ partsOf x).length ((L ++ partsOf x).map Value.string)) := Lib.hid (by rw [List.length_append, hpl]; rw [hn1] at hown2; exact hown2)
          rw [← hsn.out] at H2
          clear hown hown2
          go_wp2
          go_roundw
          case rel => exact ⟨k + 1, by omega, by go_num, H2, hbq⟩
          case measure => simp [intOf]; omega
    · obtain rfl : k = n := by omega
      have hown1 := hown.out
      rw [List.take_of_length_le (by rw [HL.out]; omega)] at hown1
      have H1 := Lib.hid hown1
      clear hown1 hown
      go_wp2
      go_ret
      exact ⟨_, rfl, H1.out, hbr.out⟩
theorem rlist_any (a : Option Addr) (n cap : Nat) (vs : List ByteArray) (w : World) (hv : Strs w a n vs) (hr : room vs ≤ 1000000000) :
    Calls Tryd.prog 25 #[.slice a n cap] w fun e w' => ∃ b m c, e = .returned (.slice b m c) ∧ m = (list vs).length ∧ Strs w' b m (list vs) ∧ Below w.heap.size w w' :=
  (rlist_own a n cap vs w hv hr).mono (by
    rintro e w' ⟨v, rfl, ho, hb⟩
    obtain ⟨A, c, rfl, hA⟩ := Strs.of_own ho
    exact ⟨A, _, c, rfl, rfl, hA, hb⟩)
theorem rfind_any (a : Option Addr) (n cap : Nat) (fs : List Fld) (name : ByteArray) (w : World) (hv : Flds w a n fs) (hn : n ≤ 1000000000) (hs : ∀ f ∈ fs, f.1.size ≤ 1000000000) (ht : name.size ≤ 1000000000) :
    Calls Tryd.prog 26 #[.slice a n cap, .string name] w fun e w' => ∃ b m c, e = .returned (.slice b m c) ∧ m = (find fs name).length ∧ Strs w' b m (find fs name) ∧ Below w.heap.size w w' := by
  have HV := Lib.hid hv
  have HL := Lib.hid hv.1
  have HS := Lib.hid hs
  clear hv hs
  obtain ⟨i0, hi, hz0, hz1, hz2⟩ := info_parts text_info
  have G1 := Lib.hid hi; have G2 := Lib.hid hz0; have G3 := Lib.hid hz1; have G4 := Lib.hid hz2
  clear hi hz0 hz1 hz2
  go_enter Tryd.func26, Tryd.ntmps26
  go_wp2
  go_loopw [5, 6] (fun v i wr => ∃ k : Nat, k ≤ n ∧ i = .int .i64 k ∧ Hid (wr.ownsRow w.heap.size 9 1 v (find (fs.take k) name).length ((find (fs.take k) name).map Value.string)) ∧ Hid (Below w.heap.size w wr)) (fun _ i _ => n - (intOf i).toNat)
  case atStart => exact ⟨0, Nat.zero_le _, rfl, Lib.hid ⟨rfl, .inl ⟨rfl, rfl⟩⟩, Lib.hid (Below.refl _ _)⟩
  case round =>
    obtain ⟨k, hk, rfl, hown, hbr⟩ := hrel
    rcases Nat.lt_or_ge k n with hlt | hge
    · obtain ⟨bl, off, rfl, hbl, hc⟩ := (HV.out.below hbr.out).2 (by omega)
      obtain ⟨hc0, hc1⟩ := hc k hlt
      have hsn := Lib.hid (find_snoc fs name k (by rw [HL.out]; exact hlt))
      have hfl := find_le (fs.take k) name
      rw [List.length_take] at hfl
      have hsz : (fs[k]?.getD dflt).1.size ≤ 1000000000 := by
        have : k < fs.length := by rw [HL.out]; exact hlt
        rw [List.getElem?_eq_getElem this]
        exact HS.out _ (List.getElem_mem _)
      clear hc
      generalize fs[k]?.getD dflt = f at *
      generalize hL : find (fs.take k) name = L at *
      obtain ⟨f0, f1⟩ := f
      simp only at hc0 hc1 hsz hsn
      have HC := Lib.hid (fun w => rsame_any f0 name w (by omega) (by omega))
      clear hsz hL
      cases hq : same f0 name with
      | false =>
        rw [hq] at HC hsn
        rw [if_neg (by decide), List.append_nil] at hsn
        clear hq
        go_wp2_with (go_at_call 27; with_reducible refine (HC.out _).mono ?_; rintro e w2 ⟨rfl, hb2⟩)
        have hb0 : Below wr.heap.size wr w2 := hb2
        have H2 : Hid (w2.ownsRow w.heap.size 9 1 u5 (find (fs.take (k + 1)) name).length ((find (fs.take (k + 1)) name).map Value.string)) := Lib.hid (by rw [hsn.out]; exact own_below hown.out hb0)
        have H3 := Lib.hid (Base.below_step hbr.out hb0)
        clear hown hb2 hb0
        go_roundw
        case rel => exact ⟨k + 1, by omega, by go_num, H2, H3⟩
        case measure => simp [intOf]; omega
      | true =>
        rw [hq] at HC hsn
        rw [if_pos rfl] at hsn
        clear hq
        go_wp2_with (first
          | (go_at_call 27; with_reducible refine (HC.out _).mono ?_; rintro e w2 ⟨rfl, hb2⟩
             have hf1 := (hb2.cell (p := ⟨bl, off + k * 2 + 1, none⟩) hbl).trans hc1
             have hb0 := Lib.hid (show Below wr.heap.size wr w2 from hb2)
             have hown0 := Lib.hid (own_below hown.out hb0.out))
          | (at_builtin; refine wpList_append_own _ rfl _ _ 26 rfl w.heap.size 9 i0 (.string ByteArray.empty) 1 16 Tryd.underlying26 G1.out G2.out G3.out G4.out rfl (by decide) _ _ _ rfl (hown0.out.alloc _) ⟨w2.heap.size, 0, none⟩ 1 1 [.string f1] rfl rfl ?c1 ?c2 ?c3 ?c4 ?c5 ?_))
        case c1 => exact news_one w2 _ _
        case c2 => intro u hu; obtain rfl : u = .string f1 := by simpa using hu
                   rfl
        case c3 => unfold maxLen; omega
        case c4 => omega
        case c5 => have := hbr.out.size; have := hb0.out.size; simp; omega
        intro v' w' hown' hgr _
        have H2 : Hid (w'.ownsRow w.heap.size 9 1 v' (find (fs.take (k + 1)) name).length ((find (fs.take (k + 1)) name).map Value.string)) := Lib.hid (by rw [hsn.out]; simpa using hown')
        have H3 := Lib.hid (((Base.below_step hbr.out hb0.out).alloc (by have := hbr.out.size; have := hb0.out.size; omega) _).grown hgr (by have := hbr.out.size; have := hb0.out.size; simp; omega) (own_base hown.out))
        clear hown' hgr hown hown0
        go_wp2
        go_roundw
        case rel => exact ⟨k + 1, by omega, by go_num, H2, H3⟩
        case measure => simp [intOf]; omega
    · obtain rfl : k = n := by omega
      have hown1 := hown.out
      rw [List.take_of_length_le (by rw [HL.out]; omega)] at hown1
      obtain ⟨A, c, rfl, hA⟩ := Strs.of_own hown1
      have HA := Lib.hid hA
      clear hown1 hA hown
      go_wp2
      go_ret
      exact ⟨A, _, c, rfl, rfl, HA.out, hbr.out⟩

theorem one_snoc (names : List ByteArray) (s : ByteArray) (k : Nat) (h : k < names.length) : one (names.take (k + 1)) s = (one (names.take k) s || same (names[k]?.getD ByteArray.empty) s) := by
  rw [strs_snoc names k h]; unfold one; simp
theorem one_hit (names : List ByteArray) (s : ByteArray) (k : Nat) (h : k < names.length) (hq : same (names[k]?.getD ByteArray.empty) s = true) : one names s = true := by
  unfold one
  rw [List.any_eq_true]
  rw [List.getElem?_eq_getElem h] at hq
  exact ⟨names[k], List.getElem_mem h, hq⟩
theorem rone_any (a : Option Addr) (n cap : Nat) (names : List ByteArray) (s : ByteArray) (w : World) (hv : Strs w a n names) (hn : n ≤ 1000000000) (hs : ∀ x ∈ names, x.size ≤ 1000000000) (ht : s.size ≤ 1000000000) :
    Calls Tryd.prog 42 #[.slice a n cap, .string s] w fun e w' => e = .returned (.bool (one names s)) ∧ Below w.heap.size w w' := by
  have HV := Lib.hid hv
  have HL := Lib.hid hv.1
  have HS := Lib.hid hs
  clear hv hs
  go_enter Tryd.func42, Tryd.ntmps42
  go_wp2
  go_loopw [5] (fun i wr => ∃ k : Nat, k ≤ n ∧ i = .int .i64 k ∧ Hid (one (names.take k) s = false) ∧ Hid (Below w.heap.size w wr)) (fun i _ => n - (intOf i).toNat)
  case atStart => exact ⟨0, Nat.zero_le _, rfl, Lib.hid (by simp [one]), Lib.hid (Below.refl _ _)⟩
  case round =>
    obtain ⟨k, hk, rfl, hno, hbr⟩ := hrel
    rcases Nat.lt_or_ge k n with hlt | hge
    · obtain ⟨bl, off, rfl, hbl, hc⟩ := (HV.out.below hbr.out).2 (by omega)
      have hck := hc k hlt
      have hkl : k < names.length := by rw [HL.out]; exact hlt
      have hsn := Lib.hid (one_snoc names s k hkl)
      have hsz : (names[k]?.getD ByteArray.empty).size ≤ 1000000000 := by
        rw [List.getElem?_eq_getElem hkl]
        exact HS.out _ (List.getElem_mem _)
      have hhit := Lib.hid (one_hit names s k hkl)
      clear hc hkl
      generalize names[k]?.getD ByteArray.empty = x at *
      have HC := Lib.hid (fun w => rsame_any x s w (by omega) (by omega))
      cases hq : same x s with
      | true =>
        rw [hq] at HC
        have HH := Lib.hid (hhit.out hq)
        clear hhit hq
        go_wp2_with (go_at_call 27; with_reducible refine (HC.out _).mono ?_; rintro e w2 ⟨rfl, hb2⟩)
        go_ret
        exact ⟨by rw [HH.out]; rfl, Base.below_step hbr.out hb2⟩
      | false =>
        rw [hq] at HC
        have HH := Lib.hid (show one (names.take (k + 1)) s = false by rw [hsn.out, hno.out, hq]; rfl)
        clear hhit hq
        go_wp2_with (go_at_call 27; with_reducible refine (HC.out _).mono ?_; rintro e w2 ⟨rfl, hb2⟩)
        go_roundw
        case rel => exact ⟨k + 1, by omega, by go_num, HH, Lib.hid (Base.below_step hbr.out hb2)⟩
        case measure => simp [intOf]; omega
    · obtain rfl : k = n := by omega
      have hno' := hno.out
      rw [List.take_of_length_le (by rw [HL.out]; omega)] at hno'
      have HN := Lib.hid hno'
      clear hno'
      go_wp2
      go_ret
      exact ⟨by rw [HN.out]; rfl, hbr.out⟩

theorem without_snoc (fs : List Fld) (names : List ByteArray) (k : Nat) (h : k < fs.length) : without (fs.take (k + 1)) names = without (fs.take k) names ++ (if one names (fs[k]?.getD dflt).1 = true then [] else [fs[k]?.getD dflt]) := by
  rw [flds_snoc fs k h]
  unfold without
  rw [List.filter_append]
  congr 1
  generalize fs[k]?.getD dflt = f
  by_cases hs : one names f.1 = true <;> simp [hs]
theorem rwithout_own (a : Option Addr) (n cap : Nat) (fs : List Fld) (b : Option Addr) (m cap2 : Nat) (names : List ByteArray) (w : World) (hv : Flds w a n fs) (hu : Strs w b m names) (hn : n ≤ 1000000000) (hm : m ≤ 1000000000)
    (hs : ∀ f ∈ fs, f.1.size ≤ 1000000000) (ht : ∀ s ∈ names, s.size ≤ 1000000000) :
    Calls Tryd.prog 28 #[.slice a n cap, .slice b m cap2] w fun e w' => ∃ d k c, e = .returned (.slice d k c) ∧ k = (without fs names).length ∧ Flds w' d k (without fs names) ∧ Below w.heap.size w w' ∧ w'.ownsRow w.heap.size 28 2 (.slice d k c) k (cells (without fs names)) := by
  have HV := Lib.hid hv
  have HL := Lib.hid hv.1
  have HS := Lib.hid hs
  have HU := Lib.hid hu
  have HT := Lib.hid ht
  clear hv hs hu ht
  obtain ⟨i0, hi, hz0, hz1, hz2⟩ := info_parts field_info
  have G1 := Lib.hid hi; have G2 := Lib.hid hz0; have G3 := Lib.hid hz1; have G4 := Lib.hid hz2
  clear hi hz0 hz1 hz2
  go_enter Tryd.func28, Tryd.ntmps28
  go_wp2
  go_loopw [5, 6] (fun v i wr => ∃ k : Nat, k ≤ n ∧ i = .int .i64 k ∧ Hid (wr.ownsRow w.heap.size 28 2 v (without (fs.take k) names).length (cells (without (fs.take k) names))) ∧ Hid (Below w.heap.size w wr)) (fun _ i _ => n - (intOf i).toNat)
  case atStart => exact ⟨0, Nat.zero_le _, rfl, Lib.hid ⟨rfl, .inl ⟨rfl, rfl⟩⟩, Lib.hid (Below.refl _ _)⟩
  case round =>
    obtain ⟨k, hk, rfl, hown, hbr⟩ := hrel
    rcases Nat.lt_or_ge k n with hlt | hge
    · obtain ⟨bl, off, rfl, hbl, hc⟩ := (HV.out.below hbr.out).2 (by omega)
      obtain ⟨hc0, hc1⟩ := hc k hlt
      have hkl : k < fs.length := by rw [HL.out]; exact hlt
      have hsn := Lib.hid (without_snoc fs names k hkl)
      have hsz : (fs[k]?.getD dflt).1.size ≤ 1000000000 := by
        rw [List.getElem?_eq_getElem hkl]
        exact HS.out _ (List.getElem_mem _)
      have hwl : (without (fs.take k) names).length ≤ k := by
        have := List.length_filter_le (fun f : Fld => !one names f.1) (fs.take k)
        rw [List.length_take] at this
        unfold without; omega
      clear hc hkl
      generalize fs[k]?.getD dflt = f at *
      generalize without (fs.take k) names = L at *
      obtain ⟨f0, f1⟩ := f
      simp only at hc0 hc1 hsz hsn
      have HUr := Lib.hid (HU.out.below hbr.out)
      have HC := Lib.hid (rone_any b m cap2 names f0 wr HUr.out hm HT.out hsz)
      clear hsz
      cases hq : one names f0 with
      | true =>
        rw [hq] at HC hsn
        rw [if_pos rfl, List.append_nil] at hsn
        clear hq
        go_wp2_with (go_at_call 42; with_reducible refine HC.out.mono ?_; rintro e w2 ⟨rfl, hb2⟩)
        have H2 : Hid (w2.ownsRow w.heap.size 28 2 u5 (without (fs.take (k + 1)) names).length (cells (without (fs.take (k + 1)) names))) := Lib.hid (by rw [hsn.out]; exact own_below hown.out hb2)
        have H3 := Lib.hid (Base.below_step hbr.out hb2)
        clear hown hb2
        go_roundw
        case rel => exact ⟨k + 1, by omega, by go_num, H2, H3⟩
        case measure => simp [intOf]; omega
      | false =>
        rw [hq] at HC hsn
        rw [if_neg (by decide)] at hsn
        clear hq
        go_wp2_with (first
          | (go_at_call 42; with_reducible refine HC.out.mono ?_; rintro e w2 ⟨rfl, hb2⟩
             have hf0 := (hb2.cell (p := ⟨bl, off + k * 2, none⟩) hbl).trans hc0
             have hf1 := (hb2.cell (p := ⟨bl, off + k * 2 + 1, none⟩) hbl).trans hc1
             have hb0 := Lib.hid hb2
             have hown0 := Lib.hid (own_below hown.out hb2))
          | (at_builtin; refine wpList_append_own _ rfl _ _ 22 rfl w.heap.size 28 i0 (.agg #[.string ByteArray.empty, .string ByteArray.empty]) 2 32 Tryd.underlying22 G1.out G2.out G3.out G4.out rfl (by decide) _ _ _ rfl (hown0.out.alloc _) ⟨w2.heap.size, 0, none⟩ 1 1 [.string f0, .string f1] rfl rfl ?c1 ?c2 ?c3 ?c4 ?c5 ?_))
        case c1 =>
          intro j u hu
          have hj : j = 0 ∨ j = 1 := by
            rcases Nat.lt_or_ge j 2 with h | h
            · omega
            · rw [List.getElem?_eq_none (by simpa using h)] at hu; cases hu
          have key := cell_of_row (w2.alloc (.cells #[.string f0, .string f1] 28)) w2.heap.size j #[.string f0, .string f1] 28 (0, 0) (heap_alloc_new w2 _)
          have e2 : Addr.add ⟨w2.heap.size, 0, none⟩ j = ⟨w2.heap.size, j, none⟩ := by unfold Addr.add; rcases hj with rfl | rfl <;> simp
          rw [e2]
          refine key.trans ?_
          rcases hj with rfl | rfl <;> simpa using hu
        case c2 => intro u hu; rcases (by simpa using hu : u = .string f0 ∨ u = .string f1) with rfl | rfl <;> rfl
        case c3 => unfold maxLen; omega
        case c4 => omega
        case c5 => have := hbr.out.size; have := hb0.out.size; simp; omega
        intro v' w' hown' hgr _
        have H2 : Hid (w'.ownsRow w.heap.size 28 2 v' (without (fs.take (k + 1)) names).length (cells (without (fs.take (k + 1)) names))) := Lib.hid (by rw [hsn.out, cells_snoc]; simpa using hown')
        have H3 := Lib.hid (((Base.below_step hbr.out hb0.out).alloc (by have := hbr.out.size; have := hb0.out.size; omega) _).grown hgr (by have := hbr.out.size; have := hb0.out.size; simp; omega) (own_base hown.out))
        clear hown' hgr hown hown0
        go_wp2
        go_roundw
        case rel => exact ⟨k + 1, by omega, by go_num, H2, H3⟩
        case measure => simp [intOf]; omega
    · obtain rfl : k = n := by omega
      have hown1 := hown.out
      rw [List.take_of_length_le (by rw [HL.out]; omega)] at hown1
      obtain ⟨A, c, rfl, hA⟩ := Flds.of_own hown1
      have HA := Lib.hid hA
      have HO := Lib.hid hown1
      clear hown1 hA hown
      go_wp2
      go_ret
      exact ⟨A, _, c, rfl, rfl, HA.out, hbr.out, HO.out⟩
theorem rwithout_any (a : Option Addr) (n cap : Nat) (fs : List Fld) (b : Option Addr) (m cap2 : Nat) (names : List ByteArray) (w : World) (hv : Flds w a n fs) (hu : Strs w b m names) (hn : n ≤ 1000000000) (hm : m ≤ 1000000000)
    (hs : ∀ f ∈ fs, f.1.size ≤ 1000000000) (ht : ∀ s ∈ names, s.size ≤ 1000000000) :
    Calls Tryd.prog 28 #[.slice a n cap, .slice b m cap2] w fun e w' => ∃ d k c, e = .returned (.slice d k c) ∧ k = (without fs names).length ∧ Flds w' d k (without fs names) ∧ Below w.heap.size w w' :=
  (rwithout_own a n cap fs b m cap2 names w hv hu hn hm hs ht).mono (by rintro e w' ⟨d, k, c, h1, h2, h3, h4, -⟩; exact ⟨d, k, c, h1, h2, h3, h4⟩)
end code
end Go.Proofs.YtoackhbkngfhkaaDoor.Txt
