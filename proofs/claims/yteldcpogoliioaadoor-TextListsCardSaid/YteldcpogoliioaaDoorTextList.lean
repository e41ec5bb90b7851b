/-
  Layer 3 (text): what List and Find answer, of every slice of texts and of fields up to a great size.
-/
import Derived.Test.YteldcpogoliioaaDoorTextTrim
import Derived.Test.YteldcpogoliioaaDoorShelf
import Derived.Shelf.Strings.Split
namespace Go.Proofs.YteldcpogoliioaaDoor.Txt
open Go.RowKit Base Oct

theorem field_info : (Tryd.prog.info? 35).map (fun i => (i.zero, i.size, i.bytes)) = some (some (.agg #[.string ByteArray.empty, .string ByteArray.empty]), 2, 32) := by kernel_rfl

/-- How long a list may be, at most, by its texts. -/
def room (vs : List ByteArray) : Nat := (vs.map fun v => v.size + 1).sum
theorem partsOf_le (v : ByteArray) : (partsOf v).length ≤ v.size + 1 := by
  unfold partsOf; rw [List.length_map]; have := parts_le 44 v.data.toList; rwa [len] at this
theorem list_le : ∀ vs : List ByteArray, (list vs).length ≤ room vs
  | [] => by simp [list, room]
  | v :: vs => by
    have h1 := partsOf_le v
    have h2 := list_le vs
    simp only [list, room, List.flatMap_cons, List.length_append, List.map_cons, List.sum_cons] at *
    omega
theorem room_mem : ∀ (vs : List ByteArray) (v : ByteArray), v ∈ vs → v.size + 1 ≤ room vs
  | u :: vs, v, h => by
    rw [room, List.map_cons, List.sum_cons]
    rcases List.mem_cons.1 h with rfl | h
    · omega
    · have := room_mem vs v h; rw [room] at this; omega
theorem len_room : ∀ vs : List ByteArray, vs.length ≤ room vs
  | [] => Nat.zero_le _
  | v :: vs => by have := len_room vs; rw [room] at *; rw [List.map_cons, List.sum_cons, List.length_cons]; omega
theorem partsOf_map (x : ByteArray) : partsOf x = ((parts 44 x.data.toList).map ba).map trim := by rw [partsOf, List.map_map]; rfl
theorem list_take_le (vs : List ByteArray) (k : Nat) : (list (vs.take k)).length ≤ (list vs).length := by
  conv => rhs; rw [← List.take_append_drop k vs]
  unfold list
  rw [List.flatMap_append, List.length_append]; omega
theorem list_snoc (vs : List ByteArray) (k : Nat) (h : k < vs.length) : list (vs.take (k + 1)) = list (vs.take k) ++ partsOf (vs[k]?.getD ByteArray.empty) := by
  rw [strs_snoc vs k h]; unfold list; simp

section code
set_option maxHeartbeats 1000000
theorem split_any (s : ByteArray) (w : World) (hs : s.size < 4294967281) :
    Calls Tryd.prog 32 #[.string s, .string ⟨#[44]⟩] w fun e w' => ∃ n c, e = .returned (.slice (some ⟨w.heap.size, 0, none⟩) n c) ∧ n = (parts 44 s.data.toList).length ∧ Strs w' (some ⟨w.heap.size, 0, none⟩) n ((parts 44 s.data.toList).map ba) ∧ w.heap.size < w'.heap.size ∧ Below w.heap.size w w' := by
  have hle := Lib.countB_le ⟨#[44]⟩ (Nat.le_refl 1) s.size s (Nat.le_refl _)
  have hlen := Lib.splitB_all ⟨#[44]⟩ (Nat.le_refl 1) 0 _ s rfl
  have c := Any.strings_genSplit_core Tryd.lays221 text_info s ⟨#[44]⟩ 0 (-1) (Lib.countB s ⟨#[44]⟩ + 1) w hs (Nat.le_refl 1) (Nat.zero_le _)
    (fun x cs hx => (Tryd.strings_Index_one x 44 _).mono fun e w' ⟨he, hw⟩ => ⟨by rw [he]; congr 2; exact (Lib.index_one _ _).symm, hw⟩)
    ((Tryd.strings_Count_one s 44 w).mono fun e w' ⟨he, hw⟩ => ⟨by rw [he]; congr 3; exact (Lib.count_one _ _).symm, hw⟩)
    (by decide) (by decide) (by rw [if_pos (by decide)]; omega)
  rw [Nat.add_sub_cancel, hlen] at c
  have e2 : Lib.cellsOf (Lib.splitB ⟨#[44]⟩ 0 (Lib.countB s ⟨#[44]⟩) s) (Lib.countB s ⟨#[44]⟩ + 1) = ((Lib.splitB ⟨#[44]⟩ 0 (Lib.countB s ⟨#[44]⟩) s).map Value.string).toArray := by rw [← hlen]; exact Lib.cellsOf_full _
  rw [e2, splitB_parts 44 _ s rfl, countB_parts] at c
  have HC := Lib.hid ((show Calls Tryd.prog 39 #[.string s, .string ⟨#[44]⟩, .int .i64 0, .int .i64 (-1)] w _ from c).mono (R' := fun e w' => ∃ n c, e = .returned (.slice (some ⟨w.heap.size, 0, none⟩) n c) ∧ n = (parts 44 s.data.toList).length ∧ Strs w' (some ⟨w.heap.size, 0, none⟩) n ((parts 44 s.data.toList).map ba) ∧ w.heap.size < w'.heap.size ∧ Below w.heap.size w w') (by
    rintro e w' ⟨rfl, rfl⟩
    exact ⟨_, _, rfl, rfl, Strs.made w _ rfl _ _ _ (by rw [List.length_map]), by simp, (Below.refl _ _).alloc (Nat.le_refl _) _⟩))
  clear c e2 hle hlen
  go_enter Tryd.func32, Tryd.ntmps32
  go_wp2_with (go_at_call 39; with_reducible refine HC.out.mono ?_; rintro e w' ⟨n, c, rfl, rfl, hS, hg, hb⟩)
  go_ret
  exact ⟨_, _, rfl, rfl, hS, hg, hb⟩

theorem list_any (a : Option Addr) (n cap : Nat) (vs : List ByteArray) (w : World) (hv : Strs w a n vs) (hr : room vs ≤ 1000000000) :
    Calls Tryd.prog 18 #[.slice a n cap] w fun e w' => ∃ b m c, e = .returned (.slice b m c) ∧ m = (list vs).length ∧ Strs w' b m (list vs) ∧ Below w.heap.size w w' := by
  have hle := list_le vs
  have hnr := len_room vs
  rw [hv.1] at hnr
  have HV := Lib.hid hv
  have HL := Lib.hid hv.1
  clear hv
  obtain ⟨i0, hi, hz0, hz1, hz2⟩ := info_parts text_info
  have G1 := Lib.hid hi; have G2 := Lib.hid hz0; have G3 := Lib.hid hz1; have G4 := Lib.hid hz2
  clear hi hz0 hz1 hz2
  go_enter Tryd.func18, Tryd.ntmps18
  go_wp2
  go_loopw [3, 10] (fun v i wr => ∃ k : Nat, k ≤ n ∧ i = .int .i64 k ∧ Hid (wr.ownsRow w.heap.size 9 1 v (list (vs.take k)).length ((list (vs.take k)).map Value.string)) ∧ Hid (Below w.heap.size w wr)) (fun _ i _ => n - (intOf i).toNat)
  case atStart => exact ⟨0, Nat.zero_le _, rfl, Lib.hid ⟨rfl, .inl ⟨rfl, rfl⟩⟩, Lib.hid (Below.refl _ _)⟩
  case round =>
    obtain ⟨k, hk, rfl, hown, hbr⟩ := hrel
    rcases Nat.lt_or_ge k n with hlt | hge
    · obtain ⟨bl, off, rfl, _, hc⟩ := (HV.out.below hbr.out).2 (by omega)
      have hck := hc k hlt
      have hsn := Lib.hid (list_snoc vs k (by rw [HL.out]; exact hlt))
      have hle1 := list_take_le vs (k + 1)
      rw [hsn.out, List.length_append] at hle1
      have hsz : (vs[k]?.getD ByteArray.empty).size < 4294967281 := by
        have : k < vs.length := by rw [HL.out]; exact hlt
        rw [List.getElem?_eq_getElem this]
        have h2 : (vs[k].size + 1) ≤ room vs := by
          exact room_mem vs _ (List.getElem_mem _)
        show vs[k].size < _
        omega
      clear hc
      generalize vs[k]?.getD ByteArray.empty = x at *
      have HP := Lib.hid (split_any x wr hsz)
      have hpm := Lib.hid (partsOf_map x)
      have hpl : (partsOf x).length = ((parts 44 x.data.toList).map ba).length := by rw [hpm.out, List.length_map]
      have hp0 : ((parts 44 x.data.toList).map ba).length = (parts 44 x.data.toList).length := List.length_map _
      rw [← hp0] at HP
      have hps := Lib.hid (show ∀ y ∈ (parts 44 x.data.toList).map ba, y.size < 4294967281 from fun y hy => by
        obtain ⟨l, hl, rfl⟩ := List.mem_map.1 hy
        have := parts_size 44 _ l hl
        rw [len] at this
        rw [ba_size]; omega)
      generalize (parts 44 x.data.toList).map ba = P at *
      clear hp0
      generalize list (vs.take k) = L at *
      go_wp2_with (go_at_call 32; with_reducible refine HP.out.mono ?_; rintro e w1 ⟨n1, c1, rfl, hn1, hS, hg1, hb1⟩)
      have hB1 := Lib.hid (Base.below_step hbr.out hb1)
      have hown1 := Lib.hid (own_below hown.out hb1)
      have hS' := Lib.hid hS
      have hne := Lib.hid (show ∀ g, u3.ownBlock = some g → g ≠ wr.heap.size from fun g hg => by have := (hown.out.lt g hg).2; omega)
      generalize wr.heap.size = B at *
      clear hS hb1 HP hown hbr
      go_loopw [3, 17] (fun v i wq => ∃ j : Nat, j ≤ n1 ∧ i = .int .i64 j ∧ w1.heap.size ≤ wq.heap.size ∧ Hid (wq.ownsRow w.heap.size 9 1 v (L.length + j) ((L ++ (P.map trim).take j).map Value.string)) ∧ Hid (Below w.heap.size w wq) ∧ Hid (∀ g, v.ownBlock = some g → g ≠ B) ∧ Hid (Strs wq (some ⟨B, 0, none⟩) n1 P)) (fun _ i _ => n1 - (intOf i).toNat)
      case atStart => exact ⟨0, Nat.zero_le _, rfl, Nat.le_refl _, by rw [List.take_zero, List.append_nil]; exact hown1, hB1, hne, hS'⟩
      case round =>
        obtain ⟨j, hj, rfl, hsz, hown, hbq, hne, hSq⟩ := hrel
        rcases Nat.lt_or_ge j n1 with hlj | hgj
        · obtain ⟨bs, os, e, hbs, hc⟩ := hSq.out.2 (by omega)
          obtain ⟨rfl, rfl⟩ : B = bs ∧ 0 = os := by simpa using e
          have hcj := hc j hlj
          rw [Nat.zero_add] at hcj
          have HS1 := Lib.hid (map_snoc trim ByteArray.empty P j (by omega))
          clear hc e
          have hys : (P[j]?.getD ByteArray.empty).size ≤ maxLen := by
            have : j < P.length := by omega
            rw [List.getElem?_eq_getElem this]
            have := hps.out _ (List.getElem_mem this)
            show P[j].size ≤ _
            unfold maxLen; omega
          generalize P[j]?.getD ByteArray.empty = y at *
          have HT := Lib.hid (fun w => trim_any y w hys)
          clear hys
          go_wp2_with (first
            | (go_at_call 13; with_reducible refine (HT.out _).mono ?_; rintro e w2 ⟨rfl, hw⟩; rw [hw]; clear hw)
            | (at_builtin; (refine wpList_append_own_at _ rfl _ _ 22 rfl w.heap.size 9 i0 (.string ByteArray.empty) 1 16 Tryd.underlying22 G1.out G2.out G3.out G4.out rfl (by decide) _ _ _ rfl (hown.out.alloc _) ⟨wr.heap.size, 0, none⟩ 1 1 [.string (trim y)] rfl rfl ?c1 ?c2 ?c3 ?c4 ?c5 ?_)))
          case c1 => exact news_one wr _ _
          case c2 => intro u hu; obtain rfl : u = .string (trim y) := by simpa using hu
                     rfl
          case c3 => unfold maxLen; omega
          case c4 => omega
          case c5 => have := hbq.out.size; simp; omega
          intro v' w' hown' hgr _ hloc
          have hown2 : w'.ownsRow w.heap.size 9 1 v' (L.length + (j + 1)) ((L ++ (P.map trim).take (j + 1)).map Value.string) := by
            rw [HS1.out]; simpa [List.append_assoc, Nat.add_assoc] using hown'
          have H2 := Lib.hid hown2
          have H3 := Lib.hid ((hbq.out.alloc hbq.out.size _).grown hgr (by have := hbq.out.size; simp; omega) (own_base hown.out))
          have H4 := Lib.hid ((hSq.out.below ((Below.refl _ _).alloc (Nat.le_refl _) _)).grown hgr (fun e => hne.out _ e rfl))
          have H5 := Lib.hid (show ∀ g, v'.ownBlock = some g → g ≠ B from fun g hg => by
            rcases hloc with h | h
            · exact hne.out g (h ▸ hg)
            · rw [h] at hg; cases hg; simp; omega)
          have H6 : w1.heap.size ≤ w'.heap.size := by have := hgr.size; simp at this; omega
          clear hown' hgr hown2 hloc
          go_wp2
          go_roundw
          case rel => exact ⟨j + 1, by omega, by go_num, H6, H2, H3, H5, H4⟩
          case measure => simp [intOf]; omega
        · obtain rfl : j = n1 := by omega
          have hown2 := hown.out
          rw [List.take_of_length_le (by rw [List.length_map]; omega), ← hpm.out] at hown2
          have H2 : Hid (wr.ownsRow w.heap.size 9 1 u3 (L ++ partsOf x).length ((L ++ partsOf x).map Value.string)) := Lib.hid (by rw [List.length_append, hpl]; rw [hn1] at hown2; exact hown2)
          rw [← hsn.out] at H2
          clear hown hown2
          go_wp2
          go_roundw
          case rel => exact ⟨k + 1, by omega, by go_num, H2, hbq⟩
          case measure => simp [intOf]; omega
    · obtain rfl : k = n := by omega
      have hown1 := hown.out
      rw [List.take_of_length_le (by rw [HL.out]; omega)] at hown1
      obtain ⟨A, c, rfl, hA⟩ := Strs.of_own hown1
      have HA := Lib.hid hA
      clear hown1 hA hown
      go_wp2
      go_ret
      exact ⟨A, _, c, rfl, rfl, HA.out, hbr.out⟩
end code
end Go.Proofs.YteldcpogoliioaaDoor.Txt
