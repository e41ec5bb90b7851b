/-
  Layer 3 (text): what Find answers, of every slice of fields up to a great size.
-/
import Derived.Test.YtoackhbkngfhkaaDoorText
namespace Go.Proofs.YtoackhbkngfhkaaDoor.Txt
open Go.RowKit Base Oct

theorem find_snoc (fs : List Fld) (name : ByteArray) (k : Nat) (h : k < fs.length) : find (fs.take (k + 1)) name = find (fs.take k) name ++ (if same (fs[k]?.getD dflt).1 name = true then [(fs[k]?.getD dflt).2] else []) := by
  rw [flds_snoc fs k h]
  unfold find
  rw [List.filter_append, List.map_append]
  congr 1
  generalize fs[k]?.getD dflt = f
  by_cases hs : same f.1 name = true <;> simp [hs]
theorem find_le (fs : List Fld) (name : ByteArray) : (find fs name).length ≤ fs.length := by
  unfold find; rw [List.length_map]; exact List.length_filter_le _ _

section code
set_option maxHeartbeats 1000000
theorem find_any (a : Option Addr) (n cap : Nat) (fs : List Fld) (name : ByteArray) (w : World) (hv : Flds w a n fs) (hn : n ≤ 1000000000) (hs : ∀ f ∈ fs, f.1.size ≤ maxLen) :
    Calls Tryd.prog 21 #[.slice a n cap, .string name] w fun e w' => ∃ b m c, e = .returned (.slice b m c) ∧ m = (find fs name).length ∧ Strs w' b m (find fs name) ∧ Below w.heap.size w w' := by
  have HV := Lib.hid hv
  have HL := Lib.hid hv.1
  have HS := Lib.hid hs
  clear hv hs
  obtain ⟨i0, hi, hz0, hz1, hz2⟩ := info_parts text_info
  have G1 := Lib.hid hi; have G2 := Lib.hid hz0; have G3 := Lib.hid hz1; have G4 := Lib.hid hz2
  clear hi hz0 hz1 hz2
  go_enter Tryd.func21, Tryd.ntmps21
  go_wp2
  go_loopw [5, 10] (fun v i wr => ∃ k : Nat, k ≤ n ∧ i = .int .i64 k ∧ Hid (wr.ownsRow w.heap.size 9 1 v (find (fs.take k) name).length ((find (fs.take k) name).map Value.string)) ∧ Hid (Below w.heap.size w wr)) (fun _ i _ => n - (intOf i).toNat)
  case atStart => exact ⟨0, Nat.zero_le _, rfl, Lib.hid ⟨rfl, .inl ⟨rfl, rfl⟩⟩, Lib.hid (Below.refl _ _)⟩
  case round =>
    obtain ⟨k, hk, rfl, hown, hbr⟩ := hrel
    rcases Nat.lt_or_ge k n with hlt | hge
    · obtain ⟨bl, off, rfl, hbl, hc⟩ := (HV.out.below hbr.out).2 (by omega)
      obtain ⟨hc0, hc1⟩ := hc k hlt
      have hsn := Lib.hid (find_snoc fs name k (by rw [HL.out]; exact hlt))
      have hfl := find_le (fs.take k) name
      rw [List.length_take] at hfl
      have hsz : (fs[k]?.getD dflt).1.size ≤ maxLen := by
        have : k < fs.length := by rw [HL.out]; exact hlt
        rw [List.getElem?_eq_getElem this]
        exact HS.out _ (List.getElem_mem _)
      clear hc
      generalize fs[k]?.getD dflt = f at *
      generalize hL : find (fs.take k) name = L at *
      obtain ⟨f0, f1⟩ := f
      simp only at hc0 hc1 hsz hsn
      have HC := Lib.hid (fun w => same_any f0 name w hsz)
      clear hsz hL
      cases hq : same f0 name with
      | false =>
        rw [hq] at HC hsn
        rw [if_neg (by decide), List.append_nil] at hsn
        clear hq
        go_wp2_with (go_at_call 34; with_reducible refine (HC.out _).mono ?_; rintro e w2 ⟨rfl, hb2⟩)
        have hb0 : Below wr.heap.size wr w2 := Base.below_step ((Below.refl _ _).alloc (Nat.le_refl _) _) hb2
        have H2 : Hid (w2.ownsRow w.heap.size 9 1 u5 (find (fs.take (k + 1)) name).length ((find (fs.take (k + 1)) name).map Value.string)) := Lib.hid (by rw [hsn.out]; exact own_below hown.out hb0)
        have H3 := Lib.hid (Base.below_step hbr.out hb0)
        clear hown hb2 hb0
        go_roundw
        case rel => exact ⟨k + 1, by omega, by go_num, H2, H3⟩
        case measure => simp [intOf]; omega
      | true =>
        rw [hq] at HC hsn
        rw [if_pos rfl] at hsn
        clear hq
        go_wp2_with (first
          | (go_at_call 34; with_reducible refine (HC.out _).mono ?_; rintro e w2 ⟨rfl, hb2⟩
             have hf1 := (hb2.cell (p := ⟨wr.heap.size, 1, none⟩) (by simp)).trans (show _ = some (.string f1) by simp)
             have hb0 := Lib.hid (show Below wr.heap.size wr w2 from Base.below_step ((Below.refl _ _).alloc (Nat.le_refl _) _) hb2)
             have hown0 := Lib.hid (own_below hown.out hb0.out))
          | (at_builtin; refine wpList_append_own _ rfl _ _ 26 rfl w.heap.size 9 i0 (.string ByteArray.empty) 1 16 Tryd.underlying26 G1.out G2.out G3.out G4.out rfl (by decide) _ _ _ rfl (hown0.out.alloc _) ⟨w2.heap.size, 0, none⟩ 1 1 [.string f1] rfl rfl ?c1 ?c2 ?c3 ?c4 ?c5 ?_))
        case c1 => exact news_one w2 _ _
        case c2 => intro u hu; obtain rfl : u = .string f1 := by simpa using hu
                   rfl
        case c3 => unfold maxLen; omega
        case c4 => omega
        case c5 => have := hbr.out.size; have := hb0.out.size; simp; omega
        intro v' w' hown' hgr _
        have H2 : Hid (w'.ownsRow w.heap.size 9 1 v' (find (fs.take (k + 1)) name).length ((find (fs.take (k + 1)) name).map Value.string)) := Lib.hid (by rw [hsn.out]; simpa using hown')
        have H3 := Lib.hid (((Base.below_step hbr.out hb0.out).alloc (by have := hbr.out.size; have := hb0.out.size; omega) _).grown hgr (by have := hbr.out.size; have := hb0.out.size; simp; omega) (own_base hown.out))
        clear hown' hgr hown hown0
        go_wp2
        go_roundw
        case rel => exact ⟨k + 1, by omega, by go_num, H2, H3⟩
        case measure => simp [intOf]; omega
    · obtain rfl : k = n := by omega
      have hown1 := hown.out
      rw [List.take_of_length_le (by rw [HL.out]; omega)] at hown1
      obtain ⟨A, c, rfl, hA⟩ := Strs.of_own hown1
      have HA := Lib.hid hA
      clear hown1 hA hown
      go_wp2
      go_ret
      exact ⟨A, _, c, rfl, rfl, HA.out, hbr.out⟩
end code
end Go.Proofs.YtoackhbkngfhkaaDoor.Txt
