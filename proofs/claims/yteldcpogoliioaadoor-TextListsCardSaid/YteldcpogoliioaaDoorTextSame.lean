/-
  Layer 3 (text): whether two slices of fields, two of texts, are alike: package text's Fields, and the document's Fields and Strings.
-/
import Derived.Test.YteldcpogoliioaaDoorTextList
namespace Go.Proofs.YteldcpogoliioaaDoor.Txt
open Go.RowKit Base Oct

theorem ba_beq (a b : ByteArray) : (a.toList == b.toList) = decide (a = b) := by
  rw [Lib.toList_data, Lib.toList_data, Bool.eq_iff_iff, beq_iff_eq, decide_eq_true_eq]
  exact ⟨ba_ext, fun h => by rw [h]⟩
theorem toList_iff (a b : ByteArray) : a.toList = b.toList ↔ a = b := by
  rw [Lib.toList_data, Lib.toList_data]
  exact ⟨ba_ext, fun h => by rw [h]⟩
theorem take_eq_snoc {α : Type} (d : α) (xs ys : List α) (k : Nat) (hx : k < xs.length) (hy : k < ys.length) (h : xs.take k = ys.take k) (e : xs[k]?.getD d = ys[k]?.getD d) : xs.take (k + 1) = ys.take (k + 1) := by
  rw [List.take_succ_eq_append_getElem hx, List.take_succ_eq_append_getElem hy, h]
  rw [List.getElem?_eq_getElem hx, List.getElem?_eq_getElem hy] at e
  congr 2
theorem ne_of_at {α : Type} (d : α) (xs ys : List α) (k : Nat) (e : ¬ xs[k]?.getD d = ys[k]?.getD d) : xs ≠ ys := fun h => e (by rw [h])

theorem neq_field (x y : Fld) (w : World) : (binOp .neq 35 (.agg #[.string x.1, .string x.2]) (.agg #[.string y.1, .string y.2])).run Tryd.prog w = .ok (.bool (!decide (x = y))) w := by
  have u9 := Tryd.underlying9
  have a9 := Tryd.isAgg9
  have z9 := Tryd.sizeOf9
  have hS : Tryd.prog.underlying 35 = some (.struct (Tryd.prog.fieldsOf 35)) := by kernel_rfl
  have hp : Tryd.prog.stoodInHeld 35 = false := by kernel_rfl
  obtain ⟨x1, x2⟩ := x
  obtain ⟨y1, y2⟩ := y
  rw [run_neq_struct, show (10000 : Nat) = 9999 + 1 from rfl, run_equalIn_agg w 9999 35 _ _ hS hp]
  simp only [Program.fieldsOf, Tryd.underlying35]
  go_simp
  by_cases h1 : x1 = y1 <;> by_cases h2 : x2 = y2 <;> simp [h1, h2, toList_iff]
theorem guard_field (op : BinOp) (a b : Operand) (x y : Fld) (w : World) : (eqGuard op 35 a b (.agg #[.string x.1, .string x.2]) (.agg #[.string y.1, .string y.2])).run Tryd.prog w = .ok () w :=
  run_eqGuard_agg w op 35 a b _ _ (by kernel_rfl)

section code
set_option maxHeartbeats 1000000
theorem equal_any (a : Option Addr) (n cap : Nat) (xs : List Fld) (b : Option Addr) (m cap2 : Nat) (ys : List Fld) (w : World) (hx : Flds w a n xs) (hy : Flds w b m ys) (hn : n ≤ 1000000000) (hm : m ≤ 1000000000) :
    Calls Tryd.prog 38 #[.slice a n cap, .slice b m cap2] w fun e w' => e = .returned (.bool (decide (xs = ys))) ∧ ∃ q, w' = w.drewN q := by
  have HX := Lib.hid hx; have HY := Lib.hid hy
  have HLX := Lib.hid hx.1; have HLY := Lib.hid hy.1
  clear hx hy
  by_cases hl : n = m
  · subst hl
    go_enter Tryd.func38, Tryd.ntmps38
    go_wp2
    go_loopw [13] (fun i wr => ∃ k q : Nat, k ≤ n ∧ i = .int .i64 k ∧ wr = w.drewN q ∧ Hid (xs.take k = ys.take k)) (fun i _ => n - (intOf i).toNat)
    case atStart => exact ⟨0, 0, Nat.zero_le _, rfl, rfl, Lib.hid rfl⟩
    case round =>
      obtain ⟨k, q, hk, rfl, rfl, hsm⟩ := hrel
      rcases Nat.lt_or_ge k n with hlt | hge
      · obtain ⟨b1, o1, rfl, _, hc⟩ := HX.out.2 (by omega)
        obtain ⟨hc0, hc1⟩ := hc k hlt
        clear hc
        obtain ⟨b2, o2, rfl, _, hd⟩ := HY.out.2 (by omega)
        obtain ⟨hd0, hd1⟩ := hd k hlt
        clear hd
        have i1 : (k : Int) < (n : Int) := by omega
        have hnq := neq_field (xs[k]?.getD dflt) (ys[k]?.getD dflt)
        have hgd := fun op a b => guard_field op a b (xs[k]?.getD dflt) (ys[k]?.getD dflt)
        by_cases he : xs[k]?.getD dflt = ys[k]?.getD dflt
        · have hT := Lib.hid (take_eq_snoc dflt xs ys k (by rw [HLX.out]; exact hlt) (by rw [HLY.out]; exact hlt) hsm.out he)
          rw [he, decide_eq_true rfl] at hnq
          rw [he] at hgd hc0 hc1
          clear he
          generalize (ys[k]?.getD dflt) = y at *
          go_wp2_with fail
          go_quiet (fail)
          rename_i nq
          go_wp2
          go_roundw
          case rel => first | exact ⟨k + 1, q + nq, by omega, by go_num, (World.drewN_drewN _ _ _).symm ▸ rfl, hT⟩ | exact ⟨k + 1, q + nq, by omega, by go_num, by rw [World.drewN_drewN], hT⟩ | exact ⟨k + 1, q + nq, by omega, by go_num, rfl, hT⟩
          case measure => simp [intOf]; omega
        · rw [decide_eq_false he] at hnq
          have hF := Lib.hid (ne_of_at dflt xs ys k he)
          clear he
          generalize (xs[k]?.getD dflt) = x at *
          generalize (ys[k]?.getD dflt) = y at *
          go_wp2_with fail
          go_quiet (fail)
          rename_i nq
          go_wp2
          go_ret
          refine ⟨by rw [decide_eq_false hF.out]; rfl, q + nq, ?_⟩
          first | rfl | rw [World.drewN_drewN]
      · obtain rfl : k = n := by omega
        go_wp2
        go_ret
        have e := hsm.out
        rw [List.take_of_length_le (by rw [HLX.out]; exact Nat.le_refl _), List.take_of_length_le (by rw [HLY.out]; exact Nat.le_refl _)] at e
        refine ⟨by rw [decide_eq_true e]; rfl, q, rfl⟩
  · have hne : xs ≠ ys := fun h => hl (by rw [← HLX.out, ← HLY.out, h])
    have hl' : ¬ (n : Int) = (m : Int) := by omega
    have HN := Lib.hid hne
    clear hne
    go_enter Tryd.func38, Tryd.ntmps38
    go_wp2
    go_ret
    exact ⟨by rw [decide_eq_false HN.out]; rfl, 0, rfl⟩

theorem rfields_any (a : Option Addr) (n cap : Nat) (xs : List Fld) (b : Option Addr) (m cap2 : Nat) (ys : List Fld) (w : World) (hx : Flds w a n xs) (hy : Flds w b m ys) (hn : n ≤ 1000000000) (hm : m ≤ 1000000000) :
    Calls Tryd.prog 23 #[.slice a n cap, .slice b m cap2] w fun e w' => e = .returned (.bool (decide (xs = ys))) ∧ ∃ q, w' = w.drewN q := by
  have HX := Lib.hid hx; have HY := Lib.hid hy
  have HLX := Lib.hid hx.1; have HLY := Lib.hid hy.1
  clear hx hy
  by_cases hl : n = m
  · subst hl
    go_enter Tryd.func23, Tryd.ntmps23
    go_wp2
    go_loopw [5] (fun i wr => ∃ k q : Nat, k ≤ n ∧ i = .int .i64 k ∧ wr = w.drewN q ∧ Hid (xs.take k = ys.take k)) (fun i _ => n - (intOf i).toNat)
    case atStart => exact ⟨0, 0, Nat.zero_le _, rfl, rfl, Lib.hid rfl⟩
    case round =>
      obtain ⟨k, q, hk, rfl, rfl, hsm⟩ := hrel
      rcases Nat.lt_or_ge k n with hlt | hge
      · obtain ⟨b1, o1, rfl, _, hc⟩ := HX.out.2 (by omega)
        obtain ⟨hc0, hc1⟩ := hc k hlt
        clear hc
        obtain ⟨b2, o2, rfl, _, hd⟩ := HY.out.2 (by omega)
        obtain ⟨hd0, hd1⟩ := hd k hlt
        clear hd
        have i1 : (k : Int) < (n : Int) := by omega
        have hnq := neq_field (xs[k]?.getD dflt) (ys[k]?.getD dflt)
        have hgd := fun op a b => guard_field op a b (xs[k]?.getD dflt) (ys[k]?.getD dflt)
        by_cases he : xs[k]?.getD dflt = ys[k]?.getD dflt
        · have hT := Lib.hid (take_eq_snoc dflt xs ys k (by rw [HLX.out]; exact hlt) (by rw [HLY.out]; exact hlt) hsm.out he)
          rw [he, decide_eq_true rfl] at hnq
          rw [he] at hgd hc0 hc1
          clear he
          generalize (ys[k]?.getD dflt) = y at *
          go_wp2_with fail
          go_quiet (fail)
          rename_i nq
          go_wp2
          go_roundw
          case rel => first | exact ⟨k + 1, q + nq, by omega, by go_num, (World.drewN_drewN _ _ _).symm ▸ rfl, hT⟩ | exact ⟨k + 1, q + nq, by omega, by go_num, by rw [World.drewN_drewN], hT⟩ | exact ⟨k + 1, q + nq, by omega, by go_num, rfl, hT⟩
          case measure => simp [intOf]; omega
        · rw [decide_eq_false he] at hnq
          have hF := Lib.hid (ne_of_at dflt xs ys k he)
          clear he
          generalize (xs[k]?.getD dflt) = x at *
          generalize (ys[k]?.getD dflt) = y at *
          go_wp2_with fail
          go_quiet (fail)
          rename_i nq
          go_wp2
          go_ret
          refine ⟨by rw [decide_eq_false hF.out]; rfl, q + nq, ?_⟩
          first | rfl | rw [World.drewN_drewN]
      · obtain rfl : k = n := by omega
        go_wp2
        go_ret
        have e := hsm.out
        rw [List.take_of_length_le (by rw [HLX.out]; exact Nat.le_refl _), List.take_of_length_le (by rw [HLY.out]; exact Nat.le_refl _)] at e
        refine ⟨by rw [decide_eq_true e]; rfl, q, rfl⟩
  · have hne : xs ≠ ys := fun h => hl (by rw [← HLX.out, ← HLY.out, h])
    have hl' : ¬ (n : Int) = (m : Int) := by omega
    have HN := Lib.hid hne
    clear hne
    go_enter Tryd.func23, Tryd.ntmps23
    go_wp2
    go_ret
    exact ⟨by rw [decide_eq_false HN.out]; rfl, 0, rfl⟩

theorem rstrings_any (a : Option Addr) (n cap : Nat) (xs : List ByteArray) (b : Option Addr) (m cap2 : Nat) (ys : List ByteArray) (w : World) (hx : Strs w a n xs) (hy : Strs w b m ys) (hn : n ≤ 1000000000) (hm : m ≤ 1000000000) :
    Calls Tryd.prog 17 #[.slice a n cap, .slice b m cap2] w fun e w' => e = .returned (.bool (decide (xs = ys))) ∧ ∃ q, w' = w.drewN q := by
  have HX := Lib.hid hx; have HY := Lib.hid hy
  have HLX := Lib.hid hx.1; have HLY := Lib.hid hy.1
  clear hx hy
  by_cases hl : n = m
  · subst hl
    go_enter Tryd.func17, Tryd.ntmps17
    go_wp2
    go_loopw [5] (fun i wr => ∃ k q : Nat, k ≤ n ∧ i = .int .i64 k ∧ wr = w.drewN q ∧ Hid (xs.take k = ys.take k)) (fun i _ => n - (intOf i).toNat)
    case atStart => exact ⟨0, 0, Nat.zero_le _, rfl, rfl, Lib.hid rfl⟩
    case round =>
      obtain ⟨k, q, hk, rfl, rfl, hsm⟩ := hrel
      rcases Nat.lt_or_ge k n with hlt | hge
      · obtain ⟨b1, o1, rfl, _, hc⟩ := HX.out.2 (by omega)
        have hc0 := hc k hlt
        clear hc
        obtain ⟨b2, o2, rfl, _, hd⟩ := HY.out.2 (by omega)
        have hd0 := hd k hlt
        clear hd
        have i1 : (k : Int) < (n : Int) := by omega
        by_cases he : xs[k]?.getD ByteArray.empty = ys[k]?.getD ByteArray.empty
        · have hT := Lib.hid (take_eq_snoc ByteArray.empty xs ys k (by rw [HLX.out]; exact hlt) (by rw [HLY.out]; exact hlt) hsm.out he)
          rw [he] at hc0
          clear he
          generalize (ys[k]?.getD ByteArray.empty) = y at *
          go_wp2_with fail
          go_quiet (fail)
          rename_i nq
          go_wp2
          go_roundw
          case rel => first | exact ⟨k + 1, q + nq, by omega, by go_num, (World.drewN_drewN _ _ _).symm ▸ rfl, hT⟩ | exact ⟨k + 1, q + nq, by omega, by go_num, by rw [World.drewN_drewN], hT⟩ | exact ⟨k + 1, q + nq, by omega, by go_num, rfl, hT⟩
          case measure => simp [intOf]; omega
        · have hF := Lib.hid (ne_of_at ByteArray.empty xs ys k he)
          generalize (xs[k]?.getD ByteArray.empty) = x at *
          generalize (ys[k]?.getD ByteArray.empty) = y at *
          have he2 : ¬ x.toList = y.toList := fun h => he ((toList_iff x y).1 h)
          have he3 : (x.toList == y.toList) = false := by simpa using he2
          go_wp2_with fail
          go_quiet (fail)
          rename_i nq
          go_wp2
          go_ret
          refine ⟨by rw [decide_eq_false hF.out]; rfl, q + nq, ?_⟩
          first | rfl | rw [World.drewN_drewN]
      · obtain rfl : k = n := by omega
        go_wp2
        go_ret
        have e := hsm.out
        rw [List.take_of_length_le (by rw [HLX.out]; exact Nat.le_refl _), List.take_of_length_le (by rw [HLY.out]; exact Nat.le_refl _)] at e
        refine ⟨by rw [decide_eq_true e]; rfl, q, rfl⟩
  · have hne : xs ≠ ys := fun h => hl (by rw [← HLX.out, ← HLY.out, h])
    have hl' : ¬ (n : Int) = (m : Int) := by omega
    have HN := Lib.hid hne
    clear hne
    go_enter Tryd.func17, Tryd.ntmps17
    go_wp2
    go_ret
    exact ⟨by rw [decide_eq_false HN.out]; rfl, 0, rfl⟩

theorem fields_any (a : Option Addr) (n cap : Nat) (xs : List Fld) (b : Option Addr) (m cap2 : Nat) (ys : List Fld) (w : World) (hx : Flds w a n xs) (hy : Flds w b m ys) (hn : n ≤ 1000000000) (hm : m ≤ 1000000000) :
    Calls Tryd.prog 26 #[.slice a n cap, .slice b m cap2] w fun e w' => e = .returned (.bool (decide (xs = ys))) ∧ ∃ q, w' = w.drewN q := by
  have h := Lib.hid (equal_any a n cap xs b m cap2 ys w hx hy hn hm)
  clear hx hy
  generalize decide (xs = ys) = r at *
  go_enter Tryd.func26, Tryd.ntmps26
  go_wp2_with (go_at_call 38; with_reducible refine h.out.mono ?_; rintro e w2 ⟨rfl, q, rfl⟩)
  go_ret
  exact ⟨rfl, q, rfl⟩
end code
end Go.Proofs.YteldcpogoliioaaDoor.Txt
