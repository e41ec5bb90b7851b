/-
  Layer 3 (text): what Without answers, of every slice of fields and of names up to a great size.
-/
import Derived.Test.YtoackhbkngfhkaaDoorTextGone
import Derived.Test.YtoackhbkngfhkaaDoorBase
import Derived.Lib.SliceRun
import Derived.Lib.LazyBuf
namespace Go.Proofs.YtoackhbkngfhkaaDoor.Txt
open Go.RowKit Base Oct Go.Maps

section
variable {w : World} {base size g n cap : Nat} {e : TypeId} {xs : List Value} {v : Value}
/-- A row that the call owns: a part of it from its start. -/
theorem own_cut (h : w.ownsRow base e size (.slice (some ⟨g, 0, none⟩) n cap) n xs) (k : Nat) (hk : k ≤ n) : w.ownsRow base e size (.slice (some ⟨g, 0, none⟩) k cap) k (xs.take (k * size)) := by
  have hle : k * size ≤ n * size := Nat.mul_le_mul_right _ hk
  rcases h.2 with ⟨h', _⟩ | ⟨g', cap', cur, h', hb, hg, hnc, hcm, hcs, htake⟩
  · cases h'
  · simp only [Value.slice.injEq, Option.some.injEq, Addr.mk.injEq, and_true, true_and] at h'
    obtain ⟨rfl, rfl⟩ := h'
    exact ⟨by rw [List.length_take, h.1]; omega, .inr ⟨g, cap, cur, rfl, hb, hg, by omega, hcm, hcs, by rw [← htake, List.take_take, Nat.min_eq_left hle]⟩⟩
/-- Cells behind a row that the call owns are written: it stays. -/
theorem own_sets : ∀ (vs : List Value) (o : Nat) (w : World), n * size ≤ o → w.ownsRow base e size (.slice (some ⟨g, 0, none⟩) n cap) n xs → (w.setCells g o vs).ownsRow base e size (.slice (some ⟨g, 0, none⟩) n cap) n xs
  | [], _, _, _, h => h
  | u :: r, o, w, ho, h => by
    have h1 := (h.stored o u).1
    rw [List.set_eq_of_length_le (by rw [h.1]; exact ho)] at h1
    exact own_sets r (o + 1) _ (by omega) h1
theorem own_lower (h : w.ownsRow base e size v n xs) {base' : Nat} (hb : base' ≤ base) : w.ownsRow base' e size v n xs := by
  refine ⟨h.1, h.2.imp_right ?_⟩
  rintro ⟨g, cap, cur, e1, h1, h2⟩
  exact ⟨g, cap, cur, e1, Nat.le_trans hb h1, h2⟩
end
theorem cells_take (R : List Fld) (k : Nat) : (cells R).take (k * 2) = cells (R.take k) := by
  rcases Nat.le_total k R.length with h | h
  · conv => lhs; rw [← List.take_append_drop k R, cells_append]
    rw [List.take_left' (by rw [cells_length, List.length_take]; omega)]
  · rw [List.take_of_length_le (by rw [cells_length]; omega), List.take_of_length_le h]

/-- What a function value answers of fields, in every world that bears what w0 bore; it writes nothing that was there. -/
def Asks (g : Nat) (lb : Array Value) (p : Fld → Bool) (fs : List Fld) (w0 : World) : Prop :=
  ∀ (W : World) (x : Fld), x ∈ fs → Below w0.heap.size w0 W → Calls Tryd.prog g (#[.agg #[.string x.1, .string x.2]] ++ lb) W fun e w' => e = .returned (.bool (p x)) ∧ Below W.heap.size W w'

theorem clear_rows (w : World) (b I n cap : Nat) (hn : 0 < n) (hc : ∀ j, j < n * 2 → (w.cell? ⟨b, I * 2 + j, none⟩).isSome = true) (hf : ∀ j, j < n * 2 → w.frozen? ⟨b, I * 2 + j, none⟩ = false) :
    ∃ vs, ∀ ty, (Builtin.clear_ #[22] ty #[.slice (some ⟨b, I * 2, none⟩) n cap]).run Tryd.prog w = .ok (.tuple #[]) (w.setCells b (I * 2) vs) := by
  have hz : ∀ w, (zeroValue 28).run Tryd.prog w = .ok (.agg #[.string ByteArray.empty, .string ByteArray.empty]) w := fun w => by kernel_rfl
  have hzc : (Value.agg #[.string ByteArray.empty, .string ByteArray.empty]).cells = #[.string ByteArray.empty, .string ByteArray.empty] := rfl
  refine ⟨(Builtin.zeroCells #[.string ByteArray.empty, .string ByteArray.empty] n).toList, fun ty => ?_⟩
  have hl : (Builtin.zeroCells #[.string ByteArray.empty, .string ByteArray.empty] n).toList.length = n * 2 := by simp [Builtin.zeroCells]
  have hst := run_storeCells_cells (P := Tryd.prog) b (I * 2) (Builtin.zeroCells #[.string ByteArray.empty, .string ByteArray.empty] n).toList 0 w (by rw [hl]; simpa using hc) (by rw [hl]; simpa using hf) (by
    intro v hv
    simp only [Builtin.zeroCells, Array.toList_map, List.mem_map] at hv
    obtain ⟨i, _, rfl⟩ := hv
    have : i % 2 = 0 ∨ i % 2 = 1 := by omega
    rcases this with h | h <;> simp [h, Value.oneCell'])
  simp only [Nat.add_zero] at hst
  obtain ⟨m, rfl⟩ : ∃ m, n = m + 1 := ⟨n - 1, by omega⟩
  simp [Builtin.clear_, run_underlying Tryd.underlying22, hz, hzc, hst]

theorem cells_set (R : List Fld) (i : Nat) (f : Fld) (h : i < R.length) : ((cells R).set (i * 2) (.string f.1)).set (i * 2 + 1) (.string f.2) = cells (R.set i f) := by
  have e : R = R.take i ++ R[i] :: R.drop (i + 1) := by
    conv => lhs; rw [← List.take_append_drop i R, List.drop_eq_getElem_cons h]
  have hl : (cells (R.take i)).length = i * 2 := by rw [cells_length, List.length_take]; omega
  have e1 : cells R = cells (R.take i) ++ (.string R[i].1 :: .string R[i].2 :: cells (R.drop (i + 1))) := by
    conv => lhs; rw [e, cells_append]
    rfl
  have e2 : cells (R.set i f) = cells (R.take i) ++ (.string f.1 :: .string f.2 :: cells (R.drop (i + 1))) := by
    rw [List.set_eq_take_append_cons_drop, if_pos h, cells_append]; rfl
  rw [e1, e2, List.set_append_right _ _ (by omega), List.set_append_right _ _ (by omega), hl]
  rw [show i * 2 - i * 2 = 0 by omega, show i * 2 + 1 - i * 2 = 1 by omega]
  rfl

section code
set_option maxHeartbeats 1000000
theorem indexFunc_any (g : Nat) (lb : Array Value) (eg : ∀ args w, (callFunc g args).run Tryd.prog w = .ok (.enter g args) w) (p : Fld → Bool) (a : Option Addr) (n cap : Nat) (fs : List Fld) (w0 w : World)
    (hp : Asks g lb p fs w0) (hv : Flds w a n fs) (hn : n ≤ 1000000000) (hb0 : Below w0.heap.size w0 w) :
    Calls Tryd.prog 47 #[.slice a n cap, .func (.func g) #[] lb] w fun e w' =>
      (∃ r : Int, e = .returned (.int .i64 r) ∧ ((r = -1 ∧ ∀ x ∈ fs, p x = false) ∨ ∃ i : Nat, r = i ∧ i < n ∧ (∀ x ∈ fs.take i, p x = false) ∧ p (fs[i]?.getD dflt) = true)) ∧ Below w.heap.size w w' := by
  have HV := Lib.hid hv
  have HL := Lib.hid hv.1
  have HP := Lib.hid hp
  have HB0 := Lib.hid hb0
  clear hv hp hb0
  go_enter Tryd.func47, Tryd.ntmps47
  go_wp2
  go_loopw [8] (fun i wr => ∃ k : Nat, k ≤ n ∧ i = .int .i64 k ∧ Hid (∀ x ∈ fs.take k, p x = false) ∧ Hid (Below w.heap.size w wr)) (fun i _ => n - (intOf i).toNat)
  case atStart => exact ⟨0, Nat.zero_le _, rfl, Lib.hid (by simp), Lib.hid (Below.refl _ _)⟩
  case round =>
    obtain ⟨k, hk, rfl, hno, hbr⟩ := hrel
    rcases Nat.lt_or_ge k n with hlt | hge
    · obtain ⟨bl, off, rfl, hbl, hc⟩ := (HV.out.below hbr.out).2 (by omega)
      obtain ⟨hc0, hc1⟩ := hc k hlt
      have hkl : k < fs.length := by rw [HL.out]; exact hlt
      have hsn := Lib.hid (flds_snoc fs k hkl)
      have hmem : fs[k]?.getD dflt ∈ fs := by rw [List.getElem?_eq_getElem hkl]; exact List.getElem_mem _
      have HC := Lib.hid (fun W hW => HP.out W _ hmem hW)
      clear hc hkl hmem
      generalize hf : fs[k]?.getD dflt = f at *
      have HF := Lib.hid hf
      clear hf
      obtain ⟨f0, f1⟩ := f
      simp only at hc0 hc1
      have hbw := Lib.hid (Base.below_step HB0.out (hbr.out.mono (Nat.le_refl _)))
      cases hq : p (f0, f1) with
      | true =>
        rw [hq] at HC
        have HQ := Lib.hid hq
        clear hq
        go_wp2_with (go_at_fn g; with_reducible refine (HC.out _ ?_).mono ?_; (repeat (first | exact hbw.out | with_reducible refine Base.below_drewN ?_ _)); rintro e w2 ⟨rfl, hb2⟩)
        go_ret
        exact ⟨⟨k, rfl, .inr ⟨k, rfl, hlt, hno.out, by rw [HF.out]; exact HQ.out⟩⟩, Base.below_step hbr.out hb2⟩
      | false =>
        rw [hq] at HC
        have HQ := Lib.hid hq
        clear hq
        go_wp2_with (go_at_fn g; with_reducible refine (HC.out _ ?_).mono ?_; (repeat (first | exact hbw.out | with_reducible refine Base.below_drewN ?_ _)); rintro e w2 ⟨rfl, hb2⟩)
        go_roundw
        case rel =>
          refine ⟨k + 1, by omega, by go_num, Lib.hid ?_, Lib.hid (Base.below_step hbr.out hb2)⟩
          rw [hsn.out]
          intro x hx
          rcases List.mem_append.1 hx with hx | hx
          · exact hno.out x hx
          · obtain rfl : x = (f0, f1) := by simpa using hx
            exact HQ.out
        case measure => simp [intOf]; omega
    · obtain rfl : k = n := by omega
      have hno' := hno.out
      rw [List.take_of_length_le (by rw [HL.out]; omega)] at hno'
      have HN := Lib.hid hno'
      clear hno'
      go_wp2
      go_ret
      exact ⟨⟨-1, rfl, .inl ⟨rfl, HN.out⟩⟩, hbr.out⟩

theorem deleteFunc_nil (g : Nat) (lb : Array Value) (eg : ∀ args w, (callFunc g args).run Tryd.prog w = .ok (.enter g args) w) (p : Fld → Bool) (w0 w : World) (hp : Asks g lb p [] w0) (hb0 : Below w0.heap.size w0 w) :
    Calls Tryd.prog 36 #[.slice none 0 0, .func (.func g) #[] lb] w fun e w' => e = .returned (.slice none 0 0) ∧ Below w.heap.size w w' := by
  have HI := Lib.hid ((indexFunc_any g lb eg p none 0 0 [] w0 w hp (Flds.nil _ _) (by omega) hb0).mono (R' := fun e w' => e = .returned (.int .i64 (-1)) ∧ Below w.heap.size w w') (by
    rintro e w' ⟨⟨r, rfl, (⟨rfl, _⟩ | ⟨i, _, hi, _⟩)⟩, hb⟩
    · exact ⟨rfl, hb⟩
    · omega))
  clear hp hb0 eg
  go_enter Tryd.func36, Tryd.ntmps36
  go_wp2_with (go_at_call 47; with_reducible refine HI.out.mono ?_; rintro e w2 ⟨rfl, hb2⟩)
  go_ret
  exact ⟨rfl, hb2⟩

theorem filter_snoc (p : Fld → Bool) (fs : List Fld) (j : Nat) (h : j < fs.length) : (fs.take (j + 1)).filter (fun f => !p f) = (fs.take j).filter (fun f => !p f) ++ (if p (fs[j]?.getD dflt) = true then [] else [fs[j]?.getD dflt]) := by
  rw [flds_snoc fs j h, List.filter_append]
  congr 1
  generalize fs[j]?.getD dflt = f
  by_cases hs : p f = true <;> simp [hs]

set_option maxRecDepth 10000 in
theorem deleteFunc_any (g : Nat) (lb : Array Value) (eg : ∀ args w, (callFunc g args).run Tryd.prog w = .ok (.enter g args) w) (p : Fld → Bool) (r n cap : Nat) (fs : List Fld) (w0 w : World)
    (hp : Asks g lb p fs w0) (hv : w.ownsRow w0.heap.size 28 2 (.slice (some ⟨r, 0, none⟩) n cap) n (cells fs)) (h0 : 0 < n) (hn : n ≤ 1000000000) (hb0 : Below w0.heap.size w0 w) :
    Calls Tryd.prog 36 #[.slice (some ⟨r, 0, none⟩) n cap, .func (.func g) #[] lb] w fun e w' =>
      ∃ m, e = .returned (.slice (some ⟨r, 0, none⟩) m cap) ∧ m = (fs.filter fun f => !p f).length ∧ Flds w' (some ⟨r, 0, none⟩) m (fs.filter fun f => !p f) ∧ Below w0.heap.size w0 w' ∧ w'.ownsRow w0.heap.size 28 2 (.slice (some ⟨r, 0, none⟩) m cap) m (cells (fs.filter fun f => !p f)) := by
  have hl : fs.length = n := by have := hv.1; rw [cells_length] at this; omega
  obtain ⟨hr0, hr1⟩ := hv.lt r rfl
  have hcap : n ≤ cap := by
    rcases hv.2 with ⟨h, _⟩ | ⟨_, c, _, h, _, _, hh, _⟩
    · cases h
    · cases h; exact hh
  have hF : Flds w (some ⟨r, 0, none⟩) n fs := Flds.of_cells hl hr1 fun j hj => hv.cellAt j hj
  have HI := Lib.hid (indexFunc_any g lb eg p (some ⟨r, 0, none⟩) n cap fs w0 w hp hF hn hb0)
  have HV := Lib.hid hv
  have HL := Lib.hid hl
  have HP := Lib.hid hp
  have HB0 := Lib.hid hb0
  clear hv hl hp hb0 hF
  go_enter Tryd.func36, Tryd.ntmps36
  go_wp2_with (go_at_call 47; with_reducible refine HI.out.mono ?_; rintro e w1 ⟨⟨x, rfl, hx⟩, hb1⟩)
  · have hxe : (x == -1) = true := by assumption
    rcases hx with ⟨rfl, hall⟩ | ⟨i, rfl, _, _, _⟩
    · have hff : fs.filter (fun f => !p f) = fs := List.filter_eq_self.2 fun f hf => by rw [hall f hf]; rfl
      go_ret
      have ho := own_below HV.out hb1
      refine ⟨n, rfl, by rw [hff, HL.out], ?_, Base.below_step HB0.out hb1, by rw [hff]; exact ho⟩
      rw [hff]
      exact Flds.of_cells HL.out (ho.lt r rfl).2 fun j hj => ho.cellAt j hj
    · exact absurd (beq_iff_eq.1 hxe) (by omega)
  · have hxe : (x == -1) = false := by assumption
    rcases hx with ⟨rfl, _⟩ | ⟨I0, rfl, hI0, hno, hyes⟩
    · cases hxe
    have hB1 := Lib.hid (Base.below_step HB0.out hb1)
    have hO1 := Lib.hid (own_below HV.out hb1)
    have hI1 := Lib.hid (show (fs.take (I0 + 1)).filter (fun f => !p f) = fs.take I0 from by
      rw [filter_snoc p fs I0 (by rw [HL.out]; exact hI0), if_pos hyes, List.append_nil]
      exact List.filter_eq_self.2 fun f hf => by rw [hno f hf]; rfl)
    clear hb1 hno hyes hxe HI
    have e1 : wrap64 ((I0 : Int) + 1) = (I0 : Int) + 1 := by unfold wrap64; omega
    have e3 : ((I0 : Int) == -1) = false := beq_eq_false_iff_ne.2 (by omega)
    rw [e3]
    go_wp2
    rw [e1]
    clear e1 e3
    go_loopw [5, 6] (fun i j wr => ∃ (I J : Nat) (R : List Fld), i = .int .i64 I ∧ j = .int .i64 J ∧ J ≤ n ∧ I < J ∧ Hid (R.length = n) ∧ Hid (R.take I = (fs.take J).filter (fun f => !p f)) ∧ Hid (R.drop J = fs.drop J) ∧
      Hid (wr.ownsRow w0.heap.size 28 2 (.slice (some ⟨r, 0, none⟩) n cap) n (cells R)) ∧ Hid (Below w0.heap.size w0 wr)) (fun _ j _ => n - (intOf j).toNat)
    case atStart => exact ⟨I0, I0 + 1, fs, rfl, by first | rfl | go_num | simp, by omega, by omega, HL, Lib.hid hI1.out.symm, Lib.hid rfl, hO1, hB1⟩
    case round =>
      obtain ⟨I, J, R, rfl, rfl, hJ, hIJ, hRl, hRI, hRJ, hO, hB⟩ := hrel
      rcases Nat.lt_or_ge J n with hlt | hge
      · have hRJl : J < R.length := by rw [hRl.out]; exact hlt
        have hfl : J < fs.length := by rw [HL.out]; exact hlt
        obtain ⟨q0, q1⟩ := cells_at R J hRJl
        have hc0 := (hO.out.cellAt (J * 2) (by omega)).trans q0
        have hc1 := (hO.out.cellAt (J * 2 + 1) (by omega)).trans q1
        have hRf : R[J]?.getD dflt = fs[J]?.getD dflt := by
          have := congrArg (fun l => l[0]?) hRJ.out
          simp only [List.getElem?_drop, Nat.add_zero] at this
          rw [this]
        rw [hRf] at hc0 hc1
        have hmem : fs[J]?.getD dflt ∈ fs := by rw [List.getElem?_eq_getElem hfl]; exact List.getElem_mem _
        have HC := Lib.hid (fun W hW => HP.out W _ hmem hW)
        have hsn := Lib.hid (filter_snoc p fs J hfl)
        have hdr : R.drop (J + 1) = fs.drop (J + 1) := by rw [← List.drop_drop, ← List.drop_drop, hRJ.out]
        have HDR := Lib.hid hdr
        have hj0 : (J : Int) < (n : Int) := by omega
        clear q0 q1 hRf hmem hdr hRJl hfl
        generalize hf : fs[J]?.getD dflt = f at *
        clear hf
        obtain ⟨f0, f1⟩ := f
        simp only at hc0 hc1
        have e2 : IntKind.i64.wrap ((J : Int) + 1) = (J : Int) + 1 := wrap_in _ (by omega) (by omega)
        have hrw : r < wr.heap.size := (hO.out.lt r rfl).2
        cases hq : p (f0, f1) with
        | true =>
          rw [hq] at HC hsn
          rw [if_pos rfl, List.append_nil] at hsn
          clear hq
          go_wp2_with (go_at_fn g; with_reducible refine (HC.out _ ?_).mono ?_; (repeat (first | exact hB.out | with_reducible refine Base.below_drewN ?_ _ | refine Below.alloc ?_ hB.out.size _)); rintro e w2 ⟨rfl, hb2⟩)
          have hb3 : Below wr.heap.size wr w2 := Base.below_step ((Below.refl _ _).alloc (Nat.le_refl _) _) hb2
          have H1 := Lib.hid (own_below hO.out hb3)
          have H2 := Lib.hid (Base.below_step hB.out hb3)
          clear hb2 hb3
          go_roundw
          case rel =>
            have H3 : Hid (R.take I = (fs.take (J + 1)).filter (fun f => !p f)) := Lib.hid (by rw [hsn.out]; exact hRI.out)
            first
              | exact ⟨I, J + 1, R, rfl, by go_num, by omega, by omega, hRl, H3, HDR, H1, H2⟩
              | ((repeat apply Exists.intro); refine ⟨?_, by rfl⟩; exact ⟨I, J + 1, R, rfl, by go_num, by omega, by omega, hRl, H3, HDR, H1, H2⟩)
          case measure => simp [intOf]; omega
        | false =>
          rw [hq] at HC hsn
          rw [if_neg (by decide)] at hsn
          clear hq
          go_wp2_with (go_at_fn g; with_reducible refine (HC.out _ ?_).mono ?_; (repeat (first | exact hB.out | with_reducible refine Base.below_drewN ?_ _ | refine Below.alloc ?_ hB.out.size _)); rintro e w2 ⟨rfl, hb2⟩
                       have hb3 : Below wr.heap.size wr w2 := Base.below_step ((Below.refl _ _).alloc (Nat.le_refl _) _) hb2
                       have H1 := Lib.hid (own_below hO.out hb3)
                       have H2 := Lib.hid (Base.below_step hB.out hb3)
                       have hf0 := (hb2.cell (p := ⟨wr.heap.size, 0, none⟩) (by simp)).trans (show _ = some (.string f0) by simp)
                       have hf1 := (hb2.cell (p := ⟨wr.heap.size, 1, none⟩) (by simp)).trans (show _ = some (.string f1) by simp)
                       have hRI' : I < R.length := by rw [hRl.out]; omega
                       obtain ⟨q0, q1⟩ := cells_at R I hRI'
                       have hs0 := (H1.out.cellAt (I * 2) (by omega)).trans q0
                       have hs1 := (H1.out.cellAt (I * 2 + 1) (by omega)).trans q1
                       have hz0 := H1.out.frozenAt (I * 2)
                       have hz1 := H1.out.frozenAt (I * 2 + 1)
                       have hi0 : (I : Int) < (n : Int) := by omega
                       clear q0 q1 hb2 hb3)
          have hst0 := (H1.out.stored (I * 2) (.string f0)).1
          have hst1 := (hst0.stored (I * 2 + 1) (.string f1)).1
          rw [cells_set R I (f0, f1) hRI'] at hst1
          have H3 := Lib.hid hst1
          have H4 := Lib.hid ((H2.out.setCell (p := ⟨r, I * 2, none⟩) hr0 (.string f0)).setCell (p := ⟨r, I * 2 + 1, none⟩) hr0 (.string f1))
          have H5 : Hid ((R.set I (f0, f1)).length = n) := Lib.hid (by rw [List.length_set]; exact hRl.out)
          have H6 : Hid ((R.set I (f0, f1)).take (I + 1) = (fs.take (J + 1)).filter (fun f => !p f)) := Lib.hid (by
            rw [hsn.out, ← hRI.out, List.take_succ_eq_append_getElem (by rw [List.length_set]; exact hRI'), List.getElem_set_self, List.take_set_of_le (Nat.le_refl _)])
          have H7 : Hid ((R.set I (f0, f1)).drop (J + 1) = fs.drop (J + 1)) := Lib.hid (by rw [List.drop_set_of_lt (by omega)]; exact HDR.out)
          clear hst0 hst1
          go_roundw
          case rel =>
            first
              | exact ⟨I + 1, J + 1, R.set I (f0, f1), rfl, by go_num, by omega, by omega, H5, H6, H7, H3, H4⟩
              | ((repeat apply Exists.intro); refine ⟨?_, by rfl⟩; exact ⟨I + 1, J + 1, R.set I (f0, f1), by go_num, by go_num, by omega, by omega, H5, H6, H7, H3, H4⟩)
          case measure => simp [intOf]; omega
      · obtain rfl : J = n := by omega
        have hIn : I < R.length := by rw [hRl.out]; exact hIJ
        have hlen : (fs.filter fun f => !p f).length = I := by
          have h1 := hRI.out
          rw [List.take_of_length_le (l := fs) (by rw [HL.out]; exact Nat.le_refl _)] at h1
          rw [← h1, List.length_take]; omega
        have hkey : R.take I = fs.filter fun f => !p f := by
          rw [hRI.out, List.take_of_length_le (by rw [HL.out]; exact Nat.le_refl _)]
        have hlt' := (hO.out.lt r rfl).2
        obtain ⟨vs, hcl⟩ := clear_rows wr r I (J - I) (cap - I) (by omega)
          (fun j hj => by rw [hO.out.cellAt (I * 2 + j) (by omega), List.getElem?_eq_getElem (by rw [cells_length, hRl.out]; omega)]; rfl) (fun j _ => hO.out.frozenAt _)
        have HF : Hid (Flds (wr.setCells r (I * 2) vs) (some ⟨r, 0, none⟩) I (fs.filter fun f => !p f)) := Lib.hid (by
          refine Flds.of_cells hlen (Nat.lt_of_lt_of_le hlt' (Go.below_setCells (Nat.le_refl _) _ _ _ (Below.refl _ _)).size) fun j hj => ?_
          rw [World.cell?_setCells_out _ _ _ _ _ (fun _ _ => Or.inl (by show j < I * 2; omega)), hO.out.cellAt j (by omega), ← hkey]
          conv => lhs; rw [← List.take_append_drop I R, cells_append]
          rw [List.getElem?_append_left (by rw [cells_length, List.length_take]; omega)])
        have HB : Hid (Below w0.heap.size w0 (wr.setCells r (I * 2) vs)) := Lib.hid (Go.below_setCells hr0 _ _ _ hB.out)
        have HOW : Hid ((wr.setCells r (I * 2) vs).ownsRow w0.heap.size 28 2 (.slice (some ⟨r, 0, none⟩) I cap) I (cells (fs.filter fun f => !p f))) := Lib.hid (by
          have h1 := own_cut hO.out I (by omega)
          rw [cells_take, hkey] at h1
          exact own_sets vs (I * 2) wr (Nat.le_refl _) h1)
        have HLN := Lib.hid hlen
        have i1 : (I : Int) ≤ (J : Int) := by omega
        have i2 : (J : Int) ≤ (cap : Int) := by omega
        have i3 : (I : Int) ≤ (cap : Int) := by omega
        clear hlen hkey hIn
        go_wp2
        go_ret
        exact ⟨I, rfl, HLN.out.symm, HF.out, HB.out, HOW.out⟩

theorem cells_here {w : World} {a : Option Addr} {n : Nat} {fs : List Fld} (h : Flds w a n fs) (hn : 0 < n) : ∃ b off, a = some ⟨b, off, none⟩ ∧ ∀ j u, (cells fs)[j]? = some u → w.cell? ⟨b, off + j, none⟩ = some u := by
  obtain ⟨b, off, e, _, hc⟩ := h.2 hn
  refine ⟨b, off, e, fun j u hj => ?_⟩
  have hlt : j < fs.length * 2 := by
    rw [← cells_length]
    rcases Nat.lt_or_ge j (cells fs).length with h | h
    · exact h
    · rw [List.getElem?_eq_none h] at hj; cases hj
  have hk : j / 2 < n := by have := h.1; omega
  obtain ⟨c0, c1⟩ := hc (j / 2) hk
  obtain ⟨d0, d1⟩ := cells_at fs (j / 2) (by have := h.1; omega)
  rcases (by omega : j = j / 2 * 2 ∨ j = j / 2 * 2 + 1) with e | e
  · rw [← e] at c0 d0; rw [d0] at hj; rw [c0]; exact hj
  · rw [show off + j / 2 * 2 + 1 = off + j by omega] at c1; rw [← e] at d1; rw [d1] at hj; rw [c1]; exact hj
theorem cells_one (fs : List Fld) : ∀ u ∈ cells fs, u.oneCell' = true := by
  intro u hu
  simp only [cells, List.mem_flatMap, List.mem_cons, List.not_mem_nil, or_false] at hu
  obtain ⟨f, _, rfl | rfl⟩ := hu <;> rfl

theorem without_own (a : Option Addr) (n cap : Nat) (fs : List Fld) (b : Option Addr) (m cap2 : Nat) (names : List ByteArray) (w : World) (hv : Flds w a n fs) (hu : Strs w b m names) (hn : n ≤ 1000000000) (hm : m ≤ 1000000000)
    (hs : ∀ f ∈ fs, f.1.size ≤ 1000000000) (ht : ∀ s ∈ names, s.size ≤ 1000000000) :
    Calls Tryd.prog 22 #[.slice a n cap, .slice b m cap2] w fun e w' => ∃ d k c, e = .returned (.slice d k c) ∧ k = (without fs names).length ∧ Flds w' d k (without fs names) ∧ Below w.heap.size w w' ∧ w'.ownsRow w.heap.size 28 2 (.slice d k c) k (cells (without fs names)) := by
  have eg : ∀ args w, (callFunc 37 args).run Tryd.prog w = .ok (.enter 37 args) w := enters_of Tryd.func37 (by kernel_rfl) rfl
  have HN := Lib.hid (smallNames_any b m cap2 names w hu hm ht)
  have HV := Lib.hid hv
  have HL := Lib.hid hv.1
  have HS := Lib.hid hs
  clear hv hu hs ht
  obtain ⟨i0, hi, hz0, hz1, hz2⟩ := info_parts field_info
  have G1 := Lib.hid hi; have G2 := Lib.hid hz0; have G3 := Lib.hid hz1; have G4 := Lib.hid hz2
  clear hi hz0 hz1 hz2
  have hnl : (cells fs).length = n * 2 := by rw [cells_length, HL.out]
  have HNL := Lib.hid hnl
  clear hnl
  have key : ∀ w2 : World, Hid (∀ G B : Nat, w2.cell? ⟨G, 0, none⟩ = some (.map (some B)) → w2.ownsMap Tryd.prog 9 unitElem B m (gone names) → Asks 37 #[.pointer (some ⟨G, 0, none⟩)] (fun f => one names f.1) fs w2) := by
    intro w2
    refine Lib.hid fun G B hc hmap W x hx hb => ?_
    have hG : G < w2.heap.size := by
      rcases Nat.lt_or_ge G w2.heap.size with h | h
      · exact h
      · simp [World.cell?, Array.getElem?_eq_none h] at hc
    have := gone_any x.1 x.2 G B m (gone names) W ((hb.cell (p := ⟨G, 0, none⟩) hG).trans hc) (hmap.kept (grown_of_below hb) (by simp)) (HS.out x hx)
    rw [has_gone] at this
    exact this
  go_enter Tryd.func22, Tryd.ntmps22
  go_wp2_with (first
    | (go_at_call 35; with_reducible refine HN.out.mono ?_; rintro e w1 ⟨rfl, hm1, hb1⟩
       have hc2 : (w1.alloc (.cells #[.map (some w.heap.size)] 50)).cell? ⟨w1.heap.size, 0, none⟩ = some (.map (some w.heap.size)) := by simp
       have HA := Lib.hid ((key (w1.alloc (.cells #[.map (some w.heap.size)] 50))).out w1.heap.size w.heap.size hc2 (hm1.alloc _))
       have HB := Lib.hid (show Below w.heap.size w (w1.alloc (.cells #[.map (some w.heap.size)] 50)) from hb1.alloc hb1.size _)
       clear hm1 hb1 hc2)
    | (at_builtin; refine App.wpList_append_list _ rfl _ _ 22 rfl (w1.alloc (.cells #[.map (some w.heap.size)] 50)).heap.size 28 i0 (.agg #[.string ByteArray.empty, .string ByteArray.empty]) 2 32 Tryd.underlying22 G1.out G2.out G3.out G4.out rfl (by decide) _ 0 [] rfl (World.ownsRow_nil _ _ _ _) a n cap (cells fs) rfl HNL.out (cells_here (HV.out.below HB.out)) (cells_one fs) (by unfold maxLen; omega) (by omega) (by simp) ?_))
  intro v' w3 hown hgr hnil _
  have hsz : (w1.alloc (.cells #[.map (some w.heap.size)] 50)).heap.size = w1.heap.size + 1 := by simp
  have hb3 : Below (w1.alloc (.cells #[.map (some w.heap.size)] 50)).heap.size (w1.alloc (.cells #[.map (some w.heap.size)] 50)) w3 := (Below.refl _ _).grown hgr (Nat.le_refl _) (by intro k hk; cases hk)
  rw [← hsz] at hown
  have hbw : Below w.heap.size w w3 := HB.out.trans (hb3.mono HB.out.size)
  clear key hgr hsz
  rcases Nat.eq_zero_or_pos n with h0 | hp
  · obtain rfl := hnil.2 h0
    obtain rfl : fs = [] := List.length_eq_zero_iff.1 (by rw [HL.out]; exact h0)
    have HD := Lib.hid (deleteFunc_nil 37 #[.pointer (some ⟨w1.heap.size, 0, none⟩)] eg (fun f => one names f.1) _ w3 HA.out hb3)
    have HBW := Lib.hid hbw
    clear eg hnil hown hb3 hbw HA HB
    go_wp2_with (go_at_call 36; with_reducible refine HD.out.mono ?_; rintro e w4 ⟨rfl, hb4⟩)
    go_ret
    exact ⟨none, 0, 0, rfl, rfl, Flds.nil _ _, Base.below_step HBW.out hb4, World.ownsRow_nil _ _ _ _⟩
  · obtain ⟨r, c, rfl, _, _⟩ := hown.form hp
    have HD := Lib.hid ((deleteFunc_any 37 #[.pointer (some ⟨w1.heap.size, 0, none⟩)] eg (fun f => one names f.1) r n c fs _ w3 HA.out hown hp hn hb3).mono
      (R' := fun e w' => ∃ d k c, e = .returned (.slice d k c) ∧ k = (without fs names).length ∧ Flds w' d k (without fs names) ∧ Below w.heap.size w w' ∧ w'.ownsRow w.heap.size 28 2 (.slice d k c) k (cells (without fs names))) (by
        rintro e w' ⟨k, rfl, hk, hF, hb, ho⟩
        exact ⟨_, k, _, rfl, hk, hF, HB.out.trans (hb.mono HB.out.size), own_lower ho HB.out.size⟩))
    clear eg hnil hown hb3 hbw HA HB
    go_wp2_with (go_at_call 36; with_reducible refine HD.out.mono ?_; rintro e w4 ⟨d, k, c4, rfl, rfl, hF, hb4, ho4⟩)
    go_ret
    exact ⟨d, _, c4, rfl, rfl, hF, hb4, ho4⟩
theorem without_any (a : Option Addr) (n cap : Nat) (fs : List Fld) (b : Option Addr) (m cap2 : Nat) (names : List ByteArray) (w : World) (hv : Flds w a n fs) (hu : Strs w b m names) (hn : n ≤ 1000000000) (hm : m ≤ 1000000000)
    (hs : ∀ f ∈ fs, f.1.size ≤ 1000000000) (ht : ∀ s ∈ names, s.size ≤ 1000000000) :
    Calls Tryd.prog 22 #[.slice a n cap, .slice b m cap2] w fun e w' => ∃ d k c, e = .returned (.slice d k c) ∧ k = (without fs names).length ∧ Flds w' d k (without fs names) ∧ Below w.heap.size w w' :=
  (without_own a n cap fs b m cap2 names w hv hu hn hm hs ht).mono (by rintro e w' ⟨d, k, c, h1, h2, h3, h4, -⟩; exact ⟨d, k, c, h1, h2, h3, h4⟩)
end code
end Go.Proofs.YtoackhbkngfhkaaDoor.Txt
