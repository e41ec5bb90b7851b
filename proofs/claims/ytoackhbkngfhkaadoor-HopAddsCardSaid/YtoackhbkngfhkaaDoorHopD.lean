/-
  Layer 18 (hop): slices.DeleteFunc on texts, by any function value that asks memory for nothing.
-/
import Derived.Test.YtoackhbkngfhkaaDoorTextWithout
namespace Go.Proofs.YtoackhbkngfhkaaDoor.Hop
open Go.RowKit Base Txt Oct

theorem gb_step {w w1 w2 : World} {row : Option Nat} (h : w.grownBy w1 row) (hb : Below w1.heap.size w1 w2) : w.grownBy w2 row :=
  ⟨hb.os.trans h.os, hb.tape.trans h.tape, hb.output.trans h.output, Nat.le_trans h.size hb.size, fun k hk hn => (hb.block k (Nat.lt_of_lt_of_le hk h.size)).trans (h.block k hk hn)⟩
theorem gb_set {w w1 : World} {r : Nat} (h : w.grownBy w1 (some r)) (j : Nat) (u : Value) : w.grownBy (w1.setCell ⟨r, j, none⟩ u) (some r) :=
  ⟨h.os, h.tape, h.output, by simpa [World.setCell] using h.size, fun k hk hn => (Below.heap_setCell _ _ _ _ (fun e => hn (by rw [e]))).trans (h.block k hk hn)⟩
theorem gb_sets {w : World} {r : Nat} : ∀ (vs : List Value) (o : Nat) (w1 : World), w.grownBy w1 (some r) → w.grownBy (w1.setCells r o vs) (some r)
  | [], _, _, h => h
  | u :: vs, o, _, h => gb_sets vs (o + 1) _ (gb_set h o u)

/-- What a function value answers of texts, in every world. -/
def AsksS (g : Nat) (lb : Array Value) (p : ByteArray → Bool) (ss : List ByteArray) : Prop :=
  ∀ (W : World) (x : ByteArray), x ∈ ss → Calls Tryd.prog g (#[.string x] ++ lb) W fun e w' => e = .returned (.bool (p x)) ∧ Below W.heap.size W w'

theorem clear_texts (w : World) (b I n cap : Nat) (hn : 0 < n) (hc : ∀ j, j < n → (w.cell? ⟨b, I + j, none⟩).isSome = true) (hf : ∀ j, j < n → w.frozen? ⟨b, I + j, none⟩ = false) :
    ∃ vs, ∀ ty, (Builtin.clear_ #[26] ty #[.slice (some ⟨b, I, none⟩) n cap]).run Tryd.prog w = .ok (.tuple #[]) (w.setCells b I vs) := by
  have hz : ∀ w, (zeroValue 9).run Tryd.prog w = .ok (.string ByteArray.empty) w := fun w => by kernel_rfl
  have hzc : (Value.string ByteArray.empty).cells = #[.string ByteArray.empty] := rfl
  refine ⟨(Builtin.zeroCells #[.string ByteArray.empty] n).toList, fun ty => ?_⟩
  have hl : (Builtin.zeroCells #[.string ByteArray.empty] n).toList.length = n := by simp [Builtin.zeroCells]
  have hst := run_storeCells_cells (P := Tryd.prog) b I (Builtin.zeroCells #[.string ByteArray.empty] n).toList 0 w (by rw [hl]; simpa using hc) (by rw [hl]; simpa using hf) (by
    intro v hv
    simp only [Builtin.zeroCells, Array.toList_map, List.mem_map] at hv
    obtain ⟨i, _, rfl⟩ := hv
    simp [Nat.mod_one, Value.oneCell'])
  simp only [Nat.add_zero] at hst
  obtain ⟨m, rfl⟩ : ∃ m, n = m + 1 := ⟨n - 1, by omega⟩
  simp [Builtin.clear_, run_underlying Tryd.underlying26, hz, hzc, hst]

theorem sfilter_snoc (p : ByteArray → Bool) (ss : List ByteArray) (j : Nat) (h : j < ss.length) : (ss.take (j + 1)).filter (fun s => !p s) = (ss.take j).filter (fun s => !p s) ++ (if p (ss[j]?.getD ByteArray.empty) = true then [] else [ss[j]?.getD ByteArray.empty]) := by
  rw [strs_snoc ss j h, List.filter_append]
  congr 1
  generalize ss[j]?.getD ByteArray.empty = f
  by_cases hs : p f = true <;> simp [hs]
theorem Strs.of_cells {w : World} {r n : Nat} {ss : List ByteArray} (hl : ss.length = n) (hr : r < w.heap.size) (h : ∀ j, j < n → w.cell? ⟨r, j, none⟩ = (ss.map Value.string)[j]?) : Strs w (some ⟨r, 0, none⟩) n ss :=
  ⟨hl, fun _ => ⟨r, 0, rfl, hr, fun k hk => by
    rw [Nat.zero_add, h k hk, List.getElem?_map, List.getElem?_eq_getElem (show k < ss.length by omega)]; rfl⟩⟩
theorem map_at (ss : List ByteArray) (j : Nat) (h : j < ss.length) : (ss.map Value.string)[j]? = some (.string (ss[j]?.getD ByteArray.empty)) := by
  rw [List.getElem?_map, List.getElem?_eq_getElem h]; rfl

section code
set_option maxHeartbeats 1000000
set_option maxRecDepth 10000
theorem indexFuncS_any (g : Nat) (lb : Array Value) (eg : ∀ args w, (callFunc g args).run Tryd.prog w = .ok (.enter g args) w) (p : ByteArray → Bool) (a : Option Addr) (n cap : Nat) (ss : List ByteArray) (w : World)
    (hp : AsksS g lb p ss) (hv : Strs w a n ss) (hn : n ≤ 1000000000) :
    Calls Tryd.prog 39 #[.slice a n cap, .func (.func g) #[] lb] w fun e w' =>
      (∃ r : Int, e = .returned (.int .i64 r) ∧ ((r = -1 ∧ ∀ x ∈ ss, p x = false) ∨ ∃ i : Nat, r = i ∧ i < n ∧ (∀ x ∈ ss.take i, p x = false) ∧ p (ss[i]?.getD ByteArray.empty) = true)) ∧ Below w.heap.size w w' := by
  have HV := Lib.hid hv
  have HL := Lib.hid hv.1
  have HP := Lib.hid hp
  clear hv hp
  go_enter Tryd.func39, Tryd.ntmps39
  go_wp2
  go_loopw [8] (fun i wr => ∃ k : Nat, k ≤ n ∧ i = .int .i64 k ∧ Hid (∀ x ∈ ss.take k, p x = false) ∧ Hid (Below w.heap.size w wr)) (fun i _ => n - (intOf i).toNat)
  case atStart => exact ⟨0, Nat.zero_le _, rfl, Lib.hid (by simp), Lib.hid (Below.refl _ _)⟩
  case round =>
    obtain ⟨k, hk, rfl, hno, hbr⟩ := hrel
    rcases Nat.lt_or_ge k n with hlt | hge
    · obtain ⟨bl, off, rfl, hbl, hc⟩ := (HV.out.below hbr.out).2 (by omega)
      have hc0 := hc k hlt
      have hkl : k < ss.length := by rw [HL.out]; exact hlt
      have hsn := Lib.hid (strs_snoc ss k hkl)
      have hmem : ss[k]?.getD ByteArray.empty ∈ ss := by rw [List.getElem?_eq_getElem hkl]; exact List.getElem_mem _
      have HC := Lib.hid (fun W => HP.out W _ hmem)
      clear hc hkl hmem
      generalize hf : ss[k]?.getD ByteArray.empty = f at *
      have HF := Lib.hid hf
      clear hf
      cases hq : p f with
      | true =>
        rw [hq] at HC
        have HQ := Lib.hid hq
        clear hq
        go_wp2_with (go_at_fn g; with_reducible refine (HC.out _).mono ?_; rintro e w2 ⟨rfl, hb2⟩)
        go_ret
        exact ⟨⟨k, rfl, .inr ⟨k, rfl, hlt, hno.out, by rw [HF.out]; exact HQ.out⟩⟩, Base.below_step hbr.out hb2⟩
      | false =>
        rw [hq] at HC
        have HQ := Lib.hid hq
        clear hq
        go_wp2_with (go_at_fn g; with_reducible refine (HC.out _).mono ?_; rintro e w2 ⟨rfl, hb2⟩)
        go_roundw
        case rel =>
          refine ⟨k + 1, by omega, by go_num, Lib.hid ?_, Lib.hid (Base.below_step hbr.out hb2)⟩
          rw [hsn.out]
          intro x hx
          rcases List.mem_append.1 hx with hx | hx
          · exact hno.out x hx
          · obtain rfl : x = f := by simpa using hx
            exact HQ.out
        case measure => simp [intOf]; omega
    · obtain rfl : k = n := by omega
      have hno' := hno.out
      rw [List.take_of_length_le (by rw [HL.out]; omega)] at hno'
      have HN := Lib.hid hno'
      clear hno'
      go_wp2
      go_ret
      exact ⟨⟨-1, rfl, .inl ⟨rfl, HN.out⟩⟩, hbr.out⟩

theorem deleteFuncS_any (g : Nat) (lb : Array Value) (eg : ∀ args w, (callFunc g args).run Tryd.prog w = .ok (.enter g args) w) (p : ByteArray → Bool) (r n cap B : Nat) (ss : List ByteArray) (w : World)
    (hp : AsksS g lb p ss) (hv : w.ownsRow B 9 1 (.slice (some ⟨r, 0, none⟩) n cap) n (ss.map Value.string)) (h0 : 0 < n) (hn : n ≤ 1000000000) :
    Calls Tryd.prog 23 #[.slice (some ⟨r, 0, none⟩) n cap, .func (.func g) #[] lb] w fun e w' =>
      ∃ m, e = .returned (.slice (some ⟨r, 0, none⟩) m cap) ∧ m = (ss.filter fun s => !p s).length ∧ w.grownBy w' (some r) ∧ w'.ownsRow B 9 1 (.slice (some ⟨r, 0, none⟩) m cap) m ((ss.filter fun s => !p s).map Value.string) := by
  have hl : ss.length = n := by have := hv.1; rw [List.length_map] at this; omega
  obtain ⟨hr0, hr1⟩ := hv.lt r rfl
  have hcap : n ≤ cap := by
    rcases hv.2 with ⟨h, _⟩ | ⟨_, c, _, h, _, _, hh, _⟩
    · cases h
    · cases h; exact hh
  have hF : Strs w (some ⟨r, 0, none⟩) n ss := Strs.of_cells hl hr1 fun j hj => hv.cellAt j (by omega)
  have HI := Lib.hid (indexFuncS_any g lb eg p (some ⟨r, 0, none⟩) n cap ss w hp hF hn)
  have HV := Lib.hid hv
  have HL := Lib.hid hl
  have HP := Lib.hid hp
  clear hv hl hp hF
  go_enter Tryd.func23, Tryd.ntmps23
  go_wp2_with (go_at_call 39; with_reducible refine HI.out.mono ?_; rintro e w1 ⟨⟨x, rfl, hx⟩, hb1⟩)
  · have hxe : (x == -1) = true := by assumption
    rcases hx with ⟨rfl, hall⟩ | ⟨i, rfl, _, _, _⟩
    · have hff : ss.filter (fun s => !p s) = ss := List.filter_eq_self.2 fun f hf => by rw [hall f hf]; rfl
      go_ret
      exact ⟨n, rfl, by rw [hff, HL.out], ⟨hb1.os, hb1.tape, hb1.output, hb1.size, fun k hk _ => hb1.block k hk⟩, by rw [hff]; exact own_below HV.out hb1⟩
    · exact absurd (beq_iff_eq.1 hxe) (by omega)
  · have hxe : (x == -1) = false := by assumption
    rcases hx with ⟨rfl, _⟩ | ⟨I0, rfl, hI0, hno, hyes⟩
    · cases hxe
    have hB1 := Lib.hid (show w.grownBy w1 (some r) from ⟨hb1.os, hb1.tape, hb1.output, hb1.size, fun k hk _ => hb1.block k hk⟩)
    have hO1 := Lib.hid (own_below HV.out hb1)
    have hI1 := Lib.hid (show (ss.take (I0 + 1)).filter (fun s => !p s) = ss.take I0 from by
      rw [sfilter_snoc p ss I0 (by rw [HL.out]; exact hI0), if_pos hyes, List.append_nil]
      exact List.filter_eq_self.2 fun f hf => by rw [hno f hf]; rfl)
    clear hb1 hno hyes hxe HI
    have e1 : wrap64 ((I0 : Int) + 1) = (I0 : Int) + 1 := by unfold wrap64; omega
    have e3 : ((I0 : Int) == -1) = false := beq_eq_false_iff_ne.2 (by omega)
    rw [e3]
    go_wp2
    rw [e1]
    clear e1 e3
    go_loopw [5, 6] (fun i j wr => ∃ (I J : Nat) (R : List ByteArray), i = .int .i64 I ∧ j = .int .i64 J ∧ J ≤ n ∧ I < J ∧ Hid (R.length = n) ∧ Hid (R.take I = (ss.take J).filter (fun s => !p s)) ∧ Hid (R.drop J = ss.drop J) ∧
      Hid (wr.ownsRow B 9 1 (.slice (some ⟨r, 0, none⟩) n cap) n (R.map Value.string)) ∧ Hid (w.grownBy wr (some r))) (fun _ j _ => n - (intOf j).toNat)
    case atStart => exact ⟨I0, I0 + 1, ss, rfl, by first | rfl | go_num | simp, by omega, by omega, HL, Lib.hid hI1.out.symm, Lib.hid rfl, hO1, hB1⟩
    case round =>
      obtain ⟨I, J, R, rfl, rfl, hJ, hIJ, hRl, hRI, hRJ, hO, hB⟩ := hrel
      rcases Nat.lt_or_ge J n with hlt | hge
      · have hRJl : J < R.length := by rw [hRl.out]; exact hlt
        have hfl : J < ss.length := by rw [HL.out]; exact hlt
        have hc0 := (hO.out.cellAt J (by omega)).trans (map_at R J hRJl)
        have hRf : R[J]?.getD ByteArray.empty = ss[J]?.getD ByteArray.empty := by
          have := congrArg (fun l => l[0]?) hRJ.out
          simp only [List.getElem?_drop, Nat.add_zero] at this
          rw [this]
        rw [hRf] at hc0
        have hmem : ss[J]?.getD ByteArray.empty ∈ ss := by rw [List.getElem?_eq_getElem hfl]; exact List.getElem_mem _
        have HC := Lib.hid (fun W => HP.out W _ hmem)
        have hsn := Lib.hid (sfilter_snoc p ss J hfl)
        have hdr : R.drop (J + 1) = ss.drop (J + 1) := by rw [← List.drop_drop, ← List.drop_drop, hRJ.out]
        have HDR := Lib.hid hdr
        have hj0 : (J : Int) < (n : Int) := by omega
        clear hRf hmem hdr hRJl hfl
        generalize hf : ss[J]?.getD ByteArray.empty = f at *
        clear hf
        have e2 : IntKind.i64.wrap ((J : Int) + 1) = (J : Int) + 1 := wrap_in _ (by omega) (by omega)
        have hrw : r < wr.heap.size := (hO.out.lt r rfl).2
        cases hq : p f with
        | true =>
          rw [hq] at HC hsn
          rw [if_pos rfl, List.append_nil] at hsn
          clear hq
          go_wp2_with (go_at_fn g; with_reducible refine (HC.out _).mono ?_; rintro e w2 ⟨rfl, hb2⟩)
          have H1 := Lib.hid (own_below hO.out hb2)
          have H2 := Lib.hid (gb_step hB.out hb2)
          clear hb2
          go_roundw
          case rel =>
            have H3 : Hid (R.take I = (ss.take (J + 1)).filter (fun s => !p s)) := Lib.hid (by rw [hsn.out]; exact hRI.out)
            first
              | exact ⟨I, J + 1, R, rfl, by go_num, by omega, by omega, hRl, H3, HDR, H1, H2⟩
              | ((repeat apply Exists.intro); refine ⟨?_, by rfl⟩; exact ⟨I, J + 1, R, rfl, by go_num, by omega, by omega, hRl, H3, HDR, H1, H2⟩)
          case measure => simp [intOf]; omega
        | false =>
          rw [hq] at HC hsn
          rw [if_neg (by decide)] at hsn
          clear hq
          go_wp2_with (go_at_fn g; with_reducible refine (HC.out _).mono ?_; rintro e w2 ⟨rfl, hb2⟩
                       have H1 := Lib.hid (own_below hO.out hb2)
                       have H2 := Lib.hid (gb_step hB.out hb2)
                       have hRI' : I < R.length := by rw [hRl.out]; omega
                       have hs0 := (H1.out.cellAt I (by omega)).trans (map_at R I hRI')
                       have hz0 := H1.out.frozenAt I
                       have hi0 : (I : Int) < (n : Int) := by omega
                       clear hb2)
          have hst0 := (H1.out.stored I (.string f)).1
          rw [← List.map_set] at hst0
          have H3 := Lib.hid hst0
          have H4 := Lib.hid (gb_set H2.out I (.string f))
          have H5 : Hid ((R.set I f).length = n) := Lib.hid (by rw [List.length_set]; exact hRl.out)
          have H6 : Hid ((R.set I f).take (I + 1) = (ss.take (J + 1)).filter (fun s => !p s)) := Lib.hid (by
            rw [hsn.out, ← hRI.out, List.take_succ_eq_append_getElem (by rw [List.length_set]; exact hRI'), List.getElem_set_self, List.take_set_of_le (Nat.le_refl _)])
          have H7 : Hid ((R.set I f).drop (J + 1) = ss.drop (J + 1)) := Lib.hid (by rw [List.drop_set_of_lt (by omega)]; exact HDR.out)
          clear hst0
          go_roundw
          case rel =>
            first
              | exact ⟨I + 1, J + 1, R.set I f, by go_num, by go_num, by omega, by omega, H5, H6, H7, H3, H4⟩
              | ((repeat apply Exists.intro); refine ⟨?_, by rfl⟩; exact ⟨I + 1, J + 1, R.set I f, by go_num, by go_num, by omega, by omega, H5, H6, H7, H3, H4⟩)
          case measure => simp [intOf]; omega
      · obtain rfl : J = n := by omega
        have hIn : I < R.length := by rw [hRl.out]; exact hIJ
        have hlen : (ss.filter fun s => !p s).length = I := by
          have h1 := hRI.out
          rw [List.take_of_length_le (l := ss) (by rw [HL.out]; exact Nat.le_refl _)] at h1
          rw [← h1, List.length_take]; omega
        have hkey : R.take I = ss.filter fun s => !p s := by
          rw [hRI.out, List.take_of_length_le (by rw [HL.out]; exact Nat.le_refl _)]
        obtain ⟨vs, hcl⟩ := clear_texts wr r I (J - I) (cap - I) (by omega)
          (fun j hj => by rw [hO.out.cellAt (I + j) (by omega), List.getElem?_eq_getElem (by rw [List.length_map, hRl.out]; omega)]; rfl) (fun j _ => hO.out.frozenAt _)
        have HB := Lib.hid (gb_sets vs I wr hB.out)
        have HOW : Hid ((wr.setCells r I vs).ownsRow B 9 1 (.slice (some ⟨r, 0, none⟩) I cap) I ((ss.filter fun s => !p s).map Value.string)) := Lib.hid (by
          have h1 := own_cut hO.out I (by omega)
          rw [Nat.mul_one, ← List.map_take, hkey] at h1
          exact own_sets vs I wr (by omega) h1)
        have HLN := Lib.hid hlen
        have i1 : (I : Int) ≤ (J : Int) := by omega
        have i2 : (J : Int) ≤ (cap : Int) := by omega
        have i3 : (I : Int) ≤ (cap : Int) := by omega
        clear hlen hkey hIn
        go_wp2
        go_ret
        exact ⟨I, rfl, HLN.out.symm, HB.out, HOW.out⟩
/-- The same of a row that may be nil. -/
theorem deleteS_own (g : Nat) (lb : Array Value) (eg : ∀ args w, (callFunc g args).run Tryd.prog w = .ok (.enter g args) w) (p : ByteArray → Bool) (v : Value) (B : Nat) (ss : List ByteArray) (w : World)
    (hp : AsksS g lb p ss) (hv : w.ownsRow B 9 1 v ss.length (ss.map Value.string)) (hn : ss.length ≤ 1000000000) :
    Calls Tryd.prog 23 #[v, .func (.func g) #[] lb] w fun e w' =>
      ∃ v', e = .returned v' ∧ w.grownBy w' v.ownBlock ∧ w'.ownsRow B 9 1 v' (ss.filter fun s => !p s).length ((ss.filter fun s => !p s).map Value.string) := by
  rcases hv.2 with ⟨rfl, h0⟩ | ⟨r, cap, cur, rfl, _⟩
  · obtain rfl : ss = [] := List.length_eq_zero_iff.1 h0
    have HI := Lib.hid ((indexFuncS_any g lb eg p none 0 0 [] w hp (Strs.nil _ _) (by omega)).mono (R' := fun e w' => e = .returned (.int .i64 (-1)) ∧ Below w.heap.size w w') (by
      rintro e w' ⟨⟨r, rfl, (⟨rfl, _⟩ | ⟨i, _, hi, _⟩)⟩, hb⟩
      · exact ⟨rfl, hb⟩
      · omega))
    clear hp hv eg h0 hn
    show Calls Tryd.prog 23 #[.slice none 0 0, .func (.func g) #[] lb] w _
    go_enter Tryd.func23, Tryd.ntmps23
    go_wp2_with (go_at_call 39; with_reducible refine HI.out.mono ?_; rintro e w2 ⟨rfl, hb2⟩)
    go_ret
    exact ⟨_, rfl, ⟨hb2.os, hb2.tape, hb2.output, hb2.size, fun k hk _ => hb2.block k hk⟩, World.ownsRow_nil _ _ _ _⟩
  · rcases Nat.eq_zero_or_pos ss.length with h0 | hpos
    · obtain rfl : ss = [] := List.length_eq_zero_iff.1 h0
      have HI := Lib.hid ((indexFuncS_any g lb eg p (some ⟨r, 0, none⟩) 0 cap [] w hp (Strs.nil _ _) (by omega)).mono (R' := fun e w' => e = .returned (.int .i64 (-1)) ∧ Below w.heap.size w w') (by
        rintro e w' ⟨⟨r, rfl, (⟨rfl, _⟩ | ⟨i, _, hi, _⟩)⟩, hb⟩
        · exact ⟨rfl, hb⟩
        · omega))
      have HV := Lib.hid hv
      clear hp hv eg h0 hn
      show Calls Tryd.prog 23 #[.slice (some ⟨r, 0, none⟩) 0 cap, .func (.func g) #[] lb] w _
      go_enter Tryd.func23, Tryd.ntmps23
      go_wp2_with (go_at_call 39; with_reducible refine HI.out.mono ?_; rintro e w2 ⟨rfl, hb2⟩)
      go_ret
      exact ⟨_, rfl, ⟨hb2.os, hb2.tape, hb2.output, hb2.size, fun k hk _ => hb2.block k hk⟩, own_below HV.out hb2⟩
    · exact (deleteFuncS_any g lb eg p r ss.length cap B ss w hp hv hpos hn).mono (by rintro e w' ⟨m, rfl, rfl, h1, h2⟩; exact ⟨_, rfl, h1, h2⟩)
end code
end Go.Proofs.YtoackhbkngfhkaaDoor.Hop
