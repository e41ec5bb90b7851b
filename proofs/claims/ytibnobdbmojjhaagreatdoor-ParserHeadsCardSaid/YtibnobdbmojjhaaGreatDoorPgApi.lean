/-
  Layer 13 (parser): contracts of the program's parser: its face. (Printed by tools/gen_pgapi.py.)
-/
import Derived.Test.YtibnobdbmojjhaaGreatDoorPgTake
namespace Go.Proofs.YtibnobdbmojjhaaGreatDoor.Pg
open Go.RowKit Base Txt Mem Par

/-- Records that were told: in a row of the caller's, apart from what the parser owns. -/
structure Told (L : List (Option Nat)) (B : Nat) (w : World) (o : Value) (out : List Rec.R) : Prop where
  outs : Outs L B w o out
  far : ∀ k, o.ownBlock = some k → some k ∉ L ∧ k < w.heap.size
theorem Told.step {L L' : List (Option Nat)} {B : Nat} {w w' : World} {o : Value} {out : List Rec.R} (h : Told L B w o out) (hs : Step L L' w w') : Told L' B w' o out := by
  obtain ⟨ps, h1, h2, h3⟩ := h.outs
  refine ⟨⟨ps, h1, fun x hx => ⟨(h2 x hx).1, ⟨((h2 x hx).2.keeps hs.keeps).reads, fun k hb => ⟨fun hm => ?_, Nat.lt_of_lt_of_le ((h2 x hx).2.far k hb).2 hs.keeps.size⟩⟩⟩, hs.keeps.own h3 (fun k e => (h.far k e).1)⟩, fun k e => ⟨fun hm => ?_, Nat.lt_of_lt_of_le (h.far k e).2 hs.keeps.size⟩⟩
  · rcases hs.of k hm with e | e
    · exact ((h2 x hx).2.far k hb).1 e
    · exact absurd ((h2 x hx).2.far k hb).2 (by omega)
  · rcases hs.of k hm with h1 | h1
    · exact (h.far k e).1 h1
    · have := (h.far k e).2; omega
section code
set_option maxHeartbeats 4000000
set_option maxRecDepth 20000
attribute [local go_sem] Base.some_undef
variable {w : World} {B g q : Nat} {v f bd t o : Value} {p : Nat} {b : Bd} {s : T}
theorem Own.less {rd : Ln.M} {fs ts : List Fld} {body : List UInt8} {out : List Rec.R} (h : Own w B g q v f bd t o rd fs body ts out) : Own w B g q v f bd t nil rd fs body ts [] := by
  have e : blks g q v f bd t nil = (blks g q v f bd t o).set 6 none := rfl
  refine ⟨h.R, h.F, h.D, h.TR, ⟨[], rfl, (by intro x hx; cases hx), World.ownsRow_nil _ _ _ _⟩, ?_, h.ge, h.lt⟩
  rw [e]
  exact h.lone.set h.in 6 none (.inl rfl)
theorem At.below {L : List (Option Nat)} {w' : World} {x : Q} (h : At w B g p b L x) (hb : Below w.heap.size w w') : At w' B g p b L x := by
  cases x with
  | live s =>
    obtain ⟨q, v, f, bd, t, o, rfl, h⟩ := h
    exact ⟨q, v, f, bd, t, o, rfl, h.below hb⟩
  | dead e out =>
    obtain ⟨o, rfl, h⟩ := h
    refine ⟨o, rfl, (hb.block g h.lt).trans h.row, h.O.keeps (Keeps.of_below hb : Keeps [] w w') (by simp) (by simp), h.ne, h.ge, Nat.lt_of_lt_of_le h.lt hb.size, h.bad⟩
theorem At.low {L : List (Option Nat)} {x : Q} (h : At w B g p b L x) : ∀ k, some k ∈ L → B ≤ k := by
  cases x with
  | live s =>
    obtain ⟨q, v, f, bd, t, o, rfl, h⟩ := h
    exact h.own.low
  | dead e out =>
    obtain ⟨o, rfl, h⟩ := h
    intro k hk
    obtain ⟨ps, -, -, h3⟩ := h.O
    rcases (by simpa using hk : k = g ∨ some k = o.ownBlock) with e | e
    · rw [e]; exact h.ge
    · exact (World.ownsRow.lt h3 k e.symm).1
theorem At.in {L : List (Option Nat)} {x : Q} (h : At w B g p b L x) : In w L := by
  cases x with
  | live s =>
    obtain ⟨q, v, f, bd, t, o, rfl, h⟩ := h
    exact h.own.in
  | dead e out =>
    obtain ⟨o, rfl, h⟩ := h
    intro k hk
    obtain ⟨ps, -, -, h3⟩ := h.O
    rcases (by simpa using hk : k = g ∨ some k = o.ownBlock) with e | e
    · rw [e]; exact h.lt
    · exact (World.ownsRow.lt h3 k e.symm).2
theorem At.lt {L : List (Option Nat)} {x : Q} (h : At w B g p b L x) : B ≤ g ∧ g < w.heap.size := by
  cases x with
  | live s =>
    obtain ⟨q, v, f, bd, t, o, rfl, h⟩ := h
    exact ⟨h.own.ge, h.own.lt⟩
  | dead e out =>
    obtain ⟨o, rfl, h⟩ := h
    exact ⟨h.ge, h.lt⟩
/-- What it has told is the caller's. -/
theorem At.tell {L : List (Option Nat)} {x : Q} (h : At w B g p b L x) : ∃ o L', w.cell? ⟨g, 26, none⟩ = some o ∧ w.frozen? ⟨g, 26, none⟩ = false ∧ At (w.setCell ⟨g, 26, none⟩ nil) B g p b L' x.told ∧ Told L' B (w.setCell ⟨g, 26, none⟩ nil) o x.out ∧ Step L L' w (w.setCell ⟨g, 26, none⟩ nil) := by
  cases x with
  | live s =>
    obtain ⟨q, v, f, bd, t, o, rfl, h⟩ := h
    have hg : (blks g q v f bd t o)[0]? = some (some g) := rfl
    have hne : o.ownBlock ≠ some g := fun e => h.own.lone.ne (i := 0) (j := 6) rfl (by decide) (by rw [← e]; rfl)
    have hsub : ∀ k, some k ∈ blks g q v f bd t nil → some k ∈ blks g q v f bd t o := fun k hk => by
      simp only [List.mem_cons, List.not_mem_nil, or_false, Value.ownBlock, reduceCtorEq] at hk ⊢
      rcases hk with e | e | e | e | e | e <;> simp [e]
    refine ⟨o, blks g q v f bd t nil, h.cs.c26, h.marks 26, ⟨q, v, f, bd, t, nil, rfl, ⟨row_setL h.row 26 nil, (h.own.less).set 26 nil⟩⟩, ⟨Outs.less (h.own.O.keeps (Keeps.set g 26 nil (List.mem_singleton.2 rfl)) (fun k hk => by simp only [List.mem_singleton] at hk; simp [hk]) (fun k e hm => hne (by rw [e, List.mem_singleton.1 hm]))) (fun k hk => .inl (hsub k hk)), fun k e => ⟨fun hm => ?_, ?_⟩⟩, ⟨Keeps.set g 26 nil (List.mem_of_getElem? hg), fun k hk => .inl (hsub k hk)⟩⟩
    · obtain ⟨i, hi⟩ := List.getElem?_of_mem hm
      have h6 : (blks g q v f bd t o)[6]? = some (some k) := by rw [← e]; rfl
      rcases i with _ | _ | _ | _ | _ | _ | _ | i
      · exact h.own.lone.ne (i := 0) (j := 6) (k := k) hi (by decide) h6
      · exact h.own.lone.ne (i := 1) (j := 6) (k := k) hi (by decide) h6
      · exact h.own.lone.ne (i := 2) (j := 6) (k := k) hi (by decide) h6
      · exact h.own.lone.ne (i := 3) (j := 6) (k := k) hi (by decide) h6
      · exact h.own.lone.ne (i := 4) (j := 6) (k := k) hi (by decide) h6
      · exact h.own.lone.ne (i := 5) (j := 6) (k := k) hi (by decide) h6
      · cases hi
      · cases hi
    · have := h.own.in k (List.mem_of_getElem? (i := 6) (by rw [← e]; rfl))
      simpa using this
  | dead e out =>
    obtain ⟨o, rfl, h⟩ := h
    obtain ⟨ps, -, -, h3⟩ := h.O
    refine ⟨o, [some g, none], row_cellL h.row rfl, Ln.row_frozen h.row 26, ⟨nil, rfl, h.put 26 nil nil [] rfl ⟨[], rfl, (by intro x hx; cases hx), World.ownsRow_nil _ _ _ _⟩ (by simp [Value.ownBlock])⟩, ⟨Outs.less (h.O.keeps (Keeps.set g 26 nil (List.mem_singleton.2 rfl)) (fun k hk => by simp only [List.mem_singleton] at hk; simp [hk]) (fun k e hm => h.ne (by rw [e, List.mem_singleton.1 hm]))) (fun k hk => .inl (by simpa using Or.inl (by simpa using hk))), fun k e => ⟨fun hm => ?_, ?_⟩⟩, ⟨Keeps.set g 26 nil (by simp), fun k hk => .inl (by simpa using Or.inl (by simpa using hk))⟩⟩
    · rcases (by simpa using hm : k = g) with rfl
      exact h.ne e
    · have := (World.ownsRow.lt h3 k e).2
      simpa using this
theorem wait_lt {n m : Nat} (h : n < m) : (n : Int) < (m : Int) := by omega
theorem feed_any (hp : p < 4294967296) (x : Q) {L : List (Option Nat)} (h : At w B g p b L x) (ok : x.Ok b) (a : Option Addr) (ca : Nat) (ls : List (List UInt8)) (hl : Parts L w a ls) (hn : ls.length ≤ 1000000) (hout : x.out.length + 2 * ls.flatten.length ≤ 999999998) :
    Calls Tryz.prog 22 #[ptr g, .slice a ls.length ca] w fun r w' => ∃ o L', r = .returned o ∧ At w' B g p b L' (x.feed p b ls.flatten).told ∧ Told L' B w' o (x.feed p b ls.flatten).out ∧ Step L L' w w' := by
  have H := Lib.hid h; have HL := Lib.hid hl; have HOK := Lib.hid ok; have HOU := Lib.hid hout
  obtain ⟨n, hnn⟩ : ∃ n, ls.length = n := ⟨_, rfl⟩
  have HN := Lib.hid hnn
  have hn1 : n ≤ 1000000 := by omega
  rw [hnn]
  clear h hl ok hout hn hnn
  go_enter Tryz.func22, Tryz.ntmps22
  go_upto_region 2 with fail
  go_loopw [12] (fun i wr => ∃ k : Nat, k ≤ n ∧ i = .int .i64 k ∧ Hid (∃ Lr, At wr B g p b Lr (x.feed p b (ls.take k).flatten) ∧ Step L Lr w wr)) (fun i _ => n - (intOf i).toNat)
  case atStart => exact ⟨0, Nat.zero_le _, rfl, Lib.hid ⟨L, H.out, Step.refl⟩⟩
  case round =>
    obtain ⟨k, hk, rfl, hR⟩ := hrel
    rcases Nat.lt_or_ge k n with hlt | hge
    · obtain ⟨Lr, hA, hS⟩ := hR.out
      have hkl : k < ls.length := by rw [HN.out]; exact hlt
      obtain ⟨bk, off, rfl, hbk, hnb, hc⟩ := (HL.out.step hS).cells (by omega)
      obtain ⟨ak, ck, hcell, hB⟩ := hc k hkl
      have htk : (ls.take (k + 1)).flatten = (ls.take k).flatten ++ ls[k] := by rw [List.take_succ_eq_append_getElem hkl, List.flatten_append]; simp
      have hsum : (ls.take (k + 1)).flatten.length ≤ ls.flatten.length := by
        have := congrArg List.length (congrArg List.flatten (List.take_append_drop (k + 1) ls))
        rw [List.flatten_append, List.length_append] at this
        omega
      rw [htk, List.length_append] at hsum
      have t1 : (k : Int) < (n : Int) := by omega
      have HTK := Lib.hid htk
      obtain ⟨pl, hpl⟩ : ∃ pl, ls[k] = pl := ⟨_, rfl⟩
      rw [hpl] at hcell hB hsum HTK
      have hpb : pl.length ≤ 1000000000 := by have := HOU.out; omega
      obtain ⟨m, hm⟩ : ∃ m, pl.length = m := ⟨_, rfl⟩
      rw [hm] at hcell hpb hsum
      have HM := Lib.hid hm
      obtain ⟨X, hX⟩ : ∃ X, x.feed p b (ls.take k).flatten = X := ⟨_, rfl⟩
      have hXok : X.Ok b := by rw [← hX]; exact Q.Ok.feed _ HOK.out
      have hXo : X.out.length + 2 * m ≤ 999999998 := by
        have := Q.feed_out (p := p) (b := b) (ls.take k).flatten x
        rw [hX] at this
        have := HOU.out
        omega
      rw [hX] at hA
      have HX := Lib.hid hX; have HXO := Lib.hid hXok; have HXL := Lib.hid hXo
      have HA := Lib.hid hA; have HS := Lib.hid hS; have HB := Lib.hid hB
      clear hA hS hB hX hXok hXo hsum htk hpl hm hc hR hnb hbk
      go_upto_region 5 with fail
      clear hcell
      go_loopw [18] (fun j wq => ∃ i : Nat, i ≤ m ∧ j = .int .i64 i ∧ Hid (∃ Lq, At wq B g p b Lq (X.feed p b (pl.take i)) ∧ Step Lr Lq wr wq)) (fun j _ => m - (intOf j).toNat)
      case atStart => exact ⟨0, Nat.zero_le _, rfl, Lib.hid ⟨Lr, HA.out, Step.refl⟩⟩
      case round =>
        obtain ⟨wC, hwC⟩ : ∃ x, x = wr := ⟨_, rfl⟩
        obtain ⟨i, hi, rfl, hR2⟩ := hrel
        rcases Nat.lt_or_ge i m with hilt | hige
        · obtain ⟨Lq, hA2, hS2⟩ := hR2.out
          have hil : i < pl.length := by rw [HM.out]; exact hilt
          obtain ⟨zb, zo, rfl, hzb, hz⟩ := (HB.out.step hS2).nums.2 (by omega)
          have hcell := hz i hil
          have hti : pl.take (i + 1) = pl.take i ++ [pl[i]] := List.take_succ_eq_append_getElem hil
          have hgi : (pl.map fun c => (c.toNat : Int))[i]?.getD 0 = (pl[i].toNat : Int) := by simp [hil]
          rw [hgi] at hcell
          have HTI := Lib.hid hti
          obtain ⟨c, hc⟩ : ∃ c, pl[i] = c := ⟨_, rfl⟩
          rw [hc] at hcell HTI
          have t2 : (i : Int) < (m : Int) := by omega
          have hok3 : (X.feed p b (pl.take i)).Ok b := Q.Ok.feed _ HXO.out
          have hou3 : (X.feed p b (pl.take i)).out.length ≤ 999999998 := by
            have h1 := Q.feed_out (p := p) (b := b) (pl.take i) X
            have h2 := HXL.out
            rw [List.length_take] at h1
            omega
          have HTA := Lib.hid (take_any hp c _ hA2 hok3 hou3)
          have HS2 := Lib.hid hS2
          clear hA2 hS2 hz hzb hti hgi hc hok3 hou3 hR2
          go_wp2_with (go_at_call 47; with_reducible refine HTA.out.mono ?_; rintro r w5 ⟨rfl, L5, hA5, hS5⟩)
          go_roundw
          case rel => exact ⟨i + 1, by omega, by go_num, Lib.hid ⟨L5, by rw [HTI.out, feed_app]; exact hA5, HS2.out.trans hS5⟩⟩
          case measure => simp [intOf]; omega
        · obtain rfl : i = m := by omega
          have t2 : ¬ (i : Int) < (i : Int) := by omega
          obtain ⟨Lq, hA2, hS2⟩ := hR2.out
          have e : pl.take i = pl := List.take_of_length_le (by rw [HM.out]; exact Nat.le_refl _)
          rw [e, ← HX.out, ← feed_app, ← HTK.out] at hA2
          have HA2 := Lib.hid hA2; have HS2 := Lib.hid (HS.out.trans hS2)
          clear hA2 hS2 e hR2
          go_wp2_with fail
          go_roundw
          case rel => exact ⟨k + 1, by omega, by go_num, Lib.hid ⟨Lq, HA2.out, HS2.out⟩⟩
          case measure => simp [intOf]; omega
    · obtain rfl : k = n := by omega
      have t1 : ¬ (k : Int) < (k : Int) := by omega
      obtain ⟨Lr, hA, hS⟩ := hR.out
      have e : ls.take k = ls := List.take_of_length_le (by rw [HN.out]; exact Nat.le_refl _)
      rw [e] at hA
      obtain ⟨o, L2, c26, z26, hA2, hT2, hS2⟩ := hA.tell
      have HA2 := Lib.hid hA2; have HT2 := Lib.hid hT2; have HS2 := Lib.hid (hS.trans hS2)
      clear hA hS hR e hA2 hT2 hS2
      go_wp2_with fail
      go_ret
      exact ⟨o, rfl, L2, HA2.out, HT2.out, HS2.out⟩
theorem errq_any {L : List (Option Nat)} {x : Q} (h : At w B g p b L x) : Calls Tryz.prog 25 #[ptr g] w fun r w' => r = .returned (.int .i64 (x.err : Int)) ∧ w' = w := by
  cases x with
  | live s =>
    obtain ⟨q, v, f, bd, t, o, rfl, h⟩ := h
    exact err_any h.cs.c0
  | dead e out =>
    obtain ⟨o, rfl, h⟩ := h
    exact err_any h.cell0
theorem cleanq_any {L : List (Option Nat)} {x : Q} (h : At w B g p b L x) : Calls Tryz.prog 30 #[ptr g] w fun r w' => r = .returned (.bool x.clean) ∧ w' = w := by
  cases x with
  | live s =>
    obtain ⟨q, v, f, bd, t, o, rfl, h⟩ := h
    exact clean_live h
  | dead e out =>
    obtain ⟨o, rfl, h⟩ := h
    exact clean_dead (row_cellL h.row rfl)
/-- The record so far, as a value. -/
theorem PR.draft (h : PR w B g q v f bd t o p b s) (ok : s.Ok) : Rec.Reads w (.agg #[.string s.r.m, .string s.r.x, .int .i64 s.r.k, f, .bool s.r.ch, bd, t]) s.r ∧ Rec.Fit s.r := by
  obtain ⟨A1, c1, e1, h1⟩ := Flds.of_own h.own.F
  obtain ⟨A2, c2, e2, h2⟩ := Rec.nums_of_own h.own.D
  obtain ⟨A3, c3, e3, h3⟩ := Flds.of_own h.own.TR
  subst e1 e2 e3
  have k1 := ok.fsl; have k2 := ok.tsl; have k3 := ok.hl; have k4 := ok.bl; have k5 := ok.body; have k6 := ok.m; have k7 := ok.x
  exact ⟨⟨_, _, _, _, _, _, rfl, h1, h2, h3⟩, ⟨by omega, by omega, by omega, fun y hy => by have := ok.fss y hy; omega, by omega, by omega, fun y hy => by have := ok.tss y hy; omega⟩⟩
theorem waits_any {L : List (Option Nat)} {x : Q} (h : At w B g p b L x) (ok : x.Ok b) : Calls Tryz.prog 26 #[ptr g] w fun r w' => r = .returned (.bool x.waits) ∧ Below w.heap.size w w' := by
  cases x with
  | live s =>
    obtain ⟨q, v, f, bd, t, o, rfl, h⟩ := h
    obtain ⟨ok, -⟩ : s.Ok ∧ b.right = true := ok
    have hbl := ok.body
    have HN0 := bodyIsNext_live h (by omega)
    have HD := Lib.hid (draft_any h)
    have HE := Lib.hid (fun (w2 : World) (hb : Below w.heap.size w w2) => Rec.expects_any _ s.r w2 (PR.draft (h.below hb) ok).1 (PR.draft (h.below hb) ok).2)
    show Calls _ _ _ _ fun r w' => r = .returned (.bool (s.next && Rec.expects s.r)) ∧ Below w.heap.size w w'
    clear h ok hbl
    cases hx : s.next with
    | true =>
      rw [hx] at HN0
      have HN := Lib.hid HN0
      clear HN0 hx
      generalize Rec.expects s.r = ex at *
      go_enter Tryz.func26, Tryz.ntmps26
      go_wp2_with (first
        | (go_at_call 50; with_reducible refine (HE.out _ HB2.out).mono ?_; rintro r w4 ⟨rfl, hb4⟩)
        | (go_at_call 51; with_reducible refine HD.out.mono ?_; rintro r w3 ⟨rfl, hb3⟩
           have HB2 := Lib.hid hb3
           clear hb3)
        | (go_at_call 49; with_reducible refine HN.out.mono ?_; rintro r w2 ⟨rfl, hw⟩; rw [hw]; clear hw))
      go_ret
      exact ⟨by cases ex <;> rfl, Base.below_step HB2.out hb4⟩
    | false =>
      rw [hx] at HN0
      have HN := Lib.hid HN0
      clear HN0 hx HD HE
      go_enter Tryz.func26, Tryz.ntmps26
      go_wp2_with (go_at_call 49; with_reducible refine HN.out.mono ?_; rintro r w2 ⟨rfl, hw⟩; rw [hw]; clear hw)
      go_ret
      exact ⟨rfl, Below.refl _ _⟩
  | dead e out =>
    obtain ⟨o, rfl, h⟩ := h
    have HN := Lib.hid (bodyIsNext_dead (w := w) (g := g) (row_cellL h.row rfl))
    clear h ok
    go_enter Tryz.func26, Tryz.ntmps26
    go_wp2_with (go_at_call 49; with_reducible refine HN.out.mono ?_; rintro r w2 ⟨rfl, hw⟩; rw [hw]; clear hw)
    go_ret
    exact ⟨rfl, Below.refl _ _⟩
theorem size_small {r : Rec.R} (h : Rec.Fit r) : Rec.size r ≤ 5000000000000 := by
  have h1 := h.m; have h2 := h.x; have h3 := h.body; have h4 := h.fs; have h5 := h.ts
  have h6 := Rec.weigh_le r.fs 1000000 h.f
  have h7 := Rec.weigh_le r.ts 1000000 h.t
  have h8 : r.fs.length * (1000000 + 1000000) ≤ 1000000000 := Nat.le_trans (Nat.mul_le_mul_right _ h4) (by decide)
  have h9 : r.ts.length * (1000000 + 1000000) ≤ 1000000000 := Nat.le_trans (Nat.mul_le_mul_right _ h5) (by decide)
  unfold Rec.size
  omega
theorem held_any {L : List (Option Nat)} {x : Q} (h : At w B g p b L x) (ok : x.Ok b) : Calls Tryz.prog 28 #[ptr g] w fun r w' => r = .returned (.int .i64 (x.held : Int)) ∧ Below w.heap.size w w' := by
  cases x with
  | live s =>
    obtain ⟨q, v, f, bd, t, o, rfl, h⟩ := h
    obtain ⟨ok, -⟩ : s.Ok ∧ b.right = true := ok
    have HF := Lib.hid (failed_live h.cs.c0)
    have c25 := h.cs.c25
    have hll : s.rd.len ≤ 4096 := by
      have h1 := ok.rd.len; have h2 := ok.rd.most
      unfold Ln.M.len
      split <;> omega
    have hsz := size_small (PR.draft h ok).2
    have HL := Lib.hid (Ln.len_any h.own.R.row h.own.R.own)
    have HD := Lib.hid (draft_any h)
    have HE := Lib.hid (fun (w2 : World) (hb : Below w.heap.size w w2) => Rec.size_any _ s.r w2 (PR.draft (h.below hb) ok).1 (PR.draft (h.below hb) ok).2)
    obtain ⟨a1, a2⟩ := Rec.wraps ((s.rd.len : Int) + (Rec.size s.r : Int)) ⟨by omega, by omega⟩
    show Calls _ _ _ _ fun r w' => r = .returned (.int .i64 ((s.rd.len + Rec.size s.r : Nat) : Int)) ∧ Below w.heap.size w w'
    clear h ok hll hsz
    generalize s.rd.len = n1 at *
    generalize Rec.size s.r = n2 at *
    go_enter Tryz.func28, Tryz.ntmps28
    go_wp2_with (first
      | (go_at_call 55; with_reducible refine (HE.out _ HB2.out).mono ?_; rintro r w4 ⟨rfl, hb4⟩)
      | (go_at_call 51; with_reducible refine HD.out.mono ?_; rintro r w3 ⟨rfl, hb3⟩
         have HB2 := Lib.hid hb3
         clear hb3)
      | (go_at_call 54; with_reducible refine HL.out.mono ?_; rintro r w2 ⟨rfl, hw⟩; rw [hw]; clear hw)
      | (go_at_call 53; with_reducible refine HF.out.mono ?_; rintro r w2 ⟨rfl, hw⟩; rw [hw]; clear hw))
    go_ret
    exact ⟨rfl, Base.below_step HB2.out hb4⟩
  | dead e out =>
    obtain ⟨o, rfl, h⟩ := h
    have HF := Lib.hid (failed_dead h.cell0 h.bad)
    clear h ok
    go_enter Tryz.func28, Tryz.ntmps28
    go_wp2_with (go_at_call 53; with_reducible refine HF.out.mono ?_; rintro r w2 ⟨rfl, hw⟩; rw [hw]; clear hw)
    go_ret
    exact ⟨rfl, Below.refl _ _⟩
end code
end Go.Proofs.YtibnobdbmojjhaaGreatDoor.Pg
