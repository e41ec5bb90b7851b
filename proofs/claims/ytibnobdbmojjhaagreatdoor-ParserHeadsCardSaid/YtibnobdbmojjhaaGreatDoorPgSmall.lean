/-
  Layer 13 (parser): contracts of the program's parser: methods that write a little of it. (Printed by tools/gen_pgsmall.py.)
-/
import Derived.Test.YtibnobdbmojjhaaGreatDoorPgRef
namespace Go.Proofs.YtibnobdbmojjhaaGreatDoor.Pg
open Go.RowKit Base Txt Mem Par

theorem Outs.less {L L' : List (Option Nat)} {B : Nat} {w : World} {o : Value} {out : List Rec.R} (h : Outs L B w o out) (hs : ∀ k, some k ∈ L' → some k ∈ L ∨ w.heap.size ≤ k) : Outs L' B w o out := by
  obtain ⟨ps, h1, h2, h3⟩ := h
  exact ⟨ps, h1, fun x hx => ⟨(h2 x hx).1, (h2 x hx).2.of hs⟩, h3⟩
theorem setRow_keeps (w : World) (g : Nat) (c : Array Value) : Keeps [some g] w (w.setRow g c) :=
  ⟨rfl, rfl, rfl, by simp [World.setRow], fun k _ hn => by
    unfold World.setRow
    simp only [Array.getElem?_modify]
    rw [if_neg (fun e => hn (by rw [e]; exact List.mem_singleton.2 rfl))]⟩
theorem wl_val {P : Program} {ops : Array Oper} {Q : Exit → Act → World → Prop} {rest : List Oper} {o : Oper} {a : Act} {w : World} (hw : Region.wanted o (yielded ops a.tmps) = true) (v : Value) (hv : (execOp a.eval o).run P w = .ok (.value v) w) (h : wpList P ops Q rest (a.put o.dst v) w) : wpList P ops Q (o :: rest) a w := by
  unfold wpList
  rw [if_pos hw]
  left
  unfold Oper.wp
  rw [hv, Oper.upon_value]
  exact h
theorem wl_act {P : Program} {ops : Array Oper} {Q : Exit → Act → World → Prop} {rest : List Oper} {o : Oper} {a : Act} {w : World} (hw : Region.wanted o (yielded ops a.tmps) = true) (h : o.wp P a w (wpList P ops Q rest) Q) : wpList P ops Q (o :: rest) a w := by
  unfold wpList
  rw [if_pos hw]
  exact .inl h
theorem parser_info : (Tryz.prog.info? 55).map (·.size) = some 27 := by kernel_rfl
theorem byte_info : (Tryz.prog.info? 5).map (fun i => (i.zero, i.size, i.bytes)) = some (some (.int .u8 0), 1, 1) := by kernel_rfl
theorem record_info : (Tryz.prog.info? 58).map (fun i => (i.zero, i.size, i.bytes)) = some (some (.agg #[.string ByteArray.empty, .string ByteArray.empty, .int .i64 0, .slice none 0 0, .bool false, .slice none 0 0, .slice none 0 0]), 7, 120) := by kernel_rfl
section code
set_option maxHeartbeats 4000000
set_option maxRecDepth 20000
attribute [local go_sem] Base.some_undef
variable {w : World} {B g q : Nat} {v f bd t o : Value} {p : Nat} {b : Bd} {s : T}
theorem keep_any (c : UInt8) (h : PR w B g q v f bd t o p b s) (hl : 1 ≤ s.left ∧ s.left ≤ 2000000) (hbl : s.r.body.length ≤ 2000000) : Calls Tryz.prog 83 #[.pointer (some ⟨g, 8, none⟩), .int .u8 (c.toNat : Int)] w fun r w' =>
    r = .returned (.bool (decide (s.left = 1))) ∧ ∃ bd1, PR w' B g q v f bd1 t o p b (s.keep c) ∧ Step (blks g q v f bd t o) (blks g q v f bd1 t o) w w' := by
  obtain ⟨iB, hi, hz0, hz1, hz2⟩ := info_parts byte_info
  have I1 := Lib.hid hi; have I2 := Lib.hid hz0; have I3 := Lib.hid hz1; have I4 := Lib.hid hz2
  obtain ⟨bb, cb, eb, -⟩ := Ln.own_slice h.own.D
  subst eb
  have H := Lib.hid h; have HBL := Lib.hid hbl
  have c11 := h.cs.c11; have z11 := h.marks 11
  clear hi hz0 hz1 hz2 hbl h
  by_cases hmore : 1 < s.left
  · obtain ⟨k, hleft⟩ : ∃ k, s.left = k + 1 := ⟨s.left - 1, by omega⟩
    have e : s.keep c = { s with r := { s.r with body := s.r.body ++ [c] }, left := k } := by unfold T.keep; rw [hleft]; rfl
    rw [e, decide_eq_false (show ¬ s.left = 1 by omega)]
    obtain ⟨a1, a2⟩ := Rec.wraps (k : Int) ⟨by omega, by omega⟩
    have a3 : (k : Int) + 1 - 1 = (k : Int) := by omega
    have t1 : ((k : Int) == 0) = false := beq_eq_false_iff_ne.2 (by omega)
    have t2 : ¬ (k : Int) = 0 := by omega
    have t3 : ¬ k = 0 := by omega
    clear e hmore
    go_enter Tryz.func83, Tryz.ntmps83
    have HLE := Lib.hid hleft
    clear hleft hl
    go_upto_region 2 with
      (at_builtin; refine App.wpList_append_list _ rfl _ _ 22 rfl B 5 iB (.int .u8 0) 1 1 Tryz.underlying22 I1.out I2.out I3.out I4.out rfl (by decide) (.slice bb s.r.body.length cb) s.r.body.length (Rec.vals s.r.body) rfl (H.out.own.D.alloc (.cells #[Rec.byteV c] 5)) (some ⟨w.heap.size, 0, none⟩) 1 1 [Rec.byteV c] rfl rfl (fun _ => ⟨w.heap.size, 0, rfl, fun j u hu => by rw [Nat.zero_add]; exact (Rec.Bk.new w _ rfl 5 [Rec.byteV c]).c j u hu⟩) (fun u hu => by rw [List.mem_singleton.1 hu]; rfl) (by have := HBL.out; unfold maxLen; omega) (by have := HBL.out; omega) (by have := H.out.own.lt; have := H.out.own.ge; simp; omega) ?_
       intro v2 w5 hO5 hgr5 _ hor5
       obtain ⟨b9, c9, e9, -⟩ := Ln.own_slice hO5
       subst e9
       have hk5 : Keeps [(.slice bb s.r.body.length cb : Value).ownBlock] (w.alloc (.cells #[Rec.byteV c] 5)) w5 := Keeps.grown hgr5 fun k e => by rw [e]; exact List.mem_singleton.2 rfl
       have h4 := H.out.below ((Below.refl _ _).alloc (Nat.le_refl _) (.cells #[Rec.byteV c] 5))
       have hl : (s.r.body ++ [c]).length = s.r.body.length + 1 := by simp
       obtain ⟨ho5, hs5⟩ := h4.own.setD (bd' := .slice b9 (s.r.body.length + 1) c9) (body' := s.r.body ++ [c]) hk5 (by rw [hl, Rec.vals_app]; exact hO5) (by
         rcases hor5 with e | e
         · exact .inl e
         · exact .inr ⟨_, e, Nat.le_refl _⟩)
       have hrow : w5.heap[g]? = _ := hk5.row h4.row (fun hm => by
         have e : some g = (.slice bb s.r.body.length cb : Value).ownBlock := by simpa using hm
         exact h4.own.lone.ne (i := 0) (j := 4) rfl (by decide) (by rw [e]; rfl))
       have HR5 := Lib.hid hrow; have HO5 := Lib.hid ho5; have HS5 := Lib.hid ((Step.of_below ((Below.refl w.heap.size w).alloc (Nat.le_refl _) (.cells #[Rec.byteV c] 5))).trans hs5)
       have d11 := row_cellL hrow (k := 11) rfl; have y11 := Ln.row_frozen hrow 11
       clear hO5 hgr5 hor5 hk5 h4 hl ho5 hs5 hrow c11 z11)
    have H6 := Lib.hid (show PR (w5.setCell ⟨g, 11, none⟩ (.slice b9 (s.r.body.length + 1) c9)) B g q v f (.slice b9 (s.r.body.length + 1) c9) t o p b { s with r := { s.r with body := s.r.body ++ [c] } } from ⟨row_setL HR5.out 11 (.slice b9 (s.r.body.length + 1) c9), HO5.out.set 11 (.slice b9 (s.r.body.length + 1) c9)⟩)
    have HS6 := Lib.hid (HS5.out.trans (Step.set g 11 (.slice b9 (s.r.body.length + 1) c9) (by simp)))
    clear HR5 HO5 HS5 d11 y11
    generalize w5.setCell ⟨g, 11, none⟩ (.slice b9 (s.r.body.length + 1) c9) = W6 at *
    have c12 : W6.cell? ⟨g, 12, none⟩ = some (.int .i64 ((k : Int) + 1)) := by have := H6.out.cs.c12; rw [HLE.out] at this; exact this
    have z12 := H6.out.marks 12
    have H7 := Lib.hid (H6.out.put 12 (.int .i64 (k : Int)) { s with r := { s.r with body := s.r.body ++ [c] }, left := k } rfl rfl rfl rfl rfl rfl)
    have HS7 := Lib.hid (HS6.out.trans (Step.set g 12 (.int .i64 (k : Int)) (by simp)))
    clear HS6 H H6
    go_wp2
    go_ret
    exact ⟨rfl, _, H7.out, HS7.out⟩
  · have hleft : s.left = 1 := by omega
    have e : s.keep c = { s with r := { s.r with body := s.r.body ++ [c] }, left := 0 } := by unfold T.keep; rw [hleft]
    rw [e, decide_eq_true hleft]
    clear e hmore
    go_enter Tryz.func83, Tryz.ntmps83
    have HLE := Lib.hid hleft
    clear hleft hl
    go_upto_region 2 with
      (at_builtin; refine App.wpList_append_list _ rfl _ _ 22 rfl B 5 iB (.int .u8 0) 1 1 Tryz.underlying22 I1.out I2.out I3.out I4.out rfl (by decide) (.slice bb s.r.body.length cb) s.r.body.length (Rec.vals s.r.body) rfl (H.out.own.D.alloc (.cells #[Rec.byteV c] 5)) (some ⟨w.heap.size, 0, none⟩) 1 1 [Rec.byteV c] rfl rfl (fun _ => ⟨w.heap.size, 0, rfl, fun j u hu => by rw [Nat.zero_add]; exact (Rec.Bk.new w _ rfl 5 [Rec.byteV c]).c j u hu⟩) (fun u hu => by rw [List.mem_singleton.1 hu]; rfl) (by have := HBL.out; unfold maxLen; omega) (by have := HBL.out; omega) (by have := H.out.own.lt; have := H.out.own.ge; simp; omega) ?_
       intro v2 w5 hO5 hgr5 _ hor5
       obtain ⟨b9, c9, e9, -⟩ := Ln.own_slice hO5
       subst e9
       have hk5 : Keeps [(.slice bb s.r.body.length cb : Value).ownBlock] (w.alloc (.cells #[Rec.byteV c] 5)) w5 := Keeps.grown hgr5 fun k e => by rw [e]; exact List.mem_singleton.2 rfl
       have h4 := H.out.below ((Below.refl _ _).alloc (Nat.le_refl _) (.cells #[Rec.byteV c] 5))
       have hl : (s.r.body ++ [c]).length = s.r.body.length + 1 := by simp
       obtain ⟨ho5, hs5⟩ := h4.own.setD (bd' := .slice b9 (s.r.body.length + 1) c9) (body' := s.r.body ++ [c]) hk5 (by rw [hl, Rec.vals_app]; exact hO5) (by
         rcases hor5 with e | e
         · exact .inl e
         · exact .inr ⟨_, e, Nat.le_refl _⟩)
       have hrow : w5.heap[g]? = _ := hk5.row h4.row (fun hm => by
         have e : some g = (.slice bb s.r.body.length cb : Value).ownBlock := by simpa using hm
         exact h4.own.lone.ne (i := 0) (j := 4) rfl (by decide) (by rw [e]; rfl))
       have HR5 := Lib.hid hrow; have HO5 := Lib.hid ho5; have HS5 := Lib.hid ((Step.of_below ((Below.refl w.heap.size w).alloc (Nat.le_refl _) (.cells #[Rec.byteV c] 5))).trans hs5)
       have d11 := row_cellL hrow (k := 11) rfl; have y11 := Ln.row_frozen hrow 11
       clear hO5 hgr5 hor5 hk5 h4 hl ho5 hs5 hrow c11 z11)
    have H6 := Lib.hid (show PR (w5.setCell ⟨g, 11, none⟩ (.slice b9 (s.r.body.length + 1) c9)) B g q v f (.slice b9 (s.r.body.length + 1) c9) t o p b { s with r := { s.r with body := s.r.body ++ [c] } } from ⟨row_setL HR5.out 11 (.slice b9 (s.r.body.length + 1) c9), HO5.out.set 11 (.slice b9 (s.r.body.length + 1) c9)⟩)
    have HS6 := Lib.hid (HS5.out.trans (Step.set g 11 (.slice b9 (s.r.body.length + 1) c9) (by simp)))
    clear HR5 HO5 HS5 d11 y11
    generalize w5.setCell ⟨g, 11, none⟩ (.slice b9 (s.r.body.length + 1) c9) = W6 at *
    have c12 : W6.cell? ⟨g, 12, none⟩ = some (.int .i64 1) := by have := H6.out.cs.c12; rw [HLE.out] at this; exact this
    have z12 := H6.out.marks 12
    have H7 := Lib.hid (H6.out.put 12 (.int .i64 0) { s with r := { s.r with body := s.r.body ++ [c] }, left := 0 } rfl rfl rfl rfl rfl rfl)
    have HS7 := Lib.hid (HS6.out.trans (Step.set g 12 (.int .i64 0) (by simp)))
    clear HS6 H H6
    go_wp2
    go_ret
    exact ⟨rfl, _, H7.out, HS7.out⟩
theorem count_any (most : Int) (h : PR w B g q v f bd t o p b s) (hsz : s.size ≤ 1000000) : Calls Tryz.prog 85 #[.pointer (some ⟨g, 1, none⟩), .int .i64 most] w fun r w' =>
    r = .returned (.bool (!decide (most < (s.counted.size : Int)))) ∧ PR w' B g q v f bd t o p b s.counted ∧ Step (blks g q v f bd t o) (blks g q v f bd t o) w w' := by
  obtain ⟨a1, a2⟩ := Rec.wraps ((s.size : Int) + 1) ⟨by omega, by omega⟩
  have c6 := h.cs.c6; have z6 := h.marks 6; have c7 := h.cs.c7; have z7 := h.marks 7
  have H := Lib.hid h
  unfold T.counted
  cases hc : s.cnt with
  | true =>
    rw [hc] at c7
    have HC := Lib.hid hc
    clear h hc
    rw [if_pos rfl]
    by_cases hm : most < (s.size : Int)
    · have t1 : ¬ (s.size : Int) ≤ most := by omega
      rw [decide_eq_true hm]
      clear hm
      go_enter Tryz.func85, Tryz.ntmps85
      go_wp2
      go_ret
      exact ⟨rfl, H.out, Step.refl⟩
    · have t1 : (s.size : Int) ≤ most := by omega
      rw [decide_eq_false hm]
      clear hm
      go_enter Tryz.func85, Tryz.ntmps85
      go_wp2
      go_ret
      exact ⟨rfl, H.out, Step.refl⟩
  | false =>
    rw [hc] at c7
    have H2 := Lib.hid ((h.put 7 (.bool true) { s with cnt := true } rfl rfl rfl rfl rfl rfl).put 6 (.int .i64 ((s.size : Int) + 1)) { s with cnt := true, size := s.size + 1 } rfl rfl rfl rfl rfl rfl)
    have HS2 := Lib.hid ((Step.set (w := w) (L := blks g q v f bd t o) g 7 (.bool true) (by simp)).trans (Step.set g 6 (.int .i64 ((s.size : Int) + 1)) (by simp)))
    clear h hc
    rw [if_neg (by decide)]
    by_cases hm : most < ((s.size + 1 : Nat) : Int)
    · have t1 : ¬ (s.size : Int) + 1 ≤ most := by omega
      rw [decide_eq_true hm]
      clear hm
      go_enter Tryz.func85, Tryz.ntmps85
      go_wp2
      go_ret
      exact ⟨rfl, H2.out, HS2.out⟩
    · have t1 : (s.size : Int) + 1 ≤ most := by omega
      rw [decide_eq_false hm]
      clear hm
      go_enter Tryz.func85, Tryz.ntmps85
      go_wp2
      go_ret
      exact ⟨rfl, H2.out, HS2.out⟩
theorem fail_zero (w : World) (g : Nat) : Calls Tryz.prog 86 #[ptr g, .int .i64 0] w fun r w' => r = .returned (.tuple #[]) ∧ w' = w := by
  go_enter Tryz.func86, Tryz.ntmps86
  go_wp2
  go_end0
  exact ⟨rfl, rfl⟩
theorem fail_any (h : PR w B g q v f bd t o p b s) (e : Nat) (he : e ≠ 0) (x : Int) (hx : x = (e : Int)) : Calls Tryz.prog 86 #[ptr g, .int .i64 x] w fun r w' =>
    r = .returned (.tuple #[]) ∧ Dead w' B g e o s.out ∧ Step (blks g q v f bd t o) [some g, o.ownBlock] w w' := by
  subst hx
  obtain ⟨ps0, -, -, hrow0⟩ := h.own.O
  obtain ⟨oo, oc, eo, -⟩ := Ln.own_slice hrow0
  subst eo
  clear hrow0
  obtain ⟨W1, hW1⟩ : ∃ W1, w.setRow g (deadcells e (.slice oo s.out.length oc)).toArray = W1 := ⟨_, rfl⟩
  have hk : Keeps [some g] w W1 := by rw [← hW1]; exact setRow_keeps _ _ _
  have hrow : W1.heap[g]? = some (.cells (deadcells e (.slice oo s.out.length oc)).toArray 55 (0, 0)) := by rw [← hW1]; exact setRow_heap w g _ _ _ _ h.row
  have hne : (Value.slice oo s.out.length oc).ownBlock ≠ some g := fun e => h.own.lone.ne (i := 0) (j := 6) rfl (by decide) (by rw [← e]; rfl)
  have hsub : ∀ k, some k ∈ [some g, (Value.slice oo s.out.length oc).ownBlock] → some k ∈ blks g q v f bd t (.slice oo s.out.length oc) := fun k hk => by
    simp only [List.mem_cons, List.not_mem_nil, or_false] at hk ⊢
    rcases hk with hk | hk
    · exact .inl hk
    · exact .inr (.inr (.inr (.inr (.inr (.inr hk)))))
  have HD := Lib.hid (show Dead W1 B g e (.slice oo s.out.length oc) s.out from ⟨hrow, Outs.less (h.own.O.keeps hk (fun k hk => by simp only [List.mem_singleton] at hk; simp [hk]) (fun k e hm => hne (by rw [e, List.mem_singleton.1 hm]))) (fun k hk => .inl (hsub k hk)), hne, h.own.ge, Nat.lt_of_lt_of_le h.own.lt hk.size, he⟩)
  have HS := Lib.hid (show Step (blks g q v f bd t (.slice oo s.out.length oc)) [some g, (Value.slice oo s.out.length oc).ownBlock] w W1 from ⟨hk.mono (fun k hk => by simp only [List.mem_singleton] at hk; simp [hk]), fun k hk => .inl (hsub k hk)⟩)
  have c26 := h.cs.c26; have HR := Lib.hid h.row; have HW1 := Lib.hid hW1
  have t1 : ((e : Int) == 0) = false := beq_eq_false_iff_ne.2 (by omega)
  have t2 : ¬ (e : Int) = 0 := by omega
  have t3 : ((e : Int) != 0) = true := bne_iff_ne.2 t2
  clear hk hrow hne hsub h he hW1
  go_enter Tryz.func86, Tryz.ntmps86
  go_upto_region 1 with fail
  refine wp_region_lit ?_
  refine wl_val (by rfl) (ptr g) (by go_simp) ?_
  simp only [Act.put, List.setIfInBounds_toArray, List.set_cons_zero, List.set_cons_succ]
  refine wl_val (by rfl) (.int .i64 (e : Int)) (by go_simp) ?_
  simp only [Act.put, List.setIfInBounds_toArray, List.set_cons_zero, List.set_cons_succ]
  refine wl_val (by rfl) (.agg #[.int .i64 (e : Int)]) (by go_simp) ?_
  simp only [Act.put, List.setIfInBounds_toArray, List.set_cons_zero, List.set_cons_succ]
  refine wl_val (by rfl) (ptr g) (by go_simp) ?_
  simp only [Act.put, List.setIfInBounds_toArray, List.set_cons_zero, List.set_cons_succ]
  refine wl_val (by rfl) (ptr g) (by go_simp) ?_
  simp only [Act.put, List.setIfInBounds_toArray, List.set_cons_zero, List.set_cons_succ]
  refine wl_val (by rfl) (.pointer (some ⟨g, 26, none⟩)) (by go_simp) ?_
  simp only [Act.put, List.setIfInBounds_toArray, List.set_cons_zero, List.set_cons_succ]
  refine wl_val (by rfl) (.slice oo s.out.length oc) (by go_simp) ?_
  simp only [Act.put, List.setIfInBounds_toArray, List.set_cons_zero, List.set_cons_succ]
  refine wl_val (by rfl) (.agg (deadcells e (.slice oo s.out.length oc)).toArray) (by go_simp) ?_
  simp only [Act.put, List.setIfInBounds_toArray, List.set_cons_zero, List.set_cons_succ]
  refine wl_val (by rfl) (ptr g) (by go_simp) ?_
  simp only [Act.put, List.setIfInBounds_toArray, List.set_cons_zero, List.set_cons_succ]
  refine wl_act (by rfl) (wp_store_row 55 (.tmp 14) (.tmp 13) rfl g (deadcells e (.slice oo s.out.length oc)).toArray rfl rfl 55 _ HR.out parser_info rfl (Array.all_eq_true_iff_forall_mem.2 (by intro u hu; simp only [List.mem_toArray, List.mem_cons, List.not_mem_nil, or_false] at hu; rcases hu with rfl | rfl | rfl | rfl | rfl | rfl | rfl | rfl | rfl | rfl | rfl | rfl | rfl | rfl | rfl | rfl | rfl | rfl | rfl | rfl | rfl | rfl | rfl | rfl | rfl | rfl | rfl <;> rfl)) ?_)
  rw [HW1.out]
  refine wpList_nil ?_
  go_wp2
  go_end0
  exact ⟨rfl, HD.out, HS.out⟩
theorem finish_any (h : PR w B g q v f bd t o p b s) (hn : s.out.length ≤ 1000000000) : Calls Tryz.prog 102 #[ptr g] w fun r w' =>
    r = .returned (.tuple #[]) ∧ ∃ o1, PR w' B g q v nil nil nil o1 p b s.fin ∧ Step (blks g q v f bd t o) (blks g q v nil nil nil o1) w w' := by
  obtain ⟨iR, hi, hz0, hz1, hz2⟩ := info_parts record_info
  have I1 := Lib.hid hi; have I2 := Lib.hid hz0; have I3 := Lib.hid hz1; have I4 := Lib.hid hz2
  clear hi hz0 hz1 hz2
  have H := Lib.hid h; have HN := Lib.hid hn; have HD := Lib.hid (h.drew 1)
  have HQ := Lib.hid ((h.drew 1).bk)
  clear h hn
  go_enter Tryz.func102, Tryz.ntmps102
  go_upto_region 0 with fail
  refine Each.region_float 8 [2, 3, 4, 5, 6, 7, 8, 9]
      [fun v _ => v = .pointer (some ⟨g, 0, none⟩),
        fun v _ => v = .pointer (some ⟨g, 0, none⟩),
        fun v _ => v = .pointer (some ⟨g, 0, none⟩),
        fun v _ => v = .pointer (some ⟨g, 26, none⟩),
        fun v _ => v = o,
        fun v _ => v = .pointer (some ⟨g, 0, none⟩),
        fun v _ => v = .agg #[.string s.r.m, .string s.r.x, .int .i64 s.r.k, f, .bool s.r.ch, bd, t],
        fun v w => ∃ g1, v = .slice (some ⟨g1, 0, none⟩) 1 1 ∧ Rec.Bk w g1 [.string s.r.m, .string s.r.x, .int .i64 s.r.k, f, .bool s.r.ch, bd, t]]
      [] 4 (some 0) (.act 8 (.quiet 9 (.quiet 10 (.act 11 .done)))) (.quiet 0 (.act 8 (.quiet 9 (.quiet 10 (.act 11 .done))))) (by kernel_rfl) (by kernel_rfl) (by kernel_rfl) (by kernel_rfl) (fun k0 h => by cases h; kernel_rfl) (fun _ _ d _ _ h => by cases d <;> exact h) (by rfl) (by rfl)
      ⟨Each.Lasts.eq _, Each.Lasts.eq _, Each.Lasts.eq _, Each.Lasts.eq _, Each.Lasts.eq _, Each.Lasts.eq _, Each.Lasts.eq _, ((fun _ _ _ hb h => by obtain ⟨g1, e1, hB⟩ := h; exact ⟨g1, e1, hB.below hb⟩)), trivial⟩ trivial (by rfl) ?_ ?_ ?_
  · refine ⟨?_, ?_, ?_, ?_, ?_, ?_, ?_, ?_, trivial⟩
    · refine Each.fine rfl (fun ev w1 hR hb hh => ?_)
      clear hh
      have e0 := hR.old 0 rfl
      simp only [Array.getD_eq_getD_getElem?, List.getElem?_toArray, List.getElem?_cons_zero, Option.getD_some] at e0
      refine Each.Goes.same ?_
      go_simp
      try with_reducible rfl
    · refine Each.fine rfl (fun ev w1 hR hb hh => ?_)
      clear hh
      have e0 := hR.old 0 rfl
      simp only [Array.getD_eq_getD_getElem?, List.getElem?_toArray, List.getElem?_cons_zero, Option.getD_some] at e0
      refine Each.Goes.same ?_
      go_simp
      try with_reducible rfl
    · refine Each.fine rfl (fun ev w1 hR hb hh => ?_)
      have e3 : (ev (.tmp 3) = .pointer (some ⟨g, 0, none⟩)) := hh.at 0
      clear hh
      refine Each.Goes.same ?_
      go_simp
      try with_reducible rfl
    · refine Each.fine rfl (fun ev w1 hR hb hh => ?_)
      have e4 : (ev (.tmp 4) = .pointer (some ⟨g, 0, none⟩)) := hh.at 0
      clear hh
      refine Each.Goes.same ?_
      go_simp
      try with_reducible rfl
    · refine Each.fine rfl (fun ev w1 hR hb hh => ?_)
      have e5 : (ev (.tmp 5) = .pointer (some ⟨g, 26, none⟩)) := hh.at 0
      clear hh
      have q26 := (HQ.out.below hb).c 26 _ rfl
      refine Each.Goes.same ?_
      go_simp
      try with_reducible rfl
    · refine Each.fine rfl (fun ev w1 hR hb hh => ?_)
      clear hh
      have e0 := hR.old 0 rfl
      simp only [Array.getD_eq_getD_getElem?, List.getElem?_toArray, List.getElem?_cons_zero, Option.getD_some] at e0
      refine Each.Goes.same ?_
      go_simp
      try with_reducible rfl
    · refine Each.fine rfl (fun ev w1 hR hb hh => ?_)
      have e7 : (ev (.tmp 7) = .pointer (some ⟨g, 0, none⟩)) := hh.at 0
      clear hh
      have ef := hR.func
      refine Each.Goes.enter 51 #[ptr g] (by go_simp) ((draft_any (HD.out.below hb)).mono ?_)
      rintro r w2 ⟨rfl, hb2⟩
      exact ⟨_, rfl, hb2, rfl⟩
    · refine Each.fine rfl (fun ev w1 hR hb hh => ?_)
      have e8 : (ev (.tmp 8) = .agg #[.string s.r.m, .string s.r.x, .int .i64 s.r.k, f, .bool s.r.ch, bd, t]) := hh.at 0
      clear hh
      exact Each.Goes.value (.slice (some ⟨w1.heap.size, 0, none⟩) 1 1) (w1.alloc (.cells #[.string s.r.m, .string s.r.x, .int .i64 s.r.k, f, .bool s.r.ch, bd, t] 58)) (by go_simp) ((Below.refl _ _).alloc (Nat.le_refl _) _) ⟨_, rfl, Rec.Bk.new w1 _ rfl 58 [.string s.r.m, .string s.r.x, .int .i64 s.r.k, f, .bool s.r.ch, bd, t]⟩
  · intro g1 w2 hb hf
    have z2 : (g1 2 = .pointer (some ⟨g, 0, none⟩)) := hf.at 0
    have z6 : (g1 6 = o) := hf.at 4
    have z9 : ((fun v w => ∃ g1, v = .slice (some ⟨g1, 0, none⟩) 1 1 ∧ Rec.Bk w g1 [.string s.r.m, .string s.r.x, .int .i64 s.r.k, f, .bool s.r.ch, bd, t]) (g1 9) w2) := hf.at 7
    clear hf
    obtain ⟨gl, el, hBl⟩ := z9
    simp only [Each.putg, Act.put, List.setIfInBounds_toArray, List.set_cons_zero, List.set_cons_succ]
    rw [z2, z6, el]
    simp only [Tree.grow, Tree.put1, List.getElem?_cons_zero, List.getElem?_cons_succ]
    have H2 := H.out.below hb
    obtain ⟨ps, hps, hfar, hrow⟩ := H2.own.O
    obtain ⟨bo, co, eo, -⟩ := Ln.own_slice hrow
    subst eo
    obtain ⟨v', w3, hrun, ho, hgr, hor⟩ := App.run_append_list w2 39 39 B 58 iR (.agg #[.string ByteArray.empty, .string ByteArray.empty, .int .i64 0, .slice none 0 0, .bool false, .slice none 0 0, .slice none 0 0]) 7 120 Tryz.underlying39 I1.out I2.out I3.out I4.out rfl (by decide) (.slice bo s.out.length co) s.out.length (ps.flatMap (·.1.toList)) hrow (some ⟨gl, 0, none⟩) 1 1 [.string s.r.m, .string s.r.x, .int .i64 s.r.k, f, .bool s.r.ch, bd, t] rfl (fun _ => ⟨gl, 0, rfl, fun j u hu => by rw [Nat.zero_add]; exact hBl.c j u hu⟩) (by intro u hu; simp only [List.mem_cons, List.not_mem_nil, or_false] at hu; rcases hu with rfl | rfl | rfl | rfl | rfl | rfl | rfl <;> first | rfl | exact one_own H2.own.F | exact one_own H2.own.D | exact one_own H2.own.TR) (by have := HN.out; unfold maxLen; omega) (by have := HN.out; omega) (Nat.le_trans H2.own.ge (Nat.le_of_lt H2.own.lt))
    obtain ⟨b9, c9, e9, -⟩ := Ln.own_slice ho
    subst e9
    have HP := H2.own.push hgr ps hps hfar ho hor
    have hr3 : w3.heap[g]? = some (.cells (pgcells p b s q f bd t (.slice bo s.out.length co)).toArray 55 (0, 0)) := (hgr.block g H2.own.lt (fun e => H2.own.lone.ne (i := 0) (j := 6) rfl (by decide) (by rw [e]; rfl))).trans H2.row
    refine Tree.change (by rfl) (fun K hK => ?_)
    refine Each.oper_append _ _ _ rfl (by rfl) (by rfl) hrun ?_
    refine hK _ _ trivial ?_
    clear hK K hrun
    simp only [Act.put, List.setIfInBounds_toArray, List.set_cons_zero, List.set_cons_succ]
    refine Tree.quiet (by rfl) (ptr g) (fun _ _ => by go_simp) ?_
    simp only [Act.put, List.setIfInBounds_toArray, List.set_cons_zero, List.set_cons_succ]
    refine Tree.quiet (by rfl) (.pointer (some ⟨g, 26, none⟩)) (fun _ _ => by go_simp) ?_
    simp only [Act.put, List.setIfInBounds_toArray, List.set_cons_zero, List.set_cons_succ]
    have c26 := (Cs.of hr3).c26; have z26 := Ln.row_frozen hr3 26
    refine Tree.change (by rfl) (fun K hK => ?_)
    go_simp
    refine hK _ _ trivial ?_
    clear hK K
    refine Tree.done ?_
    have HR4 := Lib.hid (row_setL hr3 26 (.slice b9 (s.out.length + 1) c9))
    have HO4 := Lib.hid (HP.set 26 (.slice b9 (s.out.length + 1) c9))
    have HS4 := Lib.hid (((Step.of_below hb (L := blks g q v f bd t (.slice bo s.out.length co))).trans (Step.push hgr hor)).trans (Step.set g 26 (.slice b9 (s.out.length + 1) c9) (by simp)))
    clear c26 z26 hr3 HP hgr ho hor hrow hfar hps H2 hBl
    generalize w3.setCell ⟨g, 26, none⟩ (.slice b9 (s.out.length + 1) c9) = W4 at *
    have cs := Cs.of (s := { s with out := s.out ++ [s.r] }) (o := .slice b9 (s.out.length + 1) c9) HR4.out
    have c1 := cs.c1; have z1 := Ln.row_frozen HR4.out 1; have c2 := cs.c2; have z2 := Ln.row_frozen HR4.out 2; have c3 := cs.c3; have z3 := Ln.row_frozen HR4.out 3; have c4 := cs.c4; have z4 := Ln.row_frozen HR4.out 4; have c5 := cs.c5; have z5 := Ln.row_frozen HR4.out 5; have c6 := cs.c6; have z6 := Ln.row_frozen HR4.out 6; have c7 := cs.c7; have z7 := Ln.row_frozen HR4.out 7; have c8 := cs.c8; have z8 := Ln.row_frozen HR4.out 8; have c9 := cs.c9; have z9 := Ln.row_frozen HR4.out 9; have c10 := cs.c10; have z10 := Ln.row_frozen HR4.out 10; have c11 := cs.c11; have z11 := Ln.row_frozen HR4.out 11; have c12 := cs.c12; have z12 := Ln.row_frozen HR4.out 12; have c24 := cs.c24; have z24 := Ln.row_frozen HR4.out 24
    clear cs
    go_wp2
    go_end0
    exact ⟨rfl, _, ⟨row_setL (row_setL (row_setL (row_setL (row_setL (row_setL (row_setL (row_setL (row_setL (row_setL (row_setL (row_setL (row_setL (HR4.out) 1 (.int .i64 0)) 2 (nil)) 3 (.string E0)) 4 (.string E0)) 5 (.int .i64 0)) 6 (.int .i64 0)) 7 (.bool false)) 8 (.int .i64 0)) 9 (nil)) 10 (.bool false)) 11 (nil)) 12 (.int .i64 0)) 24 (.int .i64 1), (((((((((((((HO4.out).set 1 (.int .i64 0)).set 2 (nil)).set 3 (.string E0)).set 4 (.string E0)).set 5 (.int .i64 0)).set 6 (.int .i64 0)).set 7 (.bool false)).set 8 (.int .i64 0)).set 9 (nil)).set 10 (.bool false)).set 11 (nil)).set 12 (.int .i64 0)).set 24 (.int .i64 1)⟩, (((((((((((((HS4.out).trans (Step.set g 1 (.int .i64 0) (by simp))).trans (Step.set g 2 (nil) (by simp))).trans (Step.set g 3 (.string E0) (by simp))).trans (Step.set g 4 (.string E0) (by simp))).trans (Step.set g 5 (.int .i64 0) (by simp))).trans (Step.set g 6 (.int .i64 0) (by simp))).trans (Step.set g 7 (.bool false) (by simp))).trans (Step.set g 8 (.int .i64 0) (by simp))).trans (Step.set g 9 (nil) (by simp))).trans (Step.set g 10 (.bool false) (by simp))).trans (Step.set g 11 (nil) (by simp))).trans (Step.set g 12 (.int .i64 0) (by simp))).trans (Step.set g 24 (.int .i64 1) (by simp))⟩
  · intro k0 hk0 g1 w2 hb hf
    cases hk0
    have z6 : (g1 6 = o) := hf.at 4
    have z9 : ((fun v w => ∃ g1, v = .slice (some ⟨g1, 0, none⟩) 1 1 ∧ Rec.Bk w g1 [.string s.r.m, .string s.r.x, .int .i64 s.r.k, f, .bool s.r.ch, bd, t]) (g1 9) w2) := hf.at 7
    clear hf
    obtain ⟨gl, el, hBl⟩ := z9
    simp only [Each.putg, Act.put, List.setIfInBounds_toArray, List.set_cons_zero, List.set_cons_succ]
    rw [z6, el]
    simp only [Tree.grow, Tree.put1, List.getElem?_cons_zero, List.getElem?_cons_succ]
    refine Tree.quiet (by rfl) (ptr g) (fun _ _ => by go_simp) ?_
    simp only [Act.put, List.setIfInBounds_toArray, List.set_cons_zero, List.set_cons_succ]
    have H2 := H.out.below hb
    obtain ⟨ps, hps, hfar, hrow⟩ := H2.own.O
    obtain ⟨bo, co, eo, -⟩ := Ln.own_slice hrow
    subst eo
    obtain ⟨v', w3, hrun, ho, hgr, hor⟩ := App.run_append_list w2 39 39 B 58 iR (.agg #[.string ByteArray.empty, .string ByteArray.empty, .int .i64 0, .slice none 0 0, .bool false, .slice none 0 0, .slice none 0 0]) 7 120 Tryz.underlying39 I1.out I2.out I3.out I4.out rfl (by decide) (.slice bo s.out.length co) s.out.length (ps.flatMap (·.1.toList)) hrow (some ⟨gl, 0, none⟩) 1 1 [.string s.r.m, .string s.r.x, .int .i64 s.r.k, f, .bool s.r.ch, bd, t] rfl (fun _ => ⟨gl, 0, rfl, fun j u hu => by rw [Nat.zero_add]; exact hBl.c j u hu⟩) (by intro u hu; simp only [List.mem_cons, List.not_mem_nil, or_false] at hu; rcases hu with rfl | rfl | rfl | rfl | rfl | rfl | rfl <;> first | rfl | exact one_own H2.own.F | exact one_own H2.own.D | exact one_own H2.own.TR) (by have := HN.out; unfold maxLen; omega) (by have := HN.out; omega) (Nat.le_trans H2.own.ge (Nat.le_of_lt H2.own.lt))
    obtain ⟨b9, c9, e9, -⟩ := Ln.own_slice ho
    subst e9
    have HP := H2.own.push hgr ps hps hfar ho hor
    have hr3 : w3.heap[g]? = some (.cells (pgcells p b s q f bd t (.slice bo s.out.length co)).toArray 55 (0, 0)) := (hgr.block g H2.own.lt (fun e => H2.own.lone.ne (i := 0) (j := 6) rfl (by decide) (by rw [e]; rfl))).trans H2.row
    refine Tree.change (by rfl) (fun K hK => ?_)
    refine Each.oper_append _ _ _ rfl (by rfl) (by rfl) hrun ?_
    refine hK _ _ trivial ?_
    clear hK K hrun
    simp only [Act.put, List.setIfInBounds_toArray, List.set_cons_zero, List.set_cons_succ]
    refine Tree.quiet (by rfl) (ptr g) (fun _ _ => by go_simp) ?_
    simp only [Act.put, List.setIfInBounds_toArray, List.set_cons_zero, List.set_cons_succ]
    refine Tree.quiet (by rfl) (.pointer (some ⟨g, 26, none⟩)) (fun _ _ => by go_simp) ?_
    simp only [Act.put, List.setIfInBounds_toArray, List.set_cons_zero, List.set_cons_succ]
    have c26 := (Cs.of hr3).c26; have z26 := Ln.row_frozen hr3 26
    refine Tree.change (by rfl) (fun K hK => ?_)
    go_simp
    refine hK _ _ trivial ?_
    clear hK K
    refine Tree.done ?_
    have HR4 := Lib.hid (row_setL hr3 26 (.slice b9 (s.out.length + 1) c9))
    have HO4 := Lib.hid (HP.set 26 (.slice b9 (s.out.length + 1) c9))
    have HS4 := Lib.hid (((Step.of_below hb (L := blks g q v f bd t (.slice bo s.out.length co))).trans (Step.push hgr hor)).trans (Step.set g 26 (.slice b9 (s.out.length + 1) c9) (by simp)))
    clear c26 z26 hr3 HP hgr ho hor hrow hfar hps H2 hBl
    generalize w3.setCell ⟨g, 26, none⟩ (.slice b9 (s.out.length + 1) c9) = W4 at *
    have cs := Cs.of (s := { s with out := s.out ++ [s.r] }) (o := .slice b9 (s.out.length + 1) c9) HR4.out
    have c1 := cs.c1; have z1 := Ln.row_frozen HR4.out 1; have c2 := cs.c2; have z2 := Ln.row_frozen HR4.out 2; have c3 := cs.c3; have z3 := Ln.row_frozen HR4.out 3; have c4 := cs.c4; have z4 := Ln.row_frozen HR4.out 4; have c5 := cs.c5; have z5 := Ln.row_frozen HR4.out 5; have c6 := cs.c6; have z6 := Ln.row_frozen HR4.out 6; have c7 := cs.c7; have z7 := Ln.row_frozen HR4.out 7; have c8 := cs.c8; have z8 := Ln.row_frozen HR4.out 8; have c9 := cs.c9; have z9 := Ln.row_frozen HR4.out 9; have c10 := cs.c10; have z10 := Ln.row_frozen HR4.out 10; have c11 := cs.c11; have z11 := Ln.row_frozen HR4.out 11; have c12 := cs.c12; have z12 := Ln.row_frozen HR4.out 12; have c24 := cs.c24; have z24 := Ln.row_frozen HR4.out 24
    clear cs
    go_wp2
    go_end0
    exact ⟨rfl, _, ⟨row_setL (row_setL (row_setL (row_setL (row_setL (row_setL (row_setL (row_setL (row_setL (row_setL (row_setL (row_setL (row_setL (HR4.out) 1 (.int .i64 0)) 2 (nil)) 3 (.string E0)) 4 (.string E0)) 5 (.int .i64 0)) 6 (.int .i64 0)) 7 (.bool false)) 8 (.int .i64 0)) 9 (nil)) 10 (.bool false)) 11 (nil)) 12 (.int .i64 0)) 24 (.int .i64 1), (((((((((((((HO4.out).set 1 (.int .i64 0)).set 2 (nil)).set 3 (.string E0)).set 4 (.string E0)).set 5 (.int .i64 0)).set 6 (.int .i64 0)).set 7 (.bool false)).set 8 (.int .i64 0)).set 9 (nil)).set 10 (.bool false)).set 11 (nil)).set 12 (.int .i64 0)).set 24 (.int .i64 1)⟩, (((((((((((((HS4.out).trans (Step.set g 1 (.int .i64 0) (by simp))).trans (Step.set g 2 (nil) (by simp))).trans (Step.set g 3 (.string E0) (by simp))).trans (Step.set g 4 (.string E0) (by simp))).trans (Step.set g 5 (.int .i64 0) (by simp))).trans (Step.set g 6 (.int .i64 0) (by simp))).trans (Step.set g 7 (.bool false) (by simp))).trans (Step.set g 8 (.int .i64 0) (by simp))).trans (Step.set g 9 (nil) (by simp))).trans (Step.set g 10 (.bool false) (by simp))).trans (Step.set g 11 (nil) (by simp))).trans (Step.set g 12 (.int .i64 0) (by simp))).trans (Step.set g 24 (.int .i64 1) (by simp))⟩
theorem endData_any (hp : p < 4294967296) (h : PR w B g q v f bd t o p b s) (hn : s.out.length ≤ 1000000000) : Calls Tryz.prog 84 #[ptr g] w fun r w' =>
    r = .returned (.tuple #[]) ∧ ∃ q1 v1 f1 bd1 t1 o1, PR w' B g q1 v1 f1 bd1 t1 o1 p b (s.endData p) ∧ Step (blks g q v f bd t o) (blks g q1 v1 f1 bd1 t1 o1) w w' := by
  have c10 := h.cs.c10
  unfold T.endData
  cases hc : s.r.ch with
  | true =>
    rw [hc] at c10
    have HE := Lib.hid (enter_any hp h 6 6 rfl 0)
    rw [if_pos rfl]
    clear h hc
    go_enter Tryz.func84, Tryz.ntmps84
    go_wp2_with (go_at_call 44; with_reducible refine HE.out.mono ?_; rintro r w2 ⟨rfl, q1, hP, hS⟩)
    first | go_end0 | refine bodyPost_ret (results_none rfl _ _ _) rfl ?_
    exact ⟨rfl, _, _, _, _, _, _, hP, hS⟩
  | false =>
    rw [hc] at c10
    have HE := Lib.hid (finish_any h hn)
    rw [if_neg (by decide)]
    clear h hc
    go_enter Tryz.func84, Tryz.ntmps84
    go_wp2_with (go_at_call 102; with_reducible refine HE.out.mono ?_; rintro r w2 ⟨rfl, o1, hP, hS⟩)
    first | go_end0 | refine bodyPost_ret (results_none rfl _ _ _) rfl ?_
    exact ⟨rfl, _, _, _, _, _, _, hP, hS⟩
theorem bodyIsNext_live (h : PR w B g q v f bd t o p b s) (hbl : s.r.body.length ≤ 2000000) : Calls Tryz.prog 49 #[ptr g] w fun r w' => r = .returned (.bool s.next) ∧ w' = w := by
  obtain ⟨bb, cb, eb, -⟩ := Ln.own_slice h.own.D
  subst eb
  have c24 := h.cs.c24; have c11 := h.cs.c11
  have HN := Lib.hid (isNew_any h)
  unfold T.next
  clear h
  generalize s.isNew = i at *
  have hb : (s.r.body.isEmpty = true ∧ s.r.body.length = 0) ∨ (s.r.body.isEmpty = false ∧ ¬ s.r.body.length = 0) := by cases s.r.body <;> simp
  generalize s.r.body.isEmpty = e at *
  generalize s.r.body.length = n at *
  generalize s.st = k at *
  have hk : k = 3 ∨ k = 4 ∨ ¬ k = 3 ∧ ¬ k = 4 := by omega
  rcases hk with rfl | rfl | ⟨k3, k4⟩
  · rcases hb with ⟨rfl, rfl⟩ | ⟨rfl, hn⟩
    · go_enter Tryz.func49, Tryz.ntmps49
      go_wp2_with (go_at_call 57; with_reducible refine HN.out.mono ?_; rintro r w2 ⟨rfl, hw⟩; rw [hw]; clear hw)
      go_ret
      exact ⟨rfl, rfl⟩
    · have t1 : ((n : Int) == 0) = false := beq_eq_false_iff_ne.2 (by omega)
      have t2 : ¬ (n : Int) = 0 := by omega
      go_enter Tryz.func49, Tryz.ntmps49
      go_wp2
      go_ret
      exact ⟨rfl, rfl⟩
  · rcases hb with ⟨rfl, rfl⟩ | ⟨rfl, hn⟩
    · go_enter Tryz.func49, Tryz.ntmps49
      go_wp2_with (go_at_call 57; with_reducible refine HN.out.mono ?_; rintro r w2 ⟨rfl, hw⟩; rw [hw]; clear hw)
      go_ret
      exact ⟨rfl, rfl⟩
    · have t1 : ((n : Int) == 0) = false := beq_eq_false_iff_ne.2 (by omega)
      have t2 : ¬ (n : Int) = 0 := by omega
      go_enter Tryz.func49, Tryz.ntmps49
      go_wp2
      go_ret
      exact ⟨rfl, rfl⟩
  · have t3 : ((k : Int) == 3) = false := beq_eq_false_iff_ne.2 (by omega)
    have t4 : ((k : Int) == 4) = false := beq_eq_false_iff_ne.2 (by omega)
    have m3 : ¬ (k : Int) = 3 := by omega
    have m4 : ¬ (k : Int) = 4 := by omega
    rw [beq_eq_false_iff_ne.2 k3, beq_eq_false_iff_ne.2 k4]
    go_enter Tryz.func49, Tryz.ntmps49
    go_wp2
    go_ret
    exact ⟨rfl, rfl⟩
end code
end Go.Proofs.YtibnobdbmojjhaaGreatDoor.Pg
