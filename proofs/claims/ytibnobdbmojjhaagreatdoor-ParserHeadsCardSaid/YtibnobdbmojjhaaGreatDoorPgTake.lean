/-
  Layer 13 (parser): contracts of the program's parser: a byte till it is used up, bytes in parts. (Printed by tools/gen_pgtake.py.)
-/
import Derived.Test.YtibnobdbmojjhaaGreatDoorPgByte
import Derived.Test.YtibnobdbmojjhaaGreatDoorPgFeed
namespace Go.Proofs.YtibnobdbmojjhaaGreatDoor.Pg
open Go.RowKit Base Txt Mem Par

def Q.Ok (b : Bd) : Q → Prop
  | .live t => t.Ok ∧ b.right = true
  | .dead _ _ => True
section
variable {p : Nat} {b : Bd} {t t' : T} {s : List UInt8}
theorem line_out (t : T) (s : List UInt8) : (t.line p b s).2.out.length ≤ t.out.length + 1 := by
  have hf : t.fin.out.length ≤ t.out.length + 1 := by show (t.out ++ [t.r]).length ≤ _; simp
  unfold T.line T.first T.fields T.endHead T.chunk T.trail
  split
  · split
    · exact Nat.le_succ _
    · dsimp only
      split <;> exact Nat.le_succ _
  · split
    · split
      · dsimp only
        split
        · exact Nat.le_succ _
        · split
          · exact Nat.le_succ _
          · split
            · exact hf
            · exact Nat.le_succ _
      · exact Nat.le_succ _
    · split
      · dsimp only
        split
        · exact Nat.le_succ _
        · split
          · exact Nat.le_succ _
          · split <;> exact Nat.le_succ _
      · split
        · split
          · exact hf
          · exact Nat.le_succ _
        · exact Nat.le_succ _
theorem inLine_out (t : T) (c : UInt8) : (t.inLine p b c).1.out.length ≤ t.out.length + 1 := by
  unfold T.inLine
  dsimp only
  split
  · exact Nat.le_succ _
  · split
    · exact Nat.le_succ _
    · split
      · split <;> exact Nat.le_succ _
      · have h := line_out (p := p) (b := b) { t with rd := t.rd.byte c } (t.rd.byte c).line
        unfold ends
        split <;> exact h
theorem look_out (t : T) (c : UInt8) : (t.look p b c).1.out.length ≤ t.out.length + 1 := by
  unfold T.look
  split
  · split
    · show (T.endData p (t.keep c)).out.length ≤ _
      unfold T.endData
      split
      · exact Nat.le_succ _
      · show (t.out ++ [_]).length ≤ _
        simp
    · exact Nat.le_succ _
  · split
    · split
      · exact Nat.le_succ _
      · have h := inLine_out (p := p) (b := b) t.counted c
        rw [counted_out] at h
        exact h
    · exact inLine_out t c
theorem take_out (t : T) (c : UInt8) : (t.take p b c).out.length ≤ t.out.length + 2 := by
  have h := look_out (p := p) (b := b) { t with cnt := false } c
  have e : ({ t with cnt := false } : T).out = t.out := rfl
  rw [e] at h
  unfold T.take
  rcases hx : ({ t with cnt := false } : T).look p b c with ⟨t1 | ⟨e, o⟩, u⟩
  · rw [hx] at h
    have h : t1.out.length ≤ t.out.length + 1 := h
    cases u with
    | true => show t1.out.length ≤ _; omega
    | false =>
      have h2 := look_out (p := p) (b := b) t1 c
      show (t1.look p b c).1.out.length ≤ _
      omega
  · rw [hx] at h
    have h : o.length ≤ t.out.length + 1 := h
    cases u <;> (show o.length ≤ _; omega)
theorem Q.byte_out (x : Q) (c : UInt8) : (x.byte p b c).out.length ≤ x.out.length + 2 := by
  cases x with
  | live t => exact take_out t c
  | dead e o => show o.length ≤ o.length + 2; omega
theorem Q.feed_out : ∀ (l : List UInt8) (x : Q), (x.feed p b l).out.length ≤ x.out.length + 2 * l.length
  | [], _ => Nat.le_refl _
  | c :: l, x => by
    have h1 := Q.byte_out (p := p) (b := b) x c
    have h2 := Q.feed_out l (x.byte p b c)
    rw [feed_cons, List.length_cons]
    omega
theorem Q.Ok.byte {x : Q} (h : x.Ok b) (c : UInt8) : (x.byte p b c).Ok b := by
  cases x with
  | live t =>
    show (t.take p b c).Ok b
    rcases hx : t.take p b c with t1 | ⟨e, o⟩
    · exact ⟨T.Ok.take h.1 h.2 c hx, h.2⟩
    · trivial
  | dead e o => trivial
theorem Q.Ok.feed : ∀ (l : List UInt8) {x : Q}, x.Ok b → (x.feed p b l).Ok b
  | [], _, h => h
  | c :: l, _, h => Q.Ok.feed l (h.byte c)
end
/-- A slice of bytes, in a block that is not of L. -/
structure Bts (L : List (Option Nat)) (w : World) (a : Option Addr) (l : List UInt8) : Prop where
  nums : Nums .u8 w a l.length (l.map fun c => (c.toNat : Int))
  far : ∀ ad, a = some ad → some ad.block ∉ L ∧ ad.block < w.heap.size
/-- A slice of such slices. -/
structure Parts (L : List (Option Nat)) (w : World) (a : Option Addr) (ls : List (List UInt8)) : Prop where
  cells : 0 < ls.length → ∃ bk off, a = some ⟨bk, off, none⟩ ∧ bk < w.heap.size ∧ some bk ∉ L ∧ ∀ k (hk : k < ls.length), ∃ ak ck, w.cell? ⟨bk, off + k, none⟩ = some (.slice ak ls[k].length ck) ∧ Bts L w ak ls[k]
theorem Bts.step {L L' : List (Option Nat)} {w w' : World} {a : Option Addr} {l : List UInt8} (h : Bts L w a l) (hs : Step L L' w w') : Bts L' w' a l := by
  refine ⟨nums_keeps h.nums hs.keeps (fun c => ?_), fun ad e => ⟨fun hm => ?_, Nat.lt_of_lt_of_le (h.far ad e).2 hs.keeps.size⟩⟩
  · cases ha : a with
    | none => exact .inl rfl
    | some ad => exact .inr ⟨ad.block, rfl, (h.far ad ha).1⟩
  · rcases hs.of _ hm with h1 | h1
    · exact (h.far ad e).1 h1
    · have := (h.far ad e).2; omega
theorem Parts.step {L L' : List (Option Nat)} {w w' : World} {a : Option Addr} {ls : List (List UInt8)} (h : Parts L w a ls) (hs : Step L L' w w') : Parts L' w' a ls := by
  refine ⟨fun h0 => ?_⟩
  obtain ⟨bk, off, e, hlt, hn, hc⟩ := h.cells h0
  refine ⟨bk, off, e, Nat.lt_of_lt_of_le hlt hs.keeps.size, fun hm => ?_, fun k hk => ?_⟩
  · rcases hs.of _ hm with h1 | h1
    · exact hn h1
    · omega
  · obtain ⟨ak, ck, h1, h2⟩ := hc k hk
    exact ⟨ak, ck, (hs.keeps.cell (p := ⟨bk, off + k, none⟩) hlt hn).trans h1, h2.step hs⟩
section code
set_option maxHeartbeats 4000000
set_option maxRecDepth 20000
attribute [local go_sem] Base.some_undef
variable {w : World} {B g q : Nat} {v f bd t o : Value} {p : Nat} {b : Bd} {s : T}
theorem Dead.cell0 {e : Nat} {out : List Rec.R} (h : Dead w B g e o out) : w.cell? ⟨g, 0, none⟩ = some (.int .i64 (e : Int)) := row_cellL h.row rfl
theorem Dead.put {e : Nat} {out : List Rec.R} (h : Dead w B g e o out) (k : Nat) (u : Value) (o' : Value) (out' : List Rec.R) (hc : (deadcells e o).set k u = deadcells e o') (hO : Outs [some g, o'.ownBlock] B (w.setCell ⟨g, k, none⟩ u) o' out') (hn : o'.ownBlock ≠ some g) : Dead (w.setCell ⟨g, k, none⟩ u) B g e o' out' :=
  ⟨by rw [← hc]; exact row_setL h.row k u, hO, hn, h.ge, by simpa using h.lt, h.bad⟩
theorem Dead.same {e : Nat} {out : List Rec.R} (h : Dead w B g e o out) (k : Nat) (u : Value) (hc : (deadcells e o).set k u = deadcells e o) : Dead (w.setCell ⟨g, k, none⟩ u) B g e o out :=
  h.put k u o out hc (h.O.keeps (Keeps.set g k u (List.mem_singleton.2 rfl)) (fun k hk => by simp only [List.mem_singleton] at hk; simp [hk]) (fun k e hm => h.ne (by rw [e, List.mem_singleton.1 hm]))) h.ne
theorem take_any (hp : p < 4294967296) (c : UInt8) (x : Q) {L : List (Option Nat)} (h : At w B g p b L x) (ok : x.Ok b) (hout : x.out.length ≤ 999999998) : Calls Tryz.prog 47 #[ptr g, .int .u8 (c.toNat : Int)] w fun r w' =>
    r = .returned (.tuple #[]) ∧ ∃ L', At w' B g p b L' (x.byte p b c) ∧ Step L L' w w' := by
  cases x with
  | dead e out =>
    obtain ⟨o, rfl, hd⟩ := h
    have H1 := Lib.hid (hd.same 7 (.bool false) rfl)
    have HS1 := Lib.hid (Step.set (w := w) (L := [some g, o.ownBlock]) g 7 (.bool false) (by simp))
    have HB := Lib.hid hd.bad
    have c7 := row_cellL hd.row (k := 7) rfl; have z7 := Ln.row_frozen hd.row 7
    clear hd ok hout
    go_enter Tryz.func47, Tryz.ntmps47
    go_upto_region 1 with fail
    generalize w.setCell ⟨g, 7, none⟩ (.bool false) = W1 at *
    clear c7 z7
    have HF := Lib.hid (failed_dead H1.out.cell0 HB.out)
    refine wp_loop_rounds 1 ?_
    rw [rounds_succ]
    go_wp2_with (go_at_call 53; with_reducible refine HF.out.mono ?_; rintro r w2 ⟨rfl, hw⟩; rw [hw]; clear hw)
    first | go_end0 | refine bodyPost_ret (results_none rfl _ _ _) rfl ?_
    exact ⟨rfl, _, ⟨_, rfl, H1.out⟩, HS1.out⟩
  | live s =>
    obtain ⟨q, v, f, bd, t, o, rfl, h⟩ := h
    have H1 := Lib.hid (h.put 7 (.bool false) { s with cnt := false } rfl rfl rfl rfl rfl rfl)
    have HS1 := Lib.hid (Step.set (w := w) (L := blks g q v f bd t o) g 7 (.bool false) (by simp))
    have c7 := h.cs.c7; have z7 := h.marks 7
    obtain ⟨ok, hb0⟩ : s.Ok ∧ b.right = true := ok
    have hout : s.out.length ≤ 999999998 := hout
    have ok1 := ok.cleared
    obtain ⟨S1, hS1⟩ : ∃ S1 : T, { s with cnt := false } = S1 := ⟨_, rfl⟩
    have ho1 : S1.out.length ≤ 999999998 := by rw [← hS1]; exact hout
    rw [hS1] at ok1 H1
    have e : Q.byte p b (.live s) c = (match S1.look p b c with
        | (.live t1, false) => (t1.look p b c).1
        | (x, _) => x) := by rw [← hS1]; rfl
    have HL := Lib.hid (fun (w2 : World) (h2 : PR w2 B g q v f bd t o p b S1) => look_any hp hb0 c h2 ok1 (by omega))
    have htw := fun t' => look_twice (p := p) (t' := t') ok1 hb0 c
    have hoo := look_out (p := p) (b := b) S1 c
    have hok2 := fun t' (h : (S1.look p b c).1 = .live t') => ok1.look hb0 c h
    rw [e]
    clear h ok hout e hS1
    rcases hx : S1.look p b c with ⟨t1 | ⟨e, out⟩, u⟩
    · rw [hx] at HL hoo
      cases u with
      | true =>
        show Calls _ _ _ _ fun r w' => r = .returned (.tuple #[]) ∧ ∃ L', At w' B g p b L' (.live t1) ∧ Step _ L' w w'
        clear htw hx hok2 hoo
        go_enter Tryz.func47, Tryz.ntmps47
        go_upto_region 1 with fail
        generalize w.setCell ⟨g, 7, none⟩ (.bool false) = W1 at *
        clear c7 z7
        have HF := Lib.hid (failed_live H1.out.cs.c0)
        have HL1 := Lib.hid (HL.out _ H1.out)
        refine wp_loop_rounds 1 ?_
        rw [rounds_succ]
        go_wp2_with (first
          | (go_at_call 70; with_reducible refine HL1.out.mono ?_; rintro r w2 ⟨rfl, L2, hA, hS2⟩)
          | (go_at_call 53; with_reducible refine HF.out.mono ?_; rintro r w3 ⟨rfl, hw⟩; rw [hw]; clear hw))
        first | go_end0 | refine bodyPost_ret (results_none rfl _ _ _) rfl ?_
        exact ⟨rfl, _, hA, HS1.out.trans hS2⟩
      | false =>
        have hu := htw t1 hx
        show Calls _ _ _ _ fun r w' => r = .returned (.tuple #[]) ∧ ∃ L', At w' B g p b L' (t1.look p b c).1 ∧ Step _ L' w w'
        have ok2 := hok2 t1 (by rw [hx])
        have hoo : t1.out.length ≤ S1.out.length + 1 := hoo
        have HL9 := fun (w2 : World) (q v f bd t o) (h2 : PR w2 B g q v f bd t o p b t1) => look_any hp hb0 c h2 ok2 (by omega)
        rw [hu] at HL9
        have HL2 := Lib.hid HL9
        clear htw hx hok2 hoo hu ok2 HL9
        go_enter Tryz.func47, Tryz.ntmps47
        go_upto_region 1 with fail
        generalize w.setCell ⟨g, 7, none⟩ (.bool false) = W1 at *
        clear c7 z7
        have HF := Lib.hid (failed_live H1.out.cs.c0)
        have HL1 := Lib.hid (HL.out _ H1.out)
        refine wp_loop_rounds 2 ?_
        rw [rounds_succ]
        go_wp2_with (first
          | (go_at_call 70; with_reducible refine HL1.out.mono ?_; rintro r w2 ⟨rfl, L2, hA, hS2⟩)
          | (go_at_call 53; with_reducible refine HF.out.mono ?_; rintro r w3 ⟨rfl, hw⟩; rw [hw]; clear hw))
        obtain ⟨q2, v2, f2, bd2, t2, o2, rfl, h2⟩ := hA
        have HF2 := Lib.hid (failed_live h2.cs.c0)
        have HL3 := Lib.hid (HL2.out _ _ _ _ _ _ _ h2)
        have HS2 := Lib.hid (HS1.out.trans hS2)
        clear h2 hS2 HF HL1 HL2 H1 HS1
        rw [rounds_succ]
        go_wp2_with (first
          | (go_at_call 70; with_reducible refine HL3.out.mono ?_; rintro r w4 ⟨rfl, L4, hA4, hS4⟩)
          | (go_at_call 53; with_reducible refine HF2.out.mono ?_; rintro r w3 ⟨rfl, hw⟩; rw [hw]; clear hw))
        first | go_end0 | refine bodyPost_ret (results_none rfl _ _ _) rfl ?_
        exact ⟨rfl, _, hA4, HS2.out.trans hS4⟩
    · rw [hx] at HL hoo
      cases u with
      | true =>
        show Calls _ _ _ _ fun r w' => r = .returned (.tuple #[]) ∧ ∃ L', At w' B g p b L' (.dead e out) ∧ Step _ L' w w'
        clear htw hx hok2 hoo
        go_enter Tryz.func47, Tryz.ntmps47
        go_upto_region 1 with fail
        generalize w.setCell ⟨g, 7, none⟩ (.bool false) = W1 at *
        clear c7 z7
        have HF := Lib.hid (failed_live H1.out.cs.c0)
        have HL1 := Lib.hid (HL.out _ H1.out)
        refine wp_loop_rounds 1 ?_
        rw [rounds_succ]
        go_wp2_with (first
          | (go_at_call 70; with_reducible refine HL1.out.mono ?_; rintro r w2 ⟨rfl, L2, hA, hS2⟩)
          | (go_at_call 53; with_reducible refine HF.out.mono ?_; rintro r w3 ⟨rfl, hw⟩; rw [hw]; clear hw))
        first | go_end0 | refine bodyPost_ret (results_none rfl _ _ _) rfl ?_
        exact ⟨rfl, _, hA, HS1.out.trans hS2⟩
      | false =>
        show Calls _ _ _ _ fun r w' => r = .returned (.tuple #[]) ∧ ∃ L', At w' B g p b L' (.dead e out) ∧ Step _ L' w w'
        clear htw hx hok2 hoo
        go_enter Tryz.func47, Tryz.ntmps47
        go_upto_region 1 with fail
        generalize w.setCell ⟨g, 7, none⟩ (.bool false) = W1 at *
        clear c7 z7
        have HF := Lib.hid (failed_live H1.out.cs.c0)
        have HL1 := Lib.hid (HL.out _ H1.out)
        refine wp_loop_rounds 2 ?_
        rw [rounds_succ]
        go_wp2_with (first
          | (go_at_call 70; with_reducible refine HL1.out.mono ?_; rintro r w2 ⟨rfl, L2, hA, hS2⟩)
          | (go_at_call 53; with_reducible refine HF.out.mono ?_; rintro r w3 ⟨rfl, hw⟩; rw [hw]; clear hw))
        obtain ⟨o2, rfl, h2⟩ := hA
        have HF2 := Lib.hid (failed_dead h2.cell0 h2.bad)
        have HD2 := Lib.hid h2
        have HS2 := Lib.hid (HS1.out.trans hS2)
        clear h2 hS2 HF HL1 H1 HS1
        rw [rounds_succ]
        go_wp2_with (go_at_call 53; with_reducible refine HF2.out.mono ?_; rintro r w3 ⟨rfl, hw⟩; rw [hw]; clear hw)
        first | go_end0 | refine bodyPost_ret (results_none rfl _ _ _) rfl ?_
        exact ⟨rfl, _, ⟨_, rfl, HD2.out⟩, HS2.out⟩
end code
end Go.Proofs.YtibnobdbmojjhaaGreatDoor.Pg
