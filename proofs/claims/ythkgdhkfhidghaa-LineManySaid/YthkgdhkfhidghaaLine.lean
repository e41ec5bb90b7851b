/-
  Layer 6 (line): a reader of lines in memory; contracts of package line.
-/
import Derived.Test.YthkgdhkfhidghaaBase
import Derived.Test.YthkgdhkfhidghaaSched
import Derived.Test.YthkgdhkfhidghaaLineWords
import Derived.Laws.IdiomStrings
import Derived.Laws.BytesArg
import Derived.Shelf.Bytes.SlSmallAll
import Derived.Maps.AppendAt
import Derived.ChangeSame
namespace Go.Proofs.Ythkgdhkfhidghaa.Ln
open Go.RowKit Base

section memory
variable {w w' w'' : World} {g k B : Nat} {cs : Array Value} {ty : TypeId} {o o' : Option Nat}
theorem row_lt (h : w.heap[g]? = some (.cells cs ty (0, 0))) : g < w.heap.size := (Array.getElem?_eq_some_iff.1 h).1
theorem row_cell (h : w.heap[g]? = some (.cells cs ty (0, 0))) {v : Value} (hk : cs[k]? = some v) : w.cell? ⟨g, k, none⟩ = some v := (cell_of_row w g k cs ty (0, 0) h).trans hk
theorem row_frozen (h : w.heap[g]? = some (.cells cs ty (0, 0))) (k : Nat) : w.frozen? ⟨g, k, none⟩ = false := by simp [World.frozen?, h]
theorem row_set (h : w.heap[g]? = some (.cells cs ty (0, 0))) (k : Nat) (v : Value) : (w.setCell ⟨g, k, none⟩ v).heap[g]? = some (.cells (cs.setIfInBounds k v) ty (0, 0)) := by
  simp [World.setCell, Array.getElem?_modify, h]

/-- What a step of a reader leaves as it was: all blocks but the reader's own and that of its bytes. -/
structure Kept (g : Nat) (o : Option Nat) (w w' : World) : Prop where
  os : w'.os = w.os
  tape : w'.tape = w.tape
  output : w'.output = w.output
  size : w.heap.size ≤ w'.heap.size
  block : ∀ k, k < w.heap.size → k ≠ g → some k ≠ o → w'.heap[k]? = w.heap[k]?
theorem Kept.refl (g : Nat) (o : Option Nat) (w : World) : Kept g o w w := ⟨rfl, rfl, rfl, Nat.le_refl _, fun _ _ _ _ => rfl⟩
/-- The block of the bytes stays, or is one that was made meanwhile. -/
def Moved (w : World) (o o' : Option Nat) : Prop := o' = o ∨ o' = none ∨ ∃ k, o' = some k ∧ w.heap.size ≤ k
theorem Moved.refl (w : World) (o : Option Nat) : Moved w o o := .inl rfl
theorem Moved.trans {o'' : Option Nat} (h : Moved w o o') (h' : Moved w' o' o'') (hs : w.heap.size ≤ w'.heap.size) : Moved w o o'' := by
  rcases h' with rfl | rfl | ⟨k, rfl, hk⟩
  · exact h
  · exact .inr (.inl rfl)
  · exact .inr (.inr ⟨k, rfl, Nat.le_trans hs hk⟩)
theorem Kept.trans (h : Kept g o w w') (h' : Kept g o' w' w'') (hm : Moved w o o') : Kept g o w w'' := by
  refine ⟨h'.os.trans h.os, h'.tape.trans h.tape, h'.output.trans h.output, Nat.le_trans h.size h'.size, fun k hk h1 h2 => ?_⟩
  refine (h'.block k (Nat.lt_of_lt_of_le hk h.size) h1 ?_).trans (h.block k hk h1 h2)
  rcases hm with rfl | rfl | ⟨j, rfl, hj⟩
  · exact h2
  · exact fun e => by cases e
  · intro e
    have : k = j := by simpa using e
    omega
theorem Kept.set (g : Nat) (o : Option Nat) (w : World) (k : Nat) (v : Value) : Kept g o w (w.setCell ⟨g, k, none⟩ v) := ⟨rfl, rfl, rfl, by simp, fun j _ h1 _ => Below.heap_setCell _ _ _ _ h1⟩
theorem Kept.grown (hg : w.grownBy w' o) (g : Nat) : Kept g o w w' := ⟨hg.os, hg.tape, hg.output, hg.size, fun k hk _ h2 => hg.block k hk h2⟩
theorem Kept.of_below (hb : Below w.heap.size w w') (g : Nat) (o : Option Nat) : Kept g o w w' := ⟨hb.os, hb.tape, hb.output, hb.size, fun k hk _ _ => hb.block k hk⟩
theorem Kept.below (h : Kept g o w w') (hB : B ≤ w.heap.size) (hg : B ≤ g) (ho : ∀ k, o = some k → B ≤ k) : Below B w w' :=
  ⟨h.os, h.tape, h.output, h.size, fun k hk => h.block k (by omega) (by omega) (fun e => by have := ho k e.symm; omega)⟩
theorem Kept.row (h : Kept g o w w') {j : Nat} (hr : w.heap[j]? = some (.cells cs ty (0, 0))) (h1 : j ≠ g) (h2 : some j ≠ o) : w'.heap[j]? = some (.cells cs ty (0, 0)) := (h.block j (row_lt hr) h1 h2).trans hr
theorem Kept.own (h : Kept g o w w') {e : TypeId} {size : Nat} {v : Value} {n : Nat} {xs : List Value} (hv : w.ownsRow B e size v n xs) (h1 : v.ownBlock ≠ some g) (h2 : v.ownBlock = none ∨ v.ownBlock ≠ o) : w'.ownsRow B e size v n xs := by
  refine ⟨hv.1, ?_⟩
  rcases hv.2 with hn | ⟨b, cap, cur, rfl, hb, hgg, rest⟩
  · exact .inl hn
  · refine .inr ⟨b, cap, cur, rfl, hb, ?_, rest⟩
    rw [h.block b (row_lt hgg) (by simpa [Value.ownBlock] using h1) (by simpa [Value.ownBlock] using h2)]
    exact hgg
/-- What is owned stays so while a cell of another block is written. -/
theorem own_set {e : TypeId} {size : Nat} {v : Value} {n : Nat} {xs : List Value} (hv : w.ownsRow B e size v n xs) (h1 : v.ownBlock ≠ some g) (k : Nat) (u : Value) : (w.setCell ⟨g, k, none⟩ u).ownsRow B e size v n xs :=
  (Kept.set g none w k u).own hv h1 (by cases v.ownBlock <;> simp)
/-- None of it is left, its room is. -/
theorem own_none {e : TypeId} {size : Nat} {b : Option Addr} {n cap : Nat} {xs : List Value} (hv : w.ownsRow B e size (.slice b n cap) n xs) : w.ownsRow B e size (.slice b 0 cap) 0 [] := by
  refine ⟨by simp, ?_⟩
  rcases hv.2 with ⟨h, _⟩ | ⟨b', cap', cur, h, hb, hg, hn, hc, hs, ht⟩
  · cases h; exact .inl ⟨rfl, rfl⟩
  · cases h; exact .inr ⟨b', cap, cur, rfl, hb, hg, Nat.zero_le _, hc, hs, by simp⟩
theorem own_slice {e : TypeId} {size : Nat} {v : Value} {n : Nat} {xs : List Value} (hv : w.ownsRow B e size v n xs) : ∃ b cap, v = .slice b n cap ∧ n ≤ cap ∧ cap ≤ maxLen ∧ (b = none ∧ n = 0 ∧ cap = 0 ∨ ∃ j, b = some ⟨j, 0, none⟩) := by
  rcases hv.2 with ⟨rfl, rfl⟩ | ⟨b', cap', cur, rfl, hb, hg, hn, hc, hs, ht⟩
  · exact ⟨none, 0, rfl, Nat.le_refl _, Nat.zero_le _, .inl ⟨rfl, rfl, rfl⟩⟩
  · exact ⟨_, cap', rfl, hn, hc, .inr ⟨b', rfl⟩⟩
end memory

def vals (l : List UInt8) : List Value := l.map fun b => .int .u8 (b.toNat : Int)
theorem vals_app (a b : List UInt8) : vals (a ++ b) = vals a ++ vals b := List.map_append
theorem vals_length (a : List UInt8) : (vals a).length = a.length := List.length_map _
abbrev ptr (g : Nat) : Value := .pointer (some ⟨g, 0, none⟩)
abbrev byteV (c : UInt8) : Value := .int .u8 (c.toNat : Int)
abbrev ba (l : List UInt8) : ByteArray := ⟨l.toArray⟩

/-- The cells of a reader. -/
abbrev cellsOf (m : M) (v : Value) : Array Value := #[.bool m.lf, .bool m.cr, .int .i64 (m.most : Int), v, .int .i64 m.last, .bool m.pend]
/-- A reader in its block; its bytes in one of its own. -/
structure Rd (w : World) (B g : Nat) (v : Value) (m : M) : Prop where
  row : w.heap[g]? = some (.cells (cellsOf m v) 47 (0, 0))
  own : w.ownsRow B 5 1 v m.buf.length (vals m.buf)
  ge : B ≤ g
  ne : v.ownBlock ≠ some g
theorem Rd.kept {w w' : World} {B g : Nat} {v : Value} {m : M} (h : Rd w B g v m) {j : Nat} {o : Option Nat} (hk : Kept j o w w') (h1 : g ≠ j) (h2 : some g ≠ o) (h3 : v.ownBlock ≠ some j) (h4 : v.ownBlock = none ∨ v.ownBlock ≠ o) : Rd w' B g v m :=
  ⟨hk.row h.row h1 h2, hk.own h.own h3 h4, h.ge, h.ne⟩

theorem conv_own {w : World} {B : Nat} {v : Value} {l : List UInt8} (h : w.ownsRow B 5 1 v l.length (vals l)) : (convert 22 9 v).run Try.prog w = .ok (.string (ba l)) w := by
  rcases h.2 with ⟨rfl, hn⟩ | ⟨b, cap, cur, rfl, hb, hg, _, _, _, ht⟩
  · obtain rfl : l = [] := List.length_eq_zero_iff.1 hn
    exact run_convert_bytes_nil w _ 5 Try.underlying22 Try.underlying5 0 0 _ Try.underlying9
  · refine run_convert_bytes_back (P := Try.prog) w 22 9 5 ⟨b, 0, none⟩ cap l Try.underlying22 Try.underlying5 Try.underlying9 (fun j hj => ?_)
    refine h.cells (g := b) rfl j _ ?_
    rw [vals, List.getElem?_map, List.getElem?_eq_getElem hj]; rfl

section code
set_option maxHeartbeats 1000000
attribute [local go_sem] Base.some_undef
variable {w : World} {g B : Nat} {m : M} {v : Value}
theorem five (h : w.heap[g]? = some (.cells (cellsOf m v) 47 (0, 0))) : w.cell? ⟨g, 0, none⟩ = some (.bool m.lf) ∧ w.cell? ⟨g, 1, none⟩ = some (.bool m.cr) ∧ w.cell? ⟨g, 2, none⟩ = some (.int .i64 (m.most : Int)) ∧ w.cell? ⟨g, 3, none⟩ = some v ∧ w.cell? ⟨g, 4, none⟩ = some (.int .i64 m.last) ∧ w.cell? ⟨g, 5, none⟩ = some (.bool m.pend) :=
  ⟨row_cell h rfl, row_cell h rfl, row_cell h rfl, row_cell h rfl, row_cell h rfl, row_cell h rfl⟩
theorem ended_any (h : w.heap[g]? = some (.cells (cellsOf m v) 47 (0, 0))) : Calls Try.prog 17 #[ptr g] w fun e w' => e = .returned (.bool (ended m.last)) ∧ w' = w := by
  obtain ⟨q0, q1, q2, q3, q4, q5⟩ := five h
  clear h q0 q1 q2 q3 q5
  rcases Classical.em (m.last = 1) with e | e
  · rw [e] at q4 ⊢
    go_enter Try.func17, Try.ntmps17
    go_wp2
    go_ret
    exact ⟨rfl, rfl⟩
  · have e1 : (m.last == 1) = false := beq_eq_false_iff_ne.2 e
    generalize m.last = x at *
    go_enter Try.func17, Try.ntmps17
    go_wp2
    go_ret
    exact ⟨by rw [ended, e1, Bool.false_or]; rfl, rfl⟩
theorem failed_any (h : w.heap[g]? = some (.cells (cellsOf m v) 47 (0, 0))) : Calls Try.prog 23 #[ptr g] w fun e w' => e = .returned (.bool (failed m.last)) ∧ w' = w := by
  obtain ⟨q0, q1, q2, q3, q4, q5⟩ := five h
  clear h q0 q1 q2 q3 q5
  rcases Classical.em (m.last = 3) with e | e
  · rw [e] at q4 ⊢
    go_enter Try.func23, Try.ntmps23
    go_wp2
    go_ret
    exact ⟨rfl, rfl⟩
  · have e1 : (m.last == 3) = false := beq_eq_false_iff_ne.2 e
    generalize m.last = x at *
    go_enter Try.func23, Try.ntmps23
    go_wp2
    go_ret
    exact ⟨by rw [failed, e1, Bool.false_or]; rfl, rfl⟩
theorem pending_any (h : w.heap[g]? = some (.cells (cellsOf m v) 47 (0, 0))) : Calls Try.prog 14 #[ptr g] w fun e w' => e = .returned (.bool m.pend) ∧ w' = w := by
  obtain ⟨q0, q1, q2, q3, q4, q5⟩ := five h
  clear h q0 q1 q2 q3 q4
  go_enter Try.func14, Try.ntmps14
  go_wp2
  go_ret
  exact ⟨rfl, rfl⟩
theorem bareEnd_any (h : w.heap[g]? = some (.cells (cellsOf m v) 47 (0, 0))) : Calls Try.prog 25 #[ptr g] w fun e w' => e = .returned (.int .i64 (if m.lf then 1 else 3)) ∧ w' = w := by
  obtain ⟨q0, q1, q2, q3, q4, q5⟩ := five h
  clear h q1 q2 q3 q4 q5
  cases hb : m.lf
  all_goals
    rw [hb] at q0
    go_enter Try.func25, Try.ntmps25
    go_wp2
    go_ret
    exact ⟨rfl, rfl⟩
theorem ne10 {c : UInt8} (h : ¬ c = 10) : ((c.toNat : Int) == 10) = false := by
  refine beq_eq_false_iff_ne.2 fun e => h (UInt8.toNat_inj.1 ?_)
  show c.toNat = 10
  omega
theorem ne13 {c : UInt8} (h : ¬ c = 13) : ((c.toNat : Int) == 13) = false := by
  refine beq_eq_false_iff_ne.2 fun e => h (UInt8.toNat_inj.1 ?_)
  show c.toNat = 13
  omega
theorem behindCR_any (c : UInt8) (h : w.heap[g]? = some (.cells (cellsOf m v) 47 (0, 0))) : Calls Try.prog 24 #[ptr g, byteV c] w fun e w' => e = .returned (.int .i64 (if c = 10 then 1 else if m.cr then 2 else 3)) ∧ w' = w := by
  obtain ⟨q0, q1, q2, q3, q4, q5⟩ := five h
  clear h q0 q2 q3 q4 q5
  by_cases hc : c = 10
  · subst hc
    go_enter Try.func24, Try.ntmps24
    go_wp2
    go_ret
    exact ⟨rfl, rfl⟩
  · have e1 := ne10 hc
    rw [if_neg hc]
    cases hb : m.cr
    all_goals
      rw [hb] at q1
      go_enter Try.func24, Try.ntmps24
      go_wp2
      go_ret
      exact ⟨rfl, rfl⟩
theorem len_any (h : w.heap[g]? = some (.cells (cellsOf m v) 47 (0, 0))) (hv : w.ownsRow B 5 1 v m.buf.length (vals m.buf)) : Calls Try.prog 13 #[ptr g] w fun e w' => e = .returned (.int .i64 (m.len : Int)) ∧ w' = w := by
  have H := Lib.hid (ended_any h)
  obtain ⟨q0, q1, q2, q3, q4, q5⟩ := five h
  obtain ⟨b, cap, rfl, _⟩ := own_slice hv
  clear h q0 q1 q2 q4 q5 hv
  unfold M.len
  generalize ended m.last = x at *
  cases x
  all_goals
    go_enter Try.func13, Try.ntmps13
    go_wp2_with (go_at_call 17; with_reducible refine (H.out).mono ?_; rintro e w1 ⟨rfl, hw⟩; rw [hw]; clear hw)
    go_ret
    exact ⟨rfl, rfl⟩
theorem line_any (h : w.heap[g]? = some (.cells (cellsOf m v) 47 (0, 0))) (hv : w.ownsRow B 5 1 v m.buf.length (vals m.buf)) : Calls Try.prog 12 #[ptr g] w fun e w' => e = .returned (.string (ba m.line)) ∧ w' = w := by
  have H := Lib.hid (ended_any h)
  obtain ⟨q0, q1, q2, q3, q4, q5⟩ := five h
  have hcv := conv_own hv
  obtain ⟨b, cap, rfl, _⟩ := own_slice hv
  clear h q0 q1 q2 q4 q5 hv
  unfold M.line
  generalize ended m.last = x at *
  cases x
  all_goals
    go_enter Try.func12, Try.ntmps12
    go_wp2_with (go_at_call 17; with_reducible refine (H.out).mono ?_; rintro e w1 ⟨rfl, hw⟩; rw [hw]; clear hw)
    go_ret
    exact ⟨rfl, rfl⟩
end code
end Go.Proofs.Ythkgdhkfhidghaa.Ln
