/-
  Layer 6 (line): plain words: how a reader of lines goes on by a byte, the document's reader, and that both go alike. No program is spoken of.
-/
import Derived.Test.YtibnobdbmojjhaaGreatDoorBase
import Derived.Laws.IdiomStrings
import Derived.Laws.BytesArg
import Derived.Shelf.Bytes.SlSmallAll
import Derived.Maps.AppendAt
import Derived.ChangeSame
import Derived.Test.YtibnobdbmojjhaaGreatDoorQuirks
import Derived.Deep.QuietTactic
import Derived.BigQuiet
namespace Go.Proofs.YtibnobdbmojjhaaGreatDoor.Ln
open Go.RowKit Base

def ended (x : Int) : Bool := x == 1 || x == 2
def failed (x : Int) : Bool := x == 3 || x == 4

theorem f0 : failed 0 = false := rfl
theorem f1 : failed 1 = false := rfl
theorem f2 : failed 2 = false := rfl
theorem f3 : failed 3 = true := rfl
theorem f4 : failed 4 = true := rfl
theorem d0 : ended 0 = false := rfl
theorem d1 : ended 1 = true := rfl
theorem d2 : ended 2 = true := rfl
theorem d3 : ended 3 = false := rfl
theorem d4 : ended 4 = false := rfl

/-- A reader of lines: what it takes for an end, its most, the bytes, what it answered last, whether a CR is pending. -/
structure M where
  lf : Bool
  cr : Bool
  most : Nat
  buf : List UInt8
  last : Int
  pend : Bool

structure M.Ok (m : M) : Prop where
  last : m.last = 0 ∨ m.last = 1 ∨ m.last = 2 ∨ m.last = 3 ∨ m.last = 4
  most : m.most ≤ 4096
  len : m.buf.length ≤ m.most
  pend : m.pend = true → m.last = 0

def M.line (m : M) : List UInt8 := if ended m.last then m.buf else []
def M.len (m : M) : Nat := if ended m.last then 0 else m.buf.length
def M.clear (m : M) : M := { m with buf := if ended m.last then [] else m.buf }
def M.next (m : M) (c : UInt8) : Int :=
  if failed m.last then 3 else if m.pend then (if c = 10 then 1 else if m.cr then 2 else 3) else if c = 10 then (if m.lf then 1 else 3) else if c = 13 then 0 else if m.buf.length = m.most then 4 else 0
def M.keeps (m : M) (c : UInt8) : Bool := if failed m.last then false else if m.pend then false else if c = 10 then false else if c = 13 then false else if m.buf.length = m.most then false else true
def M.told (m : M) (c : UInt8) : M := { m with buf := m.buf ++ (if m.keeps c then [c] else []) }
def M.byte (m : M) (c : UInt8) : M := { m.clear.told c with last := m.clear.next c, pend := m.clear.next c == 0 && c == 13 }

theorem M.Ok.clear {m : M} (h : m.Ok) : m.clear.Ok := by
  obtain ⟨h1, h2, h3, h4⟩ := h
  refine ⟨h1, h2, ?_, h4⟩
  show (if ended m.last then [] else m.buf).length ≤ m.most
  split
  · exact Nat.zero_le _
  · exact h3
theorem M.next_is (m : M) (c : UInt8) : m.next c = 0 ∨ m.next c = 1 ∨ m.next c = 2 ∨ m.next c = 3 ∨ m.next c = 4 := by
  unfold M.next
  repeat' split
  all_goals simp
theorem M.Ok.told {m : M} (h : m.Ok) (c : UInt8) : (m.told c).buf.length ≤ m.most := by
  have h3 := h.len
  show (m.buf ++ (if m.keeps c then [c] else [])).length ≤ m.most
  by_cases hk : m.keeps c = true
  · rw [if_pos hk, List.length_append]
    unfold M.keeps at hk
    repeat' split at hk
    all_goals first | (exact absurd hk (by decide)) | (rw [List.length_singleton]; omega)
  · rw [if_neg hk, List.append_nil]; exact h3
theorem M.Ok.byte {m : M} (h : m.Ok) (c : UInt8) : (m.byte c).Ok := by
  refine ⟨M.next_is _ c, h.most, h.clear.told c, fun hp => ?_⟩
  have : (m.clear.next c == 0 && c == 13) = true := hp
  simp only [Bool.and_eq_true, beq_iff_eq] at this
  exact this.1

/-- A new reader. -/
def M.new (lf cr : Bool) (most : Nat) : M := ⟨lf, cr, most, [], 0, false⟩
theorem M.new_ok (lf cr : Bool) (most : Nat) (h : most ≤ 4096) : (M.new lf cr most).Ok := ⟨.inl rfl, h, Nat.zero_le _, fun h => by cases h⟩

/-- The document's reader. -/
structure R where
  lf : Bool
  cr : Bool
  most : Nat
  B : List UInt8
  CR : Bool
  L : List UInt8
  over : Bool
  dead : Bool

def R.start (q : R) : R := { q with L := [], over := false }
def R.fin (q : R) : R := { q with L := q.B, B := [], CR := false, over := true }
def R.die (q : R) : R := { q with dead := true }
def R.how (q : R) (c : UInt8) : Int :=
  if q.dead then 3 else if q.CR && c == 10 then 1 else if q.CR && q.cr then 2 else if q.CR then 3 else if c == 10 && q.lf then 1 else if c == 10 then 3 else if c == 13 then 0 else if q.most ≤ q.B.length then 4 else 0
def R.byte (q : R) (c : UInt8) : R :=
  if q.dead then q else if q.CR && c == 10 then q.start.fin else if q.CR && q.cr then q.start.fin else if q.CR then q.start.die else if c == 10 && q.lf then q.start.fin else if c == 10 then q.start.die
  else if c == 13 then { q.start with CR := true } else if q.most ≤ q.B.length then q.start.die else { q.start with B := q.B ++ [c] }
def R.new (lf cr : Bool) (most : Nat) : R := ⟨lf, cr, most, [], false, [], false, false⟩

structure Rel (m : M) (q : R) : Prop where
  lf : q.lf = m.lf
  cr : q.cr = m.cr
  most : q.most = m.most
  dead : q.dead = failed m.last
  L : q.L = m.line
  CR : failed m.last = false → q.CR = m.pend
  B : failed m.last = false → q.B = if ended m.last then [] else m.buf

theorem rel_new (lf cr : Bool) (most : Nat) : Rel (M.new lf cr most) (R.new lf cr most) := ⟨rfl, rfl, rfl, rfl, rfl, fun _ => rfl, fun _ => rfl⟩

theorem step_how {m : M} {q : R} (h : Rel m q) (hm : m.Ok) (c : UInt8) : q.how c = m.clear.next c := by
  obtain ⟨lf, cr, most, B, CR, L, over, dead⟩ := q
  obtain ⟨h1, h2, h3, h4, h5, h6, h7⟩ := h
  have hl := hm.clear.len
  simp only at h1 h2 h3 h4 h5 h6 h7
  subst h1 h2 h3
  unfold R.how M.next
  simp only
  have e1 : m.clear.last = m.last := rfl
  have e2 : m.clear.pend = m.pend := rfl
  have e3 : m.clear.cr = m.cr := rfl
  have e4 : m.clear.lf = m.lf := rfl
  have e5 : m.clear.most = m.most := rfl
  rw [e1, e2, e3, e4, e5]
  rw [e5] at hl
  cases hf : failed m.last with
  | true => rw [h4, hf]; simp
  | false =>
    have h8 : B = m.clear.buf := h7 hf
    have h9 := h6 hf
    subst h8 h9
    rw [h4, hf]
    by_cases c10 : c = 10
    · subst c10
      cases m.pend <;> cases m.lf <;> cases m.cr <;> simp
    · by_cases c13 : c = 13
      · subst c13
        cases m.pend <;> cases m.lf <;> cases m.cr <;> simp
      · by_cases hq : m.clear.buf.length = m.most
        · cases m.pend <;> cases m.cr <;> simp [c10, c13, hq]
        · have : ¬ m.most ≤ m.clear.buf.length := by omega
          cases m.pend <;> cases m.cr <;> simp [c10, c13, hq, this]

theorem step_rel {m : M} {q : R} (h : Rel m q) (hm : m.Ok) (c : UInt8) : Rel (m.byte c) (q.byte c) := by
  obtain ⟨lf, cr, most, B, CR, L, over, dead⟩ := q
  obtain ⟨h1, h2, h3, h4, h5, h6, h7⟩ := h
  have hl := hm.clear.len
  have hp := hm.pend
  simp only at h1 h2 h3 h4 h5 h6 h7
  subst h1 h2 h3 h5 h4
  have e1 : m.clear.last = m.last := rfl
  have e2 : m.clear.pend = m.pend := rfl
  have e3 : m.clear.cr = m.cr := rfl
  have e4 : m.clear.lf = m.lf := rfl
  have e5 : m.clear.most = m.most := rfl
  have e6 : (m.byte c).last = m.clear.next c := rfl
  have e7 : (m.byte c).buf = m.clear.buf ++ (if m.clear.keeps c then [c] else []) := rfl
  have e8 : (m.byte c).pend = (m.clear.next c == 0 && c == 13) := rfl
  have e9 : (m.byte c).lf = m.lf := rfl
  have e10 : (m.byte c).cr = m.cr := rfl
  have e11 : (m.byte c).most = m.most := rfl
  rw [e5] at hl
  have key : ∀ (q' : R), q'.lf = m.lf → q'.cr = m.cr → q'.most = m.most → q'.dead = failed (m.clear.next c) → (q'.L = if ended (m.clear.next c) then m.clear.buf ++ (if m.clear.keeps c then [c] else []) else []) →
      (failed (m.clear.next c) = false → q'.CR = (m.clear.next c == 0 && c == 13)) → (failed (m.clear.next c) = false → q'.B = if ended (m.clear.next c) then [] else m.clear.buf ++ (if m.clear.keeps c then [c] else [])) → Rel (m.byte c) q' := by
    intro q' a1 a2 a3 a4 a5 a6 a7
    refine ⟨a1, a2, a3, by rw [e6]; exact a4, ?_, by rw [e6, e8]; exact a6, by rw [e6, e7]; exact a7⟩
    rw [a5, M.line, e6, e7]
  unfold R.byte
  simp only
  cases hf : failed m.last with
  | true =>
    rw [if_pos rfl]
    have en : m.clear.next c = 3 := by unfold M.next; rw [e1, hf, if_pos rfl]
    refine key _ rfl rfl rfl ?_ ?_ ?_ ?_
    · rw [en]; rfl
    · rw [en]
      show m.line = _
      have : ended m.last = false := by
        unfold failed at hf; unfold ended
        rcases hm.last with e | e | e | e | e <;> rw [e] at hf ⊢ <;> first | rfl | cases hf
      rw [M.line, this]; rfl
    · rw [en]; intro h; cases h
    · rw [en]; intro h; cases h
  | false =>
    have h8 : B = m.clear.buf := h7 hf
    have h9 := h6 hf
    subst h8 h9
    rw [if_neg (by decide)]
    by_cases c10 : c = 10
    · subst c10
      cases hpe : m.pend <;> cases hlf : m.lf <;> cases hcr : m.cr <;> refine key _ ?_ ?_ ?_ ?_ ?_ ?_ ?_ <;> simp [M.next, M.keeps, R.fin, R.die, R.start, e1, e2, e4, hf, hpe, hlf, hcr, f1, f3, d1, d3] <;> try rfl
    · by_cases c13 : c = 13
      · subst c13
        cases hpe : m.pend <;> cases hlf : m.lf <;> cases hcr : m.cr <;> refine key _ ?_ ?_ ?_ ?_ ?_ ?_ ?_ <;> simp [M.next, M.keeps, R.fin, R.die, R.start, e1, e2, e3, hf, hpe, hlf, hcr, f0, f2, f3, d0, d2, d3] <;> try rfl
      · by_cases hq : m.clear.buf.length = m.most
        · cases hpe : m.pend <;> cases hcr : m.cr <;> refine key _ ?_ ?_ ?_ ?_ ?_ ?_ ?_ <;> simp [M.next, M.keeps, R.fin, R.die, R.start, e1, e2, e3, e5, hf, hpe, hcr, f2, f3, f4, d2, d3, d4, c10, c13, hq] <;> try rfl
        · have : ¬ m.most ≤ m.clear.buf.length := by omega
          cases hpe : m.pend <;> cases hcr : m.cr <;> refine key _ ?_ ?_ ?_ ?_ ?_ ?_ ?_ <;> simp [M.next, M.keeps, R.fin, R.die, R.start, e1, e2, e3, e5, hf, hpe, hcr, f0, f2, f3, d0, d2, d3, c10, c13, hq, this] <;> try rfl

/-- What the law asks of both behind a byte. -/
theorem rel_len {m : M} {q : R} (h : Rel m q) (hf : failed m.last = false) : q.B.length = m.len := by
  rw [h.B hf, M.len]
  split <;> rfl
end Go.Proofs.YtibnobdbmojjhaaGreatDoor.Ln

/-
  Layer 6 (line): a reader of lines in memory; contracts of package line.
-/
namespace Go.Proofs.YtibnobdbmojjhaaGreatDoor.Ln
open Go.RowKit Base

section memory
variable {w w' w'' : World} {g k B : Nat} {cs : Array Value} {ty : TypeId} {o o' : Option Nat}
theorem row_lt (h : w.heap[g]? = some (.cells cs ty (0, 0))) : g < w.heap.size := (Array.getElem?_eq_some_iff.1 h).1
theorem row_cell (h : w.heap[g]? = some (.cells cs ty (0, 0))) {v : Value} (hk : cs[k]? = some v) : w.cell? ⟨g, k, none⟩ = some v := (cell_of_row w g k cs ty (0, 0) h).trans hk
theorem row_frozen (h : w.heap[g]? = some (.cells cs ty (0, 0))) (k : Nat) : w.frozen? ⟨g, k, none⟩ = false := by simp [World.frozen?, h]
theorem row_set (h : w.heap[g]? = some (.cells cs ty (0, 0))) (k : Nat) (v : Value) : (w.setCell ⟨g, k, none⟩ v).heap[g]? = some (.cells (cs.setIfInBounds k v) ty (0, 0)) := by
  simp [World.setCell, Array.getElem?_modify, h]

/-- What a step of a reader leaves as it was: all blocks but the reader's own and that of its bytes. -/
structure Kept (g : Nat) (o : Option Nat) (w w' : World) : Prop where
  os : w'.os = w.os
  tape : w'.tape = w.tape
  output : w'.output = w.output
  size : w.heap.size ≤ w'.heap.size
  block : ∀ k, k < w.heap.size → k ≠ g → some k ≠ o → w'.heap[k]? = w.heap[k]?
theorem Kept.refl (g : Nat) (o : Option Nat) (w : World) : Kept g o w w := ⟨rfl, rfl, rfl, Nat.le_refl _, fun _ _ _ _ => rfl⟩
/-- The block of the bytes stays, or is one that was made meanwhile. -/
def Moved (w : World) (o o' : Option Nat) : Prop := o' = o ∨ o' = none ∨ ∃ k, o' = some k ∧ w.heap.size ≤ k
theorem Moved.refl (w : World) (o : Option Nat) : Moved w o o := .inl rfl
theorem Moved.trans {o'' : Option Nat} (h : Moved w o o') (h' : Moved w' o' o'') (hs : w.heap.size ≤ w'.heap.size) : Moved w o o'' := by
  rcases h' with rfl | rfl | ⟨k, rfl, hk⟩
  · exact h
  · exact .inr (.inl rfl)
  · exact .inr (.inr ⟨k, rfl, Nat.le_trans hs hk⟩)
theorem Kept.trans (h : Kept g o w w') (h' : Kept g o' w' w'') (hm : Moved w o o') : Kept g o w w'' := by
  refine ⟨h'.os.trans h.os, h'.tape.trans h.tape, h'.output.trans h.output, Nat.le_trans h.size h'.size, fun k hk h1 h2 => ?_⟩
  refine (h'.block k (Nat.lt_of_lt_of_le hk h.size) h1 ?_).trans (h.block k hk h1 h2)
  rcases hm with rfl | rfl | ⟨j, rfl, hj⟩
  · exact h2
  · exact fun e => by cases e
  · intro e
    have : k = j := by simpa using e
    omega
theorem Kept.set (g : Nat) (o : Option Nat) (w : World) (k : Nat) (v : Value) : Kept g o w (w.setCell ⟨g, k, none⟩ v) := ⟨rfl, rfl, rfl, by simp, fun j _ h1 _ => Below.heap_setCell _ _ _ _ h1⟩
theorem Kept.grown (hg : w.grownBy w' o) (g : Nat) : Kept g o w w' := ⟨hg.os, hg.tape, hg.output, hg.size, fun k hk _ h2 => hg.block k hk h2⟩
theorem Kept.of_below (hb : Below w.heap.size w w') (g : Nat) (o : Option Nat) : Kept g o w w' := ⟨hb.os, hb.tape, hb.output, hb.size, fun k hk _ _ => hb.block k hk⟩
theorem Kept.below (h : Kept g o w w') (hB : B ≤ w.heap.size) (hg : B ≤ g) (ho : ∀ k, o = some k → B ≤ k) : Below B w w' :=
  ⟨h.os, h.tape, h.output, h.size, fun k hk => h.block k (by omega) (by omega) (fun e => by have := ho k e.symm; omega)⟩
theorem Kept.row (h : Kept g o w w') {j : Nat} (hr : w.heap[j]? = some (.cells cs ty (0, 0))) (h1 : j ≠ g) (h2 : some j ≠ o) : w'.heap[j]? = some (.cells cs ty (0, 0)) := (h.block j (row_lt hr) h1 h2).trans hr
theorem Kept.own (h : Kept g o w w') {e : TypeId} {size : Nat} {v : Value} {n : Nat} {xs : List Value} (hv : w.ownsRow B e size v n xs) (h1 : v.ownBlock ≠ some g) (h2 : v.ownBlock = none ∨ v.ownBlock ≠ o) : w'.ownsRow B e size v n xs := by
  refine ⟨hv.1, ?_⟩
  rcases hv.2 with hn | ⟨b, cap, cur, rfl, hb, hgg, rest⟩
  · exact .inl hn
  · refine .inr ⟨b, cap, cur, rfl, hb, ?_, rest⟩
    rw [h.block b (row_lt hgg) (by simpa [Value.ownBlock] using h1) (by simpa [Value.ownBlock] using h2)]
    exact hgg
/-- What is owned stays so while a cell of another block is written. -/
theorem own_set {e : TypeId} {size : Nat} {v : Value} {n : Nat} {xs : List Value} (hv : w.ownsRow B e size v n xs) (h1 : v.ownBlock ≠ some g) (k : Nat) (u : Value) : (w.setCell ⟨g, k, none⟩ u).ownsRow B e size v n xs :=
  (Kept.set g none w k u).own hv h1 (by cases v.ownBlock <;> simp)
/-- None of it is left, its room is. -/
theorem own_none {e : TypeId} {size : Nat} {b : Option Addr} {n cap : Nat} {xs : List Value} (hv : w.ownsRow B e size (.slice b n cap) n xs) : w.ownsRow B e size (.slice b 0 cap) 0 [] := by
  refine ⟨by simp, ?_⟩
  rcases hv.2 with ⟨h, _⟩ | ⟨b', cap', cur, h, hb, hg, hn, hc, hs, ht⟩
  · cases h; exact .inl ⟨rfl, rfl⟩
  · cases h; exact .inr ⟨b', cap, cur, rfl, hb, hg, Nat.zero_le _, hc, hs, by simp⟩
theorem own_slice {e : TypeId} {size : Nat} {v : Value} {n : Nat} {xs : List Value} (hv : w.ownsRow B e size v n xs) : ∃ b cap, v = .slice b n cap ∧ n ≤ cap ∧ cap ≤ maxLen ∧ (b = none ∧ n = 0 ∧ cap = 0 ∨ ∃ j, b = some ⟨j, 0, none⟩) := by
  rcases hv.2 with ⟨rfl, rfl⟩ | ⟨b', cap', cur, rfl, hb, hg, hn, hc, hs, ht⟩
  · exact ⟨none, 0, rfl, Nat.le_refl _, Nat.zero_le _, .inl ⟨rfl, rfl, rfl⟩⟩
  · exact ⟨_, cap', rfl, hn, hc, .inr ⟨b', rfl⟩⟩
end memory

def vals (l : List UInt8) : List Value := l.map fun b => .int .u8 (b.toNat : Int)
theorem vals_app (a b : List UInt8) : vals (a ++ b) = vals a ++ vals b := List.map_append
theorem vals_length (a : List UInt8) : (vals a).length = a.length := List.length_map _
abbrev ptr (g : Nat) : Value := .pointer (some ⟨g, 0, none⟩)
abbrev byteV (c : UInt8) : Value := .int .u8 (c.toNat : Int)
abbrev ba (l : List UInt8) : ByteArray := ⟨l.toArray⟩

/-- The cells of a reader. -/
abbrev cellsOf (m : M) (v : Value) : Array Value := #[.bool m.lf, .bool m.cr, .int .i64 (m.most : Int), v, .int .i64 m.last, .bool m.pend]
/-- A reader in its block; its bytes in one of its own. -/
structure Rd (w : World) (B g : Nat) (v : Value) (m : M) : Prop where
  row : w.heap[g]? = some (.cells (cellsOf m v) 119 (0, 0))
  own : w.ownsRow B 5 1 v m.buf.length (vals m.buf)
  ge : B ≤ g
  ne : v.ownBlock ≠ some g
theorem Rd.kept {w w' : World} {B g : Nat} {v : Value} {m : M} (h : Rd w B g v m) {j : Nat} {o : Option Nat} (hk : Kept j o w w') (h1 : g ≠ j) (h2 : some g ≠ o) (h3 : v.ownBlock ≠ some j) (h4 : v.ownBlock = none ∨ v.ownBlock ≠ o) : Rd w' B g v m :=
  ⟨hk.row h.row h1 h2, hk.own h.own h3 h4, h.ge, h.ne⟩

theorem conv_own {w : World} {B : Nat} {v : Value} {l : List UInt8} (h : w.ownsRow B 5 1 v l.length (vals l)) : (convert 22 9 v).run Tryz.prog w = .ok (.string (ba l)) w := by
  rcases h.2 with ⟨rfl, hn⟩ | ⟨b, cap, cur, rfl, hb, hg, _, _, _, ht⟩
  · obtain rfl : l = [] := List.length_eq_zero_iff.1 hn
    exact run_convert_bytes_nil w _ 5 Tryz.underlying22 Tryz.underlying5 0 0 _ Tryz.underlying9
  · refine run_convert_bytes_back (P := Tryz.prog) w 22 9 5 ⟨b, 0, none⟩ cap l Tryz.underlying22 Tryz.underlying5 Tryz.underlying9 (fun j hj => ?_)
    refine h.cells (g := b) rfl j _ ?_
    rw [vals, List.getElem?_map, List.getElem?_eq_getElem hj]; rfl

section code
set_option maxHeartbeats 1000000
set_option maxRecDepth 20000
attribute [local go_sem] Base.some_undef
variable {w : World} {g B : Nat} {m : M} {v : Value}
theorem five (h : w.heap[g]? = some (.cells (cellsOf m v) 119 (0, 0))) : w.cell? ⟨g, 0, none⟩ = some (.bool m.lf) ∧ w.cell? ⟨g, 1, none⟩ = some (.bool m.cr) ∧ w.cell? ⟨g, 2, none⟩ = some (.int .i64 (m.most : Int)) ∧ w.cell? ⟨g, 3, none⟩ = some v ∧ w.cell? ⟨g, 4, none⟩ = some (.int .i64 m.last) ∧ w.cell? ⟨g, 5, none⟩ = some (.bool m.pend) :=
  ⟨row_cell h rfl, row_cell h rfl, row_cell h rfl, row_cell h rfl, row_cell h rfl, row_cell h rfl⟩
theorem ended_any (h : w.heap[g]? = some (.cells (cellsOf m v) 119 (0, 0))) : Calls Tryz.prog 77 #[ptr g] w fun e w' => e = .returned (.bool (ended m.last)) ∧ w' = w := by
  obtain ⟨q0, q1, q2, q3, q4, q5⟩ := five h
  clear h q0 q1 q2 q3 q5
  rcases Classical.em (m.last = 1) with e | e
  · rw [e] at q4 ⊢
    go_enter Tryz.func77, Tryz.ntmps77
    go_wp2
    go_ret
    exact ⟨rfl, rfl⟩
  · have e1 : (m.last == 1) = false := beq_eq_false_iff_ne.2 e
    generalize m.last = x at *
    go_enter Tryz.func77, Tryz.ntmps77
    go_wp2
    go_ret
    exact ⟨by rw [ended, e1, Bool.false_or]; rfl, rfl⟩
theorem failed_any (h : w.heap[g]? = some (.cells (cellsOf m v) 119 (0, 0))) : Calls Tryz.prog 140 #[ptr g] w fun e w' => e = .returned (.bool (failed m.last)) ∧ w' = w := by
  obtain ⟨q0, q1, q2, q3, q4, q5⟩ := five h
  clear h q0 q1 q2 q3 q5
  rcases Classical.em (m.last = 3) with e | e
  · rw [e] at q4 ⊢
    go_enter Tryz.func140, Tryz.ntmps140
    go_wp2
    go_ret
    exact ⟨rfl, rfl⟩
  · have e1 : (m.last == 3) = false := beq_eq_false_iff_ne.2 e
    generalize m.last = x at *
    go_enter Tryz.func140, Tryz.ntmps140
    go_wp2
    go_ret
    exact ⟨by rw [failed, e1, Bool.false_or]; rfl, rfl⟩
theorem pending_any (h : w.heap[g]? = some (.cells (cellsOf m v) 119 (0, 0))) : Calls Tryz.prog 80 #[ptr g] w fun e w' => e = .returned (.bool m.pend) ∧ w' = w := by
  obtain ⟨q0, q1, q2, q3, q4, q5⟩ := five h
  clear h q0 q1 q2 q3 q4
  go_enter Tryz.func80, Tryz.ntmps80
  go_wp2
  go_ret
  exact ⟨rfl, rfl⟩
theorem bareEnd_any (h : w.heap[g]? = some (.cells (cellsOf m v) 119 (0, 0))) : Calls Tryz.prog 142 #[ptr g] w fun e w' => e = .returned (.int .i64 (if m.lf then 1 else 3)) ∧ w' = w := by
  obtain ⟨q0, q1, q2, q3, q4, q5⟩ := five h
  clear h q1 q2 q3 q4 q5
  cases hb : m.lf
  all_goals
    rw [hb] at q0
    go_enter Tryz.func142, Tryz.ntmps142
    go_wp2
    go_ret
    exact ⟨rfl, rfl⟩
theorem ne10 {c : UInt8} (h : ¬ c = 10) : ((c.toNat : Int) == 10) = false := by
  refine beq_eq_false_iff_ne.2 fun e => h (UInt8.toNat_inj.1 ?_)
  show c.toNat = 10
  omega
theorem ne13 {c : UInt8} (h : ¬ c = 13) : ((c.toNat : Int) == 13) = false := by
  refine beq_eq_false_iff_ne.2 fun e => h (UInt8.toNat_inj.1 ?_)
  show c.toNat = 13
  omega
theorem behindCR_any (c : UInt8) (h : w.heap[g]? = some (.cells (cellsOf m v) 119 (0, 0))) : Calls Tryz.prog 141 #[ptr g, byteV c] w fun e w' => e = .returned (.int .i64 (if c = 10 then 1 else if m.cr then 2 else 3)) ∧ w' = w := by
  obtain ⟨q0, q1, q2, q3, q4, q5⟩ := five h
  clear h q0 q2 q3 q4 q5
  by_cases hc : c = 10
  · subst hc
    go_enter Tryz.func141, Tryz.ntmps141
    go_wp2
    go_ret
    exact ⟨rfl, rfl⟩
  · have e1 := ne10 hc
    rw [if_neg hc]
    cases hb : m.cr
    all_goals
      rw [hb] at q1
      go_enter Tryz.func141, Tryz.ntmps141
      go_wp2
      go_ret
      exact ⟨rfl, rfl⟩
theorem len_any (h : w.heap[g]? = some (.cells (cellsOf m v) 119 (0, 0))) (hv : w.ownsRow B 5 1 v m.buf.length (vals m.buf)) : Calls Tryz.prog 54 #[ptr g] w fun e w' => e = .returned (.int .i64 (m.len : Int)) ∧ w' = w := by
  have H := Lib.hid (ended_any h)
  obtain ⟨q0, q1, q2, q3, q4, q5⟩ := five h
  obtain ⟨b, cap, rfl, _⟩ := own_slice hv
  clear h q0 q1 q2 q4 q5 hv
  unfold M.len
  generalize ended m.last = x at *
  cases x
  all_goals
    go_enter Tryz.func54, Tryz.ntmps54
    go_wp2_with (go_at_call 77; with_reducible refine (H.out).mono ?_; rintro e w1 ⟨rfl, hw⟩; rw [hw]; clear hw)
    go_ret
    exact ⟨rfl, rfl⟩
theorem line_any (h : w.heap[g]? = some (.cells (cellsOf m v) 119 (0, 0))) (hv : w.ownsRow B 5 1 v m.buf.length (vals m.buf)) : Calls Tryz.prog 105 #[ptr g] w fun e w' => e = .returned (.string (ba m.line)) ∧ w' = w := by
  have H := Lib.hid (ended_any h)
  obtain ⟨q0, q1, q2, q3, q4, q5⟩ := five h
  have hcv := conv_own hv
  obtain ⟨b, cap, rfl, _⟩ := own_slice hv
  clear h q0 q1 q2 q4 q5 hv
  unfold M.line
  generalize ended m.last = x at *
  cases x
  all_goals
    go_enter Tryz.func105, Tryz.ntmps105
    go_wp2_with (go_at_call 77; with_reducible refine (H.out).mono ?_; rintro e w1 ⟨rfl, hw⟩; rw [hw]; clear hw)
    go_ret
    exact ⟨rfl, rfl⟩
end code
end Go.Proofs.YtibnobdbmojjhaaGreatDoor.Ln

/-
  Layer 6 (line): contracts of New and Byte of package line.
-/
namespace Go.Proofs.YtibnobdbmojjhaaGreatDoor.Ln
open Go.RowKit Base

/-- Within 0 and 4096. -/
def mid (x : Int) : Nat := (min (max x 0) 4096).toNat
theorem mid_le (x : Int) : mid x ≤ 4096 := by unfold mid; omega
theorem mid_a (x : Int) : ((mid x : Nat) : Int) = max 0 (min x 4096) := by unfold mid; omega
theorem mid_b (x : Int) : ((mid x : Nat) : Int) = min (max x 0) 4096 := by unfold mid; omega

/-- How a reader begins, by a profile. -/
abbrev M.of (p : Nat) (most : Int) : M := M.new (Qk.has p 1) (Qk.has p 2) (mid most)

theorem byte_info : (Tryz.prog.info? 5).map (fun i => (i.zero, i.size, i.bytes)) = some (some (.int .u8 0), 1, 1) := by kernel_rfl

section code
set_option maxHeartbeats 2000000
set_option maxRecDepth 40000
attribute [local go_sem] Base.some_undef
theorem new_any (p : Nat) (hp : p < 4294967296) (most : Int) (w : World) : Calls Tryz.prog 68 #[.int .u32 p, .int .i64 most] w fun e w' => e = .returned (ptr w.heap.size) ∧ w' = w.alloc (.cells (cellsOf (M.of p most) (.slice none 0 0)) 119) := by
  have H1 := Lib.hid (Qk.has_any p hp 1); have H2 := Lib.hid (Qk.has_any p hp 2)
  have HM := Lib.hid (mid_a most)
  unfold M.of
  generalize Qk.has p 1 = b1 at *
  generalize Qk.has p 2 = b2 at *
  go_enter Tryz.func68, Tryz.ntmps68
  go_wp2_with (go_at_call 82; first
    | (with_reducible refine (H1.out _).mono ?_; rintro e w1 ⟨rfl, hw⟩; rw [hw]; clear hw)
    | (with_reducible refine (H2.out _).mono ?_; rintro e w1 ⟨rfl, hw⟩; rw [hw]; clear hw))
  go_ret
  refine ⟨rfl, ?_⟩
  simp only [M.new, cellsOf, HM.out]

theorem next_any (c : UInt8) (m : M) (hm : m.buf.length ≤ 4096) (w : World) (B g : Nat) (v : Value) (h : Rd w B g v m) :
    Calls Tryz.prog 121 #[ptr g, byteV c] w fun e w' => ∃ v', e = .returned (.int .i64 (m.next c)) ∧ Rd w' B g v' (m.told c) ∧ Kept g v.ownBlock w w' ∧ Moved w v.ownBlock v'.ownBlock := by
  have HF := Lib.hid (failed_any h.row); have HE := Lib.hid (bareEnd_any h.row); have HC := Lib.hid (behindCR_any c h.row)
  have HR := Lib.hid h
  have stay : m.keeps c = false → m.told c = m := fun hk => by unfold M.told; rw [hk, if_neg (by decide), List.append_nil]
  have ST := Lib.hid stay
  clear stay
  obtain ⟨q0, q1, q2, q3, q4, q5⟩ := five h.row
  clear h q0 q1 q4
  have HN : m.next c = m.next c := rfl
  conv at HN => rhs; unfold M.next
  have HK : m.keeps c = m.keeps c := rfl
  conv at HK => rhs; unfold M.keeps
  cases hf : failed m.last with
  | true =>
    rw [hf] at HF
    rw [HN, hf, if_pos rfl]
    rw [hf, if_pos rfl] at HK
    have HK' := Lib.hid HK
    clear HN HK
    go_enter Tryz.func121, Tryz.ntmps121
    go_wp2_with (go_at_call 140; with_reducible refine (HF.out).mono ?_; rintro e w1 ⟨rfl, hw⟩; rw [hw]; clear hw)
    go_ret
    exact ⟨v, rfl, by rw [ST.out HK'.out]; exact HR.out, Kept.refl _ _ _, Moved.refl _ _⟩
  | false =>
    rw [hf] at HF
    rw [HN, hf, if_neg (by decide)]
    rw [hf, if_neg (by decide)] at HK
    clear HN
    cases hp : m.pend with
    | true =>
      rw [hp] at q5
      rw [if_pos rfl]
      rw [hp, if_pos rfl] at HK
      have HK' := Lib.hid HK
      clear HK
      generalize (if c = 10 then (1 : Int) else if m.cr = true then 2 else 3) = x at *
      go_enter Tryz.func121, Tryz.ntmps121
      go_wp2_with (first
        | (go_at_call 140; with_reducible refine (HF.out).mono ?_; rintro e w1 ⟨rfl, hw⟩; rw [hw]; clear hw)
        | (go_at_call 141; with_reducible refine (HC.out).mono ?_; rintro e w1 ⟨rfl, hw⟩; rw [hw]; clear hw))
      go_ret
      exact ⟨v, rfl, by rw [ST.out HK'.out]; exact HR.out, Kept.refl _ _ _, Moved.refl _ _⟩
    | false =>
      rw [hp] at q5
      rw [if_neg (by decide)]
      rw [hp, if_neg (by decide)] at HK
      by_cases h10 : c = 10
      · rw [if_pos h10]
        rw [if_pos h10] at HK
        have HK' := Lib.hid HK
        have e10 : ((c.toNat : Int) == 10) = true := by rw [h10]; rfl
        clear HK h10
        generalize (if m.lf = true then (1 : Int) else 3) = x at *
        go_enter Tryz.func121, Tryz.ntmps121
        go_wp2_with (first
          | (go_at_call 140; with_reducible refine (HF.out).mono ?_; rintro e w1 ⟨rfl, hw⟩; rw [hw]; clear hw)
          | (go_at_call 142; with_reducible refine (HE.out).mono ?_; rintro e w1 ⟨rfl, hw⟩; rw [hw]; clear hw))
        go_ret
        exact ⟨v, rfl, by rw [ST.out HK'.out]; exact HR.out, Kept.refl _ _ _, Moved.refl _ _⟩
      · rw [if_neg h10]
        rw [if_neg h10] at HK
        have e10 := ne10 h10
        by_cases h13 : c = 13
        · rw [if_pos h13]
          rw [if_pos h13] at HK
          have HK' := Lib.hid HK
          have e13 : ((c.toNat : Int) == 13) = true := by rw [h13]; rfl
          clear HK h13 h10
          go_enter Tryz.func121, Tryz.ntmps121
          go_wp2_with (go_at_call 140; with_reducible refine (HF.out).mono ?_; rintro e w1 ⟨rfl, hw⟩; rw [hw]; clear hw)
          go_ret
          exact ⟨v, rfl, by rw [ST.out HK'.out]; exact HR.out, Kept.refl _ _ _, Moved.refl _ _⟩
        · rw [if_neg h13]
          rw [if_neg h13] at HK
          have e13 := ne13 h13
          obtain ⟨bb, cap, rfl, hcap, _, hbb⟩ := own_slice HR.out.own
          by_cases hl : m.buf.length = m.most
          · rw [if_pos hl]
            rw [if_pos hl] at HK
            have HK' := Lib.hid HK
            have eL : ((m.buf.length : Int) == (m.most : Int)) = true := beq_iff_eq.2 (by omega)
            clear HK hbb hl h10 h13
            go_enter Tryz.func121, Tryz.ntmps121
            go_wp2_with (go_at_call 140; with_reducible refine (HF.out).mono ?_; rintro e w1 ⟨rfl, hw⟩; rw [hw]; clear hw)
            go_quiet (fail)
            go_wp2
            go_ret
            exact ⟨_, rfl, by rw [ST.out HK'.out]; exact ⟨HR.out.row, HR.out.own, HR.out.ge, HR.out.ne⟩, Kept.of_below (Base.below_drewN (Below.refl _ _) _) _ _, Moved.refl _ _⟩
          · rw [if_neg hl]
            rw [if_neg hl] at HK
            have HK' := Lib.hid HK
            have eL : ((m.buf.length : Int) == (m.most : Int)) = false := beq_eq_false_iff_ne.2 (by omega)
            clear HK hbb hl h10 h13
            obtain ⟨i0, hi, hz0, hz1, hz2⟩ := info_parts byte_info
            have G1 := Lib.hid hi; have G2 := Lib.hid hz0; have G3 := Lib.hid hz1; have G4 := Lib.hid hz2
            clear hi hz0 hz1 hz2
            go_enter Tryz.func121, Tryz.ntmps121
            go_wp2_with (go_at_call 140; with_reducible refine (HF.out).mono ?_; rintro e w1 ⟨rfl, hw⟩; rw [hw]; clear hw)
            go_quiet (fail)
            rename_i nq
            have HR1 : Hid (Rd (w.drewN nq) B g (.slice bb m.buf.length cap) m) := Lib.hid ⟨HR.out.row, HR.out.own, HR.out.ge, HR.out.ne⟩
            have HK1 : Hid (Kept g (Value.slice bb m.buf.length cap).ownBlock w (w.drewN nq)) := Lib.hid (Kept.of_below (Base.below_drewN (Below.refl _ _) _) _ _)
            have HS1 : Hid (w.heap.size ≤ (w.drewN nq).heap.size) := Lib.hid (Nat.le_refl _)
            obtain ⟨q0, q1, q2', q3', q4, q5'⟩ := five HR1.out.row
            clear q0 q1 q2' q4 q5' q2 q3 q5 HF HE HC eL
            generalize w.drewN nq = w1 at *
            go_wp2_with (at_builtin; (refine wpList_append_own_at _ rfl _ _ 22 rfl B 5 i0 (.int .u8 0) 1 1 Tryz.underlying22 G1.out G2.out G3.out G4.out rfl (by decide) _ _ _ rfl (HR1.out.own.alloc _) ⟨w1.heap.size, 0, none⟩ 1 1 [byteV c] rfl rfl ?c1 ?c2 ?c3 ?c4 ?c5 ?_))
            case c1 => exact fun j u hu => by have := news_one w1 (byteV c) 5 j u hu; simpa using this
            case c2 => intro u hu; obtain rfl : u = byteV c := by simpa using hu
                       rfl
            case c3 => unfold maxLen; omega
            case c4 => omega
            case c5 =>
              have := row_lt HR1.out.row
              have := HR1.out.ge
              simp; omega
            intro v0 w2 hown hgr _ hmv
            obtain ⟨b2, cap2, hv2, _, _, _⟩ := own_slice hown
            obtain ⟨v', hv'⟩ : ∃ v', v' = Value.slice b2 (m.buf.length + 1) cap2 := ⟨_, rfl⟩
            rw [hv2] at hown hmv ⊢
            rw [← hv'] at hown hmv
            have hg1 := row_lt HR1.out.row
            have hr2 : w2.heap[g]? = some (.cells (cellsOf m (.slice bb m.buf.length cap)) 119 (0, 0)) :=
              (hgr.block g (by simp; omega) (fun e => HR1.out.ne e.symm)).trans ((Below.heap_alloc w1 _ g hg1).trans HR1.out.row)
            have HB : (m.told c).buf = m.buf ++ [c] := by unfold M.told; rw [HK'.out, if_pos rfl]
            have HD : Hid (Rd (w2.setCell ⟨g, 3, none⟩ v') B g v' (m.told c)) := Lib.hid (by
              have ne' : v'.ownBlock ≠ some g := by
                rcases hmv with e | e
                · rw [e]; exact HR1.out.ne
                · rw [e]; intro h; simp at h; omega
              refine ⟨(row_set hr2 3 v').trans rfl, own_set ?_ ne' 3 v', HR1.out.ge, ne'⟩
              rw [HB, vals_app, List.length_append]
              exact hown)
            have HKK : Hid (Kept g (Value.slice bb m.buf.length cap).ownBlock w (w2.setCell ⟨g, 3, none⟩ v')) := Lib.hid (
              ((HK1.out.trans (Kept.of_below ((Below.refl _ _).alloc (Nat.le_refl _) _) g _) (Moved.refl _ _)).trans (Kept.grown hgr g) (Moved.refl _ _)).trans (Kept.set g _ w2 3 v') (Moved.refl _ _))
            have HMV : Hid (Moved w (Value.slice bb m.buf.length cap).ownBlock v'.ownBlock) := Lib.hid (by
              rcases hmv with e | e
              · exact .inl e
              · exact .inr (.inr ⟨_, e, by have := HS1.out; simp; omega⟩))
            have q3 := (five hr2).2.2.2.1
            have z3 := row_frozen hr2 3
            clear hown hgr hmv hr2 HB hv2
            subst hv'
            go_wp2
            go_ret
            exact ⟨_, rfl, HD.out, HKK.out, HMV.out⟩

theorem clear_of {m : M} (h : ended m.last = false) : m.clear = m := by
  obtain ⟨lf, cr, most, buf, last, pend⟩ := m
  simp only at h
  simp [M.clear, h]
theorem tail_rd {w : World} {B g : Nat} {v : Value} {m : M} {c : UInt8} (h : Rd w B g v (m.clear.told c)) :
    Rd ((w.setCell ⟨g, 4, none⟩ (.int .i64 (m.clear.next c))).setCell ⟨g, 5, none⟩ (.bool (m.clear.next c == 0 && c == 13))) B g v (m.byte c) :=
  ⟨(row_set (row_set h.row 4 _) 5 _).trans rfl, own_set (own_set h.own h.ne 4 _) h.ne 5 _, h.ge, h.ne⟩
theorem clear_rd {w : World} {B g : Nat} {b : Option Addr} {cap : Nat} {m : M} (he : ended m.last = true) (h : Rd w B g (.slice b m.buf.length cap) m) : Rd (w.setCell ⟨g, 3, none⟩ (.slice b 0 cap)) B g (.slice b 0 cap) m.clear := by
  have e : m.clear.buf = [] := by unfold M.clear; simp only; rw [he, if_pos rfl]
  have ne : (Value.slice b 0 cap).ownBlock ≠ some g := by have := h.ne; cases b <;> exact this
  refine ⟨(row_set h.row 3 _).trans rfl, own_set ?_ ne 3 _, h.ge, ne⟩
  rw [e]
  exact own_none h.own

theorem byte_any (c : UInt8) (m : M) (hm : m.Ok) (w : World) (B g : Nat) (v : Value) (h : Rd w B g v m) :
    Calls Tryz.prog 103 #[ptr g, byteV c] w fun e w' => ∃ v', e = .returned (.int .i64 (m.byte c).last) ∧ Rd w' B g v' (m.byte c) ∧ Kept g v.ownBlock w w' ∧ Moved w v.ownBlock v'.ownBlock := by
  have HE := Lib.hid (ended_any h.row)
  have HNX := Lib.hid (fun (w : World) (v : Value) (h : Rd w B g v m.clear) => next_any c m.clear (Nat.le_trans hm.clear.len hm.most) w B g v h)
  have HT := Lib.hid (fun (w : World) (v : Value) (h : Rd w B g v (m.clear.told c)) => tail_rd h)
  have HR := Lib.hid h
  have hc : (c = 13 ∧ ((c.toNat : Int) == 13) = true ∧ (c == 13) = true) ∨ (((c.toNat : Int) == 13) = false ∧ (c == 13) = false) := by
    by_cases e : c = 13
    · subst e; exact .inl ⟨rfl, rfl, rfl⟩
    · exact .inr ⟨ne13 e, beq_eq_false_iff_ne.2 e⟩
  have hL : (m.byte c).last = m.clear.next c := rfl
  rw [hL]
  have hx : m.clear.next c = 0 ∨ (m.clear.next c == 0) = false := by
    by_cases e : m.clear.next c = 0
    · exact .inl e
    · exact .inr (beq_eq_false_iff_ne.2 e)
  obtain ⟨b, cap, rfl, hcap, hcm, hbb⟩ := own_slice h.own
  have HM := Lib.hid (show (Value.slice b 0 cap).ownBlock = (Value.slice b m.buf.length cap).ownBlock by cases b <;> rfl)
  cases he : ended m.last with
  | true =>
    rw [he] at HE
    have HCL := Lib.hid (clear_rd he h)
    obtain ⟨q0, q1, q2, q3, q4, q5⟩ := five h.row
    have z3 := row_frozen h.row 3
    clear h hL q0 q1 q2 q4 q5
    generalize m.clear.next c = x at *
    unfold maxLen at hcm
    rcases hbb with ⟨rfl, hn0, rfl⟩ | ⟨j, rfl⟩ <;> rcases hx with rfl | hx <;> rcases hc with ⟨hc0, hc, hc'⟩ | ⟨hc, hc'⟩
    all_goals
      try clear hc0
      go_enter Tryz.func103, Tryz.ntmps103
      go_wp2_with (first
        | (go_at_call 77; with_reducible refine (HE.out).mono ?_; rintro e w1 ⟨rfl, hw⟩; rw [hw]; clear hw)
        | (go_at_call 121; with_reducible refine (HNX.out _ _ HCL.out).mono ?_; rintro e w2 ⟨v2, rfl, hD, hK, hV⟩
           have hD' := Lib.hid hD
           obtain ⟨_, _, _, _, q4, q5⟩ := five hD.row
           have z4 := row_frozen hD.row 4
           have z5 := row_frozen hD.row 5
           clear hD))
      have HT1 := HT.out _ _ hD'.out
      first | rw [hx, hc'] at HT1 | rw [hc'] at HT1
      go_ret
      exact ⟨_, rfl, HT1, ((Kept.set g _ w 3 _).trans hK (.inl HM.out)).trans ((Kept.set g _ _ 4 _).trans (Kept.set g _ _ 5 _) (Moved.refl _ _)) (Moved.refl _ _), Moved.trans (.inl HM.out) hV (by simp)⟩
  | false =>
    rw [he] at HE
    have HCL : Hid (Rd w B g (.slice b m.buf.length cap) m.clear) := Lib.hid (by rw [clear_of he]; exact h)
    clear h hL
    generalize m.clear.next c = x at *
    unfold maxLen at hcm
    rcases hx with rfl | hx <;> rcases hc with ⟨hc0, hc, hc'⟩ | ⟨hc, hc'⟩
    all_goals
      try clear hc0
      go_enter Tryz.func103, Tryz.ntmps103
      go_wp2_with (first
        | (go_at_call 77; with_reducible refine (HE.out).mono ?_; rintro e w1 ⟨rfl, hw⟩; rw [hw]; clear hw)
        | (go_at_call 121; with_reducible refine (HNX.out _ _ HCL.out).mono ?_; rintro e w2 ⟨v2, rfl, hD, hK, hV⟩
           have hD' := Lib.hid hD
           obtain ⟨_, _, _, _, q4, q5⟩ := five hD.row
           have z4 := row_frozen hD.row 4
           have z5 := row_frozen hD.row 5
           clear hD))
      have HT1 := HT.out _ _ hD'.out
      first | rw [hx, hc'] at HT1 | rw [hc'] at HT1
      go_ret
      exact ⟨_, rfl, HT1, hK.trans ((Kept.set g _ _ 4 _).trans (Kept.set g _ _ 5 _) (Moved.refl _ _)) (Moved.refl _ _), hV⟩
end code
end Go.Proofs.YtibnobdbmojjhaaGreatDoor.Ln

/-
  Layer 6 (line): contracts of the document's reader of lines (package parallaxref6).
-/
namespace Go.Proofs.YtibnobdbmojjhaaGreatDoor.Ln
open Go.RowKit Base

abbrev rcells (p : Nat) (q : R) (v : Value) : Array Value := #[.int .u32 (p : Int), .int .i64 (q.most : Int), v, .bool q.CR, .string (ba q.L), .bool q.over, .bool q.dead]
/-- The document's reader in its block. -/
structure Rr (w : World) (B g : Nat) (v : Value) (p : Nat) (q : R) : Prop where
  row : w.heap[g]? = some (.cells (rcells p q v) 99 (0, 0))
  own : w.ownsRow B 5 1 v q.B.length (vals q.B)
  ge : B ≤ g
  ne : v.ownBlock ≠ some g
theorem Rr.kept {w w' : World} {B g : Nat} {v : Value} {p : Nat} {q : R} (h : Rr w B g v p q) {j : Nat} {o : Option Nat} (hk : Kept j o w w') (h1 : g ≠ j) (h2 : some g ≠ o) (h3 : v.ownBlock ≠ some j) (h4 : v.ownBlock = none ∨ v.ownBlock ≠ o) : Rr w' B g v p q :=
  ⟨hk.row h.row h1 h2, hk.own h.own h3 h4, h.ge, h.ne⟩
theorem seven {w : World} {g : Nat} {v : Value} {p : Nat} {q : R} (h : w.heap[g]? = some (.cells (rcells p q v) 99 (0, 0))) :
    w.cell? ⟨g, 0, none⟩ = some (.int .u32 (p : Int)) ∧ w.cell? ⟨g, 1, none⟩ = some (.int .i64 (q.most : Int)) ∧ w.cell? ⟨g, 2, none⟩ = some v ∧ w.cell? ⟨g, 3, none⟩ = some (.bool q.CR) ∧ w.cell? ⟨g, 4, none⟩ = some (.string (ba q.L)) ∧ w.cell? ⟨g, 5, none⟩ = some (.bool q.over) ∧ w.cell? ⟨g, 6, none⟩ = some (.bool q.dead) :=
  ⟨row_cell h rfl, row_cell h rfl, row_cell h rfl, row_cell h rfl, row_cell h rfl, row_cell h rfl, row_cell h rfl⟩
theorem start_rr {w : World} {B g : Nat} {v : Value} {p : Nat} {q : R} (h : Rr w B g v p q) : Rr ((w.setCell ⟨g, 4, none⟩ (.string ⟨#[]⟩)).setCell ⟨g, 5, none⟩ (.bool false)) B g v p q.start :=
  ⟨(row_set (row_set h.row 4 _) 5 _).trans rfl, own_set (own_set h.own h.ne 4 _) h.ne 5 _, h.ge, h.ne⟩
theorem start_kept (w : World) (g : Nat) (o : Option Nat) : Kept g o w ((w.setCell ⟨g, 4, none⟩ (.string ⟨#[]⟩)).setCell ⟨g, 5, none⟩ (.bool false)) := (Kept.set g o w 4 _).trans (Kept.set g o _ 5 _) (Moved.refl _ _)
theorem die_rr {w : World} {B g : Nat} {v : Value} {p : Nat} {q : R} (h : Rr w B g v p q) : Rr (w.setCell ⟨g, 6, none⟩ (.bool true)) B g v p q.die :=
  ⟨(row_set h.row 6 _).trans rfl, own_set h.own h.ne 6 _, h.ge, h.ne⟩
theorem cr_rr {w : World} {B g : Nat} {v : Value} {p : Nat} {q : R} (h : Rr w B g v p q) : Rr (w.setCell ⟨g, 3, none⟩ (.bool true)) B g v p { q with CR := true } :=
  ⟨(row_set h.row 3 _).trans rfl, own_set h.own h.ne 3 _, h.ge, h.ne⟩
theorem fin_rr {w : World} {B g : Nat} {v : Value} {p : Nat} {q : R} (h : Rr w B g v p q) :
    Rr ((((w.setCell ⟨g, 4, none⟩ (.string (ba q.B))).setCell ⟨g, 2, none⟩ (.slice none 0 0)).setCell ⟨g, 3, none⟩ (.bool false)).setCell ⟨g, 5, none⟩ (.bool true)) B g (.slice none 0 0) p q.fin :=
  ⟨(row_set (row_set (row_set (row_set h.row 4 _) 2 _) 3 _) 5 _).trans rfl, ⟨rfl, .inl ⟨rfl, rfl⟩⟩, h.ge, fun e => by cases e⟩
theorem fin_kept (w : World) (g : Nat) (o : Option Nat) (s : Value) : Kept g o w ((((w.setCell ⟨g, 4, none⟩ s).setCell ⟨g, 2, none⟩ (.slice none 0 0)).setCell ⟨g, 3, none⟩ (.bool false)).setCell ⟨g, 5, none⟩ (.bool true)) :=
  (((Kept.set g o w 4 _).trans (Kept.set g o _ 2 _) (Moved.refl _ _)).trans (Kept.set g o _ 3 _) (Moved.refl _ _)).trans (Kept.set g o _ 5 _) (Moved.refl _ _)

section code
set_option maxHeartbeats 2000000
set_option maxRecDepth 40000
attribute [local go_sem] Base.some_undef
theorem rnew_any (p : Nat) (most : Int) (w : World) : Calls Tryz.prog 69 #[.int .u32 p, .int .i64 most] w
    fun e w' => e = .returned (ptr w.heap.size) ∧ w' = w.alloc (.cells (rcells p (R.new (Qk.has p 1) (Qk.has p 2) (mid most)) (.slice none 0 0)) 99) := by
  have HM := Lib.hid (mid_b most)
  go_enter Tryz.func69, Tryz.ntmps69
  go_wp2
  go_ret
  refine ⟨rfl, ?_⟩
  simp only [R.new, rcells, HM.out]
theorem rdie_any (x : Int) (w : World) (B g : Nat) (v : Value) (p : Nat) (q : R) (h : Rr w B g v p q) : Calls Tryz.prog 109 #[ptr g, .int .i64 x] w fun e w' => e = .returned (.int .i64 x) ∧ Rr w' B g v p q.die ∧ ∀ o, Kept g o w w' := by
  have HD := Lib.hid (die_rr h)
  obtain ⟨q0, q1, q2, q3, q4, q5, q6⟩ := seven h.row
  have z6 := row_frozen h.row 6
  clear q0 q1 q2 q3 q4 q5 h
  go_enter Tryz.func109, Tryz.ntmps109
  go_wp2
  go_ret
  exact ⟨rfl, HD.out, fun o => Kept.set g o w 6 _⟩
theorem rend_any (x : Int) (w : World) (B g : Nat) (v : Value) (p : Nat) (q : R) (h : Rr w B g v p q) : Calls Tryz.prog 107 #[ptr g, .int .i64 x] w fun e w' => e = .returned (.int .i64 x) ∧ Rr w' B g (.slice none 0 0) p q.fin ∧ ∀ o, Kept g o w w' := by
  have HD := Lib.hid (fin_rr h)
  have hcv := conv_own h.own
  obtain ⟨q0, q1, q2, q3, q4, q5, q6⟩ := seven h.row
  have z2 := row_frozen h.row 2
  have z3 := row_frozen h.row 3
  have z4 := row_frozen h.row 4
  have z5 := row_frozen h.row 5
  obtain ⟨b, cap, rfl, _⟩ := own_slice h.own
  clear q0 q1 q6 h
  go_enter Tryz.func107, Tryz.ntmps107
  go_wp2
  go_ret
  exact ⟨rfl, HD.out, fun o => fin_kept w g o _⟩
end code
end Go.Proofs.YtibnobdbmojjhaaGreatDoor.Ln

/-
  Layer 6 (line): the contract of Byte of the document's reader of lines.
-/
namespace Go.Proofs.YtibnobdbmojjhaaGreatDoor.Ln
open Go.RowKit Base

section code
set_option maxHeartbeats 4000000
set_option maxRecDepth 40000
attribute [local go_sem] Base.some_undef
theorem rbyte_any (c : UInt8) (q : R) (hq : q.most ≤ 4096) (p : Nat) (hp : p < 4294967296) (h1 : q.lf = Qk.has p 1) (h2 : q.cr = Qk.has p 2) (w : World) (B g : Nat) (v : Value) (h : Rr w B g v p q) :
    Calls Tryz.prog 89 #[ptr g, byteV c] w fun e w' => ∃ v', e = .returned (.int .i64 (q.how c)) ∧ Rr w' B g v' p (q.byte c) ∧ Kept g v.ownBlock w w' ∧ Moved w v.ownBlock v'.ownBlock := by
  have HR := Lib.hid h
  have HS := Lib.hid (start_rr h)
  have HSK := Lib.hid (start_kept w g v.ownBlock)
  have HEN := Lib.hid (fun x => rend_any x _ B g v p q.start HS.out)
  have HDI := Lib.hid (fun x => rdie_any x _ B g v p q.start HS.out)
  have HL := Lib.hid (fun w => Qk.rhas_any p hp 1 w); have HC := Lib.hid (fun w => Qk.rhas_any p hp 2 w)
  obtain ⟨q0, q1, q2, q3, q4, q5, q6⟩ := seven h.row
  have z2 := row_frozen h.row 2
  have z3 := row_frozen h.row 3
  have z4 := row_frozen h.row 4
  have z5 := row_frozen h.row 5
  clear h
  have HH : q.how c = q.how c := rfl
  conv at HH => rhs; unfold R.how
  have HB : q.byte c = q.byte c := rfl
  conv at HB => rhs; unfold R.byte
  generalize hd : q.dead = d at *
  cases d with
  | true =>
    rw [if_pos rfl] at HH HB
    rw [HH, HB]
    clear HH HB
    go_enter Tryz.func89, Tryz.ntmps89
    go_wp2
    go_ret
    exact ⟨v, rfl, HR.out, Kept.refl _ _ _, Moved.refl _ _⟩
  | false =>
    rw [if_neg (by decide)] at HH HB
    rw [← h1] at HL
    rw [← h2] at HC
    clear h1 h2
    generalize hCR : q.CR = CR at *
    have hc : (c = 10 ∧ ((c.toNat : Int) == 10) = true ∧ (c == 10) = true) ∨ (¬ c = 10 ∧ ((c.toNat : Int) == 10) = false ∧ (c == 10) = false) := by
      by_cases e : c = 10
      · subst e; exact .inl ⟨rfl, rfl, rfl⟩
      · exact .inr ⟨e, ne10 e, beq_eq_false_iff_ne.2 e⟩
    obtain ⟨b, cap, rfl, hcap, hcm, hbb⟩ := own_slice HR.out.own
    cases CR with
    | true =>
      rcases hc with ⟨hc0, hc1, hc2⟩ | ⟨hc0, hc1, hc2⟩
      · rw [hc2] at HH HB
        simp only [Bool.and_self, if_true] at HH HB
        rw [HH, HB]
        clear HH HB hc0 hc2
        go_enter Tryz.func89, Tryz.ntmps89
        go_wp2_with (go_at_call 107; with_reducible refine (HEN.out _).mono ?_; rintro e w2 ⟨rfl, hD, hK⟩)
        go_ret
        exact ⟨_, rfl, hD, HSK.out.trans (hK _) (Moved.refl _ _), .inr (.inl rfl)⟩
      · generalize q.cr = cr at *
        rw [hc2] at HH HB
        cases cr
        all_goals
          simp only [Bool.and_false, Bool.false_eq_true, if_true, if_false] at HH HB
          rw [HH, HB]
          clear HH HB hc0 hc2
          go_enter Tryz.func89, Tryz.ntmps89
          go_wp2_with (first
            | (go_at_call 107; with_reducible refine (HEN.out _).mono ?_; rintro e w2 ⟨rfl, hD, hK⟩)
            | (go_at_call 109; with_reducible refine (HDI.out _).mono ?_; rintro e w2 ⟨rfl, hD, hK⟩)
            | (go_at_call 108; with_reducible refine (HC.out _).mono ?_; rintro e w3 ⟨rfl, hw⟩; rw [hw]; clear hw))
          go_ret
          first
            | exact ⟨_, rfl, hD, HSK.out.trans (hK _) (Moved.refl _ _), .inr (.inl rfl)⟩
            | exact ⟨_, rfl, hD, HSK.out.trans (hK _) (Moved.refl _ _), Moved.refl _ _⟩
            | exact ⟨rfl, _, hD, HSK.out.trans (hK _) (Moved.refl _ _), .inr (.inl rfl)⟩
            | exact ⟨rfl, _, hD, HSK.out.trans (hK _) (Moved.refl _ _), Moved.refl _ _⟩
    | false =>
      simp only [Bool.false_and, Bool.false_eq_true, if_false] at HH HB
      rcases hc with ⟨hc0, hc1, hc2⟩ | ⟨hc0, hc1, hc2⟩
      · generalize q.lf = lf at *
        rw [hc2] at HH HB
        cases lf
        all_goals
          simp only [Bool.and_false, Bool.false_eq_true, if_true, if_false] at HH HB
          rw [HH, HB]
          clear HH HB hc0 hc2
          go_enter Tryz.func89, Tryz.ntmps89
          go_wp2_with (first
            | (go_at_call 107; with_reducible refine (HEN.out _).mono ?_; rintro e w2 ⟨rfl, hD, hK⟩)
            | (go_at_call 109; with_reducible refine (HDI.out _).mono ?_; rintro e w2 ⟨rfl, hD, hK⟩)
            | (go_at_call 108; with_reducible refine (HL.out _).mono ?_; rintro e w3 ⟨rfl, hw⟩; rw [hw]; clear hw))
          go_ret
          first
            | exact ⟨_, rfl, hD, HSK.out.trans (hK _) (Moved.refl _ _), .inr (.inl rfl)⟩
            | exact ⟨_, rfl, hD, HSK.out.trans (hK _) (Moved.refl _ _), Moved.refl _ _⟩
            | exact ⟨rfl, _, hD, HSK.out.trans (hK _) (Moved.refl _ _), .inr (.inl rfl)⟩
            | exact ⟨rfl, _, hD, HSK.out.trans (hK _) (Moved.refl _ _), Moved.refl _ _⟩
      · rw [hc2] at HH HB
        simp only [Bool.false_and, Bool.false_eq_true, if_false] at HH HB
        by_cases h13 : c = 13
        · have e13 : ((c.toNat : Int) == 13) = true := by rw [h13]; rfl
          have e13' : (c == 13) = true := by rw [h13]; rfl
          rw [e13'] at HH HB
          simp only [if_true] at HH HB
          have HX := Lib.hid (cr_rr HS.out)
          have HXK := Lib.hid (Kept.set g (Value.slice b q.B.length cap).ownBlock ((w.setCell ⟨g, 4, none⟩ (.string ⟨#[]⟩)).setCell ⟨g, 5, none⟩ (.bool false)) 3 (.bool true))
          rw [HH, HB]
          clear HH HB hc0 hc2 h13 e13'
          go_enter Tryz.func89, Tryz.ntmps89
          go_wp2
          go_ret
          exact ⟨_, rfl, HX.out, HSK.out.trans HXK.out (Moved.refl _ _), Moved.refl _ _⟩
        · have e13 := ne13 h13
          have e13' : (c == 13) = false := beq_eq_false_iff_ne.2 h13
          rw [e13'] at HH HB
          simp only [Bool.false_eq_true, if_false] at HH HB
          by_cases hl : q.most ≤ q.B.length
          · rw [if_pos hl] at HH HB
            rw [HH, HB]
            have eL : (q.most : Int) ≤ (q.B.length : Int) := by omega
            clear HH HB hc0 hc2 h13 e13' hl
            go_enter Tryz.func89, Tryz.ntmps89
            go_wp2
            go_quiet (fail)
            rename_i nq
            have HDI2 := Lib.hid (fun x => rdie_any x (((w.setCell ⟨g, 4, none⟩ (.string ⟨#[]⟩)).setCell ⟨g, 5, none⟩ (.bool false)).drewN nq) B g _ p q.start ⟨HS.out.row, HS.out.own, HS.out.ge, HS.out.ne⟩)
            go_wp2_with (go_at_call 109; with_reducible refine (HDI2.out _).mono ?_; rintro e w2 ⟨rfl, hD, hK⟩)
            go_ret
            exact ⟨_, rfl, hD, (HSK.out.trans (Kept.of_below (Base.below_drewN (Below.refl _ _) nq) g _) (Moved.refl _ _)).trans (hK _) (Moved.refl _ _), Moved.refl _ _⟩
          · rw [if_neg hl] at HH HB
            rw [HH, HB]
            have eL : ¬ (q.most : Int) ≤ (q.B.length : Int) := by omega
            clear HH HB hc0 hc2 h13 e13' hl
            obtain ⟨i0, hi, hz0, hz1, hz2⟩ := info_parts byte_info
            have G1 := Lib.hid hi; have G2 := Lib.hid hz0; have G3 := Lib.hid hz1; have G4 := Lib.hid hz2
            clear hi hz0 hz1 hz2
            go_enter Tryz.func89, Tryz.ntmps89
            go_wp2
            go_quiet (fail)
            rename_i nq
            have HK1 : Hid (Kept g (Value.slice b q.B.length cap).ownBlock w (((w.setCell ⟨g, 4, none⟩ (.string ⟨#[]⟩)).setCell ⟨g, 5, none⟩ (.bool false)).drewN nq)) := Lib.hid (HSK.out.trans (Kept.of_below (Base.below_drewN (Below.refl _ _) nq) g _) (Moved.refl _ _))
            have HR1 : Hid (Rr (((w.setCell ⟨g, 4, none⟩ (.string ⟨#[]⟩)).setCell ⟨g, 5, none⟩ (.bool false)).drewN nq) B g (.slice b q.B.length cap) p q.start) := Lib.hid ⟨HS.out.row, HS.out.own, HS.out.ge, HS.out.ne⟩
            generalize ((w.setCell ⟨g, 4, none⟩ (.string ⟨#[]⟩)).setCell ⟨g, 5, none⟩ (.bool false)).drewN nq = w1 at *
            have hg0 := row_lt HR.out.row
            have hs0 := HK1.out.size
            clear q0 q1 q2 q3 q4 q5 q6 z2 z3 z4 z5 HEN HDI HL HC HS HSK
            obtain ⟨q0, q1, q2, q3, q4, q5, q6⟩ := seven HR1.out.row
            clear q0 q1 q3 q4 q5 q6
            go_wp2_with (at_builtin; (refine wpList_append_own_at _ rfl _ _ 22 rfl B 5 i0 (.int .u8 0) 1 1 Tryz.underlying22 G1.out G2.out G3.out G4.out rfl (by decide) _ _ _ rfl (HR1.out.own.alloc _) ⟨w1.heap.size, 0, none⟩ 1 1 [byteV c] rfl rfl ?c1 ?c2 ?c3 ?c4 ?c5 ?_))
            case c1 => exact fun j u hu => by have := news_one w1 (byteV c) 5 j u hu; simpa using this
            case c2 => intro u hu; obtain rfl : u = byteV c := by simpa using hu
                       rfl
            case c3 => show q.B.length + 1 ≤ maxLen; unfold maxLen; omega
            case c4 => show (q.B.length + 1) * 1 ≤ _; omega
            case c5 =>
              have := row_lt HR1.out.row
              have := HR1.out.ge
              simp; omega
            intro v0 w2 hown hgr _ hmv
            replace hown : w2.ownsRow B 5 1 v0 (q.B.length + 1) (vals q.B ++ [byteV c]) := hown
            obtain ⟨b2, cap2, hv2, _, _, _⟩ := own_slice hown
            obtain ⟨v', hv'⟩ : ∃ v', v' = Value.slice b2 (q.B.length + 1) cap2 := ⟨_, rfl⟩
            rw [hv2] at hown hmv ⊢
            rw [← hv'] at hown hmv
            have hg1 := row_lt HR1.out.row
            have hr2 : w2.heap[g]? = some (.cells (rcells p q.start (.slice b q.B.length cap)) 99 (0, 0)) :=
              (hgr.block g (by simp; omega) (fun e => HR1.out.ne e.symm)).trans ((Below.heap_alloc w1 _ g hg1).trans HR1.out.row)
            have HD : Hid (Rr (w2.setCell ⟨g, 2, none⟩ v') B g v' p { q.start with B := q.B ++ [c] }) := Lib.hid (by
              have ne' : v'.ownBlock ≠ some g := by
                rcases hmv with e | e
                · rw [e]; exact HR1.out.ne
                · rw [e]; intro h; simp at h; omega
              refine ⟨(row_set hr2 2 v').trans rfl, own_set ?_ ne' 2 v', HR1.out.ge, ne'⟩
              rw [vals_app, List.length_append]
              exact hown)
            have HKK : Hid (Kept g (Value.slice b q.B.length cap).ownBlock w (w2.setCell ⟨g, 2, none⟩ v')) := Lib.hid (
              ((HK1.out.trans (Kept.of_below ((Below.refl _ _).alloc (Nat.le_refl _) _) g _) (Moved.refl _ _)).trans (Kept.grown hgr g) (Moved.refl _ _)).trans (Kept.set g _ w2 2 v') (Moved.refl _ _))
            have HMV : Hid (Moved w (Value.slice b q.B.length cap).ownBlock v'.ownBlock) := Lib.hid (by
              rcases hmv with e | e
              · exact .inl e
              · refine .inr (.inr ⟨_, e, ?_⟩)
                first | omega | (simp; omega))
            have q3 := (seven hr2).2.2.1
            have z3 := row_frozen hr2 2
            clear hown hgr hmv hr2 hv2
            subst hv'
            go_wp2
            go_ret
            first | exact ⟨_, rfl, HD.out, HKK.out, HMV.out⟩ | exact ⟨rfl, _, HD.out, HKK.out, HMV.out⟩
end code
end Go.Proofs.YtibnobdbmojjhaaGreatDoor.Ln

/-
  Layer 6 (line): one reader, two readers side by side: what a step of one leaves of the other; contracts in these words.
-/
namespace Go.Proofs.YtibnobdbmojjhaaGreatDoor.Ln
open Go.RowKit Base

/-- Two readers' blocks lie apart. -/
structure Apart (g : Nat) (o : Option Nat) (g' : Nat) (o' : Option Nat) : Prop where
  gg : g ≠ g'
  og : o ≠ some g'
  go : o' ≠ some g
  oo : o = none ∨ o ≠ o'
theorem Apart.symm {g g' : Nat} {o o' : Option Nat} (h : Apart g o g' o') : Apart g' o' g o := by
  refine ⟨fun e => h.gg e.symm, h.go, h.og, ?_⟩
  rcases h.oo with e | e
  · cases o' with
    | none => exact .inl rfl
    | some k => exact .inr (by rw [e]; exact fun h => by cases h)
  · exact .inr fun e' => e e'.symm
theorem Apart.moved {w : World} {g g' : Nat} {o o' o1 : Option Nat} (h : Apart g o g' o') (hm : Moved w o o1) (hg : g' < w.heap.size) (ho : ∀ k, o' = some k → k < w.heap.size) : Apart g o1 g' o' := by
  rcases hm with rfl | rfl | ⟨k, rfl, hk⟩
  · exact h
  · exact ⟨h.gg, fun e => (by cases e), h.go, .inl rfl⟩
  · refine ⟨h.gg, fun e => ?_, h.go, .inr fun e => ?_⟩
    · have : k = g' := by simpa using e
      omega
    · have := ho k e.symm
      omega

/-- One reader. -/
def One (w : World) (B g : Nat) (m : M) : Prop := ∃ v, Rd w B g v m
/-- Two readers. -/
def Two (w : World) (B g : Nat) (m : M) (g' : Nat) (m' : M) : Prop := ∃ v v', Rd w B g v m ∧ Rd w B g' v' m' ∧ Apart g v.ownBlock g' v'.ownBlock
/-- A reader, and the document's. -/
def Both (w : World) (B g : Nat) (m : M) (g' : Nat) (p : Nat) (q : R) : Prop := ∃ v v', Rd w B g v m ∧ Rr w B g' v' p q ∧ Apart g v.ownBlock g' v'.ownBlock

section
variable {w w' : World} {B g g' p : Nat} {m m' : M} {q : R}
theorem Rd.le {v : Value} (h : Rd w B g v m) : B ≤ w.heap.size := Nat.le_trans h.ge (Nat.le_of_lt (row_lt h.row))
theorem Rr.le {v : Value} (h : Rr w B g v p q) : B ≤ w.heap.size := Nat.le_trans h.ge (Nat.le_of_lt (row_lt h.row))
theorem Two.symm (h : Two w B g m g' m') : Two w B g' m' g m := by
  obtain ⟨v, v', h1, h2, h3⟩ := h
  exact ⟨v', v, h2, h1, h3.symm⟩
theorem Two.left (h : Two w B g m g' m') : One w B g m := by
  obtain ⟨v, v', h1, h2, h3⟩ := h
  exact ⟨v, h1⟩
theorem One.below (h : One w B g m) (hb : Below w.heap.size w w') : One w' B g m := by
  obtain ⟨v, h⟩ := h
  exact ⟨v, (hb.block g (row_lt h.row)).trans h.row, h.own.kept ⟨hb.os, hb.tape, hb.output, hb.size, fun k hk _ => hb.block k hk⟩ (Classical.em _), h.ge, h.ne⟩
theorem Two.below (h : Two w B g m g' m') (hb : Below w.heap.size w w') : Two w' B g m g' m' := by
  obtain ⟨v, v', h1, h2, h3⟩ := h
  exact ⟨v, v', ⟨(hb.block g (row_lt h1.row)).trans h1.row, h1.own.kept ⟨hb.os, hb.tape, hb.output, hb.size, fun k hk _ => hb.block k hk⟩ (Classical.em _), h1.ge, h1.ne⟩,
    ⟨(hb.block g' (row_lt h2.row)).trans h2.row, h2.own.kept ⟨hb.os, hb.tape, hb.output, hb.size, fun k hk _ => hb.block k hk⟩ (Classical.em _), h2.ge, h2.ne⟩, h3⟩
theorem Both.below (h : Both w B g m g' p q) (hb : Below w.heap.size w w') : Both w' B g m g' p q := by
  obtain ⟨v, v', h1, h2, h3⟩ := h
  exact ⟨v, v', ⟨(hb.block g (row_lt h1.row)).trans h1.row, h1.own.kept ⟨hb.os, hb.tape, hb.output, hb.size, fun k hk _ => hb.block k hk⟩ (Classical.em _), h1.ge, h1.ne⟩,
    ⟨(hb.block g' (row_lt h2.row)).trans h2.row, h2.own.kept ⟨hb.os, hb.tape, hb.output, hb.size, fun k hk _ => hb.block k hk⟩ (Classical.em _), h2.ge, h2.ne⟩, h3⟩
theorem One.new (w : World) (m : M) (hb : m.buf = []) : One (w.alloc (.cells (cellsOf m (.slice none 0 0)) 119)) w.heap.size w.heap.size m :=
  ⟨.slice none 0 0, heap_alloc_new w _, ⟨by rw [hb]; rfl, .inl ⟨rfl, by rw [hb]; rfl⟩⟩, Nat.le_refl _, fun e => by cases e⟩
theorem Two.new (h : One w B g m) (m' : M) (hb : m'.buf = []) : Two (w.alloc (.cells (cellsOf m' (.slice none 0 0)) 119)) B g m w.heap.size m' := by
  obtain ⟨v, h1⟩ := h
  have hl := row_lt h1.row
  refine ⟨v, .slice none 0 0, ⟨(Below.heap_alloc w _ g hl).trans h1.row, h1.own.alloc _, h1.ge, h1.ne⟩, ⟨heap_alloc_new w _, ⟨by rw [hb]; rfl, .inl ⟨rfl, by rw [hb]; rfl⟩⟩, h1.le, (fun e => by cases e)⟩, by omega, fun e => ?_, (fun e => by cases e), ?_⟩
  · have := (h1.own.lt _ e).2; omega
  · cases hv : v.ownBlock with
    | none => exact .inl rfl
    | some k => exact .inr fun e => by cases e
theorem Both.new (h : One w B g m) (p : Nat) (q : R) (hb : q.B = []) : Both (w.alloc (.cells (rcells p q (.slice none 0 0)) 99)) B g m w.heap.size p q := by
  obtain ⟨v, h1⟩ := h
  have hl := row_lt h1.row
  refine ⟨v, .slice none 0 0, ⟨(Below.heap_alloc w _ g hl).trans h1.row, h1.own.alloc _, h1.ge, h1.ne⟩, ⟨heap_alloc_new w _, ⟨by rw [hb]; rfl, .inl ⟨rfl, by rw [hb]; rfl⟩⟩, h1.le, (fun e => by cases e)⟩, by omega, fun e => ?_, (fun e => by cases e), ?_⟩
  · have := (h1.own.lt _ e).2; omega
  · cases hv : v.ownBlock with
    | none => exact .inl rfl
    | some k => exact .inr fun e => by cases e
theorem Both.doc (h : Both w B g m g' p q) : ∃ v, w.heap[g']? = some (.cells (rcells p q v) 99 (0, 0)) ∧ ∃ b cap, v = .slice b q.B.length cap := by
  obtain ⟨v, v', h1, h2, h3⟩ := h
  obtain ⟨b, cap, rfl, _⟩ := own_slice h2.own
  exact ⟨_, h2.row, b, cap, rfl⟩
theorem Both.le (h : Both w B g m g' p q) : B ≤ w.heap.size := by
  obtain ⟨v, v', h1, h2, h3⟩ := h
  exact h1.le
end

section code
variable {w : World} {B g g' p : Nat} {m m' : M} {q : R}
theorem one_byte (c : UInt8) (hm : m.Ok) (h : One w B g m) :
    Calls Tryz.prog 103 #[ptr g, byteV c] w fun e w' => e = .returned (.int .i64 (m.byte c).last) ∧ One w' B g (m.byte c) ∧ Below B w w' := by
  obtain ⟨v, h⟩ := h
  refine (byte_any c m hm w B g v h).mono ?_
  rintro e w' ⟨v', rfl, hD, hK, hV⟩
  exact ⟨rfl, ⟨v', hD⟩, hK.below h.le h.ge fun k hk => (h.own.lt k hk).1⟩
theorem two_byte (c : UInt8) (hm : m.Ok) (h : Two w B g m g' m') :
    Calls Tryz.prog 103 #[ptr g, byteV c] w fun e w' => e = .returned (.int .i64 (m.byte c).last) ∧ Two w' B g (m.byte c) g' m' ∧ Below B w w' := by
  obtain ⟨v, v2, h, h2, h3⟩ := h
  refine (byte_any c m hm w B g v h).mono ?_
  rintro e w' ⟨v', rfl, hD, hK, hV⟩
  exact ⟨rfl, ⟨v', v2, hD, h2.kept hK (fun e => h3.gg e.symm) (fun e => h3.og e.symm) h3.go h3.symm.oo, h3.moved hV (row_lt h2.row) fun k hk => (h2.own.lt k hk).2⟩, hK.below h.le h.ge fun k hk => (h.own.lt k hk).1⟩
theorem two_byte' (c : UInt8) (hm : m'.Ok) (h : Two w B g m g' m') :
    Calls Tryz.prog 103 #[ptr g', byteV c] w fun e w' => e = .returned (.int .i64 (m'.byte c).last) ∧ Two w' B g m g' (m'.byte c) ∧ Below B w w' := by
  refine (two_byte c hm h.symm).mono ?_
  rintro e w' ⟨rfl, hD, hK⟩
  exact ⟨rfl, hD.symm, hK⟩
theorem both_byte (c : UInt8) (hm : m.Ok) (h : Both w B g m g' p q) :
    Calls Tryz.prog 103 #[ptr g, byteV c] w fun e w' => e = .returned (.int .i64 (m.byte c).last) ∧ Both w' B g (m.byte c) g' p q ∧ Below B w w' := by
  obtain ⟨v, v2, h, h2, h3⟩ := h
  refine (byte_any c m hm w B g v h).mono ?_
  rintro e w' ⟨v', rfl, hD, hK, hV⟩
  exact ⟨rfl, ⟨v', v2, hD, h2.kept hK (fun e => h3.gg e.symm) (fun e => h3.og e.symm) h3.go h3.symm.oo, h3.moved hV (row_lt h2.row) fun k hk => (h2.own.lt k hk).2⟩, hK.below h.le h.ge fun k hk => (h.own.lt k hk).1⟩
theorem both_rbyte (c : UInt8) (hq : q.most ≤ 4096) (hp : p < 4294967296) (h1 : q.lf = Qk.has p 1) (h2 : q.cr = Qk.has p 2) (h : Both w B g m g' p q) :
    Calls Tryz.prog 89 #[ptr g', byteV c] w fun e w' => e = .returned (.int .i64 (q.how c)) ∧ Both w' B g m g' p (q.byte c) ∧ Below B w w' := by
  obtain ⟨v, v2, hd, hr, h3⟩ := h
  refine (rbyte_any c q hq p hp h1 h2 w B g' v2 hr).mono ?_
  rintro e w' ⟨v', rfl, hD, hK, hV⟩
  exact ⟨rfl, ⟨v, v', hd.kept hK h3.gg (fun e => h3.go e.symm) h3.og h3.oo, hD, (h3.symm.moved hV (row_lt hd.row) fun k hk => (hd.own.lt k hk).2).symm⟩, hK.below hr.le hr.ge fun k hk => (hr.own.lt k hk).1⟩
theorem one_line (h : One w B g m) : Calls Tryz.prog 105 #[ptr g] w fun e w' => e = .returned (.string (ba m.line)) ∧ w' = w := by
  obtain ⟨v, h⟩ := h
  exact line_any h.row h.own
theorem one_len (h : One w B g m) : Calls Tryz.prog 54 #[ptr g] w fun e w' => e = .returned (.int .i64 (m.len : Int)) ∧ w' = w := by
  obtain ⟨v, h⟩ := h
  exact len_any h.row h.own
theorem one_pending (h : One w B g m) : Calls Tryz.prog 80 #[ptr g] w fun e w' => e = .returned (.bool m.pend) ∧ w' = w := by
  obtain ⟨v, h⟩ := h
  exact pending_any h.row
theorem Both.left (h : Both w B g m g' p q) : One w B g m := by
  obtain ⟨v, v', h1, h2, h3⟩ := h
  exact ⟨v, h1⟩
end code
end Go.Proofs.YtibnobdbmojjhaaGreatDoor.Ln

/-
  Layer 6 (line): the walk of the laws' first test (three ends that are known).
-/
namespace Go.Proofs.YtibnobdbmojjhaaGreatDoor.Ln
open Go.RowKit Base

abbrev k0 : M := ⟨false, false, 5, [], 0, false⟩
abbrev k6 : M := ⟨true, true, 5, [], 0, false⟩
theorem of0 : M.of 0 5 = k0 := by
  show M.new (Qk.has 0 1) (Qk.has 0 2) (mid 5) = _
  rw [show Qk.has 0 1 = false by decide, show Qk.has 0 2 = false by decide, show mid 5 = 5 by decide]; rfl
theorem of6 : M.of 6 5 = k6 := by
  show M.new (Qk.has 6 1) (Qk.has 6 2) (mid 5) = _
  rw [show Qk.has 6 1 = true by decide, show Qk.has 6 2 = true by decide, show mid 5 = 5 by decide]; rfl
theorem k0_ok : k0.Ok := ⟨.inl rfl, by decide, by decide, by decide⟩
theorem k6_ok : k6.Ok := ⟨.inl rfl, by decide, by decide, by decide⟩

/-- New, in a world that holds nothing else of interest; beside a reader. -/
theorem new_one (p : Nat) (hp : p < 4294967296) (most : Int) (w : World) : Calls Tryz.prog 68 #[.int .u32 p, .int .i64 most] w fun e w' => e = .returned (ptr w.heap.size) ∧ One w' w.heap.size w.heap.size (M.of p most) ∧ Below w.heap.size w w' := by
  refine (new_any p hp most w).mono ?_
  rintro e w' ⟨rfl, rfl⟩
  exact ⟨rfl, One.new w _ rfl, (Below.refl _ _).alloc (Nat.le_refl _) _⟩
theorem new_two (p : Nat) (hp : p < 4294967296) (most : Int) {w : World} {B g : Nat} {m : M} (h : One w B g m) : Calls Tryz.prog 68 #[.int .u32 p, .int .i64 most] w fun e w' => e = .returned (ptr w.heap.size) ∧ Two w' B g m w.heap.size (M.of p most) ∧ Below w.heap.size w w' := by
  refine (new_any p hp most w).mono ?_
  rintro e w' ⟨rfl, rfl⟩
  exact ⟨rfl, Two.new h _ rfl, (Below.refl _ _).alloc (Nat.le_refl _) _⟩
theorem new_both (p : Nat) (most : Int) {w : World} {B g : Nat} {m : M} (h : One w B g m) : Calls Tryz.prog 69 #[.int .u32 p, .int .i64 most] w
    fun e w' => e = .returned (ptr w.heap.size) ∧ Both w' B g m w.heap.size p (R.new (Qk.has p 1) (Qk.has p 2) (mid most)) ∧ Below w.heap.size w w' := by
  refine (rnew_any p most w).mono ?_
  rintro e w' ⟨rfl, rfl⟩
  exact ⟨rfl, Both.new h p _ rfl, (Below.refl _ _).alloc (Nat.le_refl _) _⟩

section code
set_option maxHeartbeats 4000000
set_option maxRecDepth 40000
attribute [local go_sem] Base.some_undef
end code
end Go.Proofs.YtibnobdbmojjhaaGreatDoor.Ln
