/-
  Layer 13 (parser), in plain words, in the document's order: what a parser holds, how it goes on by a byte, what it says. No program is spoken of.
-/
import Derived.Test.YtibnobdbmojjhaaGreatDoorReq
import Derived.Test.YtibnobdbmojjhaaGreatDoorField
import Derived.Test.YtibnobdbmojjhaaGreatDoorFrm
import Derived.Test.YtibnobdbmojjhaaGreatDoorChk
import Derived.Test.YtibnobdbmojjhaaGreatDoorLine
import Derived.Test.YtibnobdbmojjhaaGreatDoorRecWords
namespace Go.Proofs.YtibnobdbmojjhaaGreatDoor.Par
open Go.RowKit Base Txt

/-- Bounds. -/
structure Bd where
  x0 : Int
  x1 : Int
  x2 : Int
  x3 : Int
  x4 : Int
  x5 : Int
  x6 : Int
  x7 : Int
  ch : Bool
  od : Bool
def Bd.right (b : Bd) : Bool := Bnd.right b.x0 b.x1 b.x2 b.x3 b.x4 b.x5 b.x6 b.x7

/-- What a parser holds: where it is (0 the first line, 1 fields, 2 a body of so many bytes, 3 a chunk's size, 4 its bytes, 5 its end, 6 trailers), its line, the record so far, how many lines, bytes of a head, bytes left, no byte of a body yet, no byte of a next record, the error, the records that are whole. -/
structure S where
  st : Nat
  rd : Ln.R
  r : Rec.R
  lines : Nat
  head : Nat
  left : Nat
  fresh : Bool
  clean : Bool
  e : Nat
  out : List Rec.R
abbrev E0 : ByteArray := ⟨#[]⟩
def zero : Rec.R := ⟨E0, E0, 0, [], false, [], []⟩
def nl (p : Nat) (most : Int) : Ln.R := Ln.R.new (Qk.has p 1) (Qk.has p 2) (Ln.mid most)
def headed (st : Nat) : Bool := st == 0 || st == 1 || st == 6
def bodied (st : Nat) : Bool := st == 2 || st == 4

def joinF (f : Fld) (ln : List UInt8) : Fld := (f.1, ba (Fd.joined f.2.data.toList ln))
/-- A line more of a list of fields: an error, or the list. -/
def fieldV (p lines : Nat) (l : List Fld) (ln : List UInt8) (most : Int) : Nat ⊕ List Fld :=
  if most < ((lines + 1 : Nat) : Int) then .inl 431
  else if (Fd.goes p ln && !l.isEmpty) = true then .inr (l.dropLast ++ [joinF (l.getLast?.getD dflt) ln])
  else match Fd.parse (Fd.clOf p) ln with
    | none => .inl 400
    | some none => .inr l
    | some (some (n, v)) => .inr (l ++ [(ba n, ba v)])

section
variable (p : Nat) (b : Bd)
def S.fail (s : S) (e : Nat) : S := { s with e := e, clean := false, r := zero }
def S.next (s : S) : S := { s with r := zero, st := 0, lines := 0, head := 0, fresh := false, clean := true, rd := nl p b.x0 }
def S.whole (s : S) : S := S.next p b { s with out := s.out ++ [s.r] }
def S.over (s : S) : S :=
  let d := Frm.decideV (Frm.clOf p) b.ch b.x3 s.r.k s.r.fs
  if d.2.2 ≠ 0 then s.fail d.2.2.toNat
  else if d.1 = 2 then { s with r := { s.r with ch := true }, st := 3, fresh := true, rd := nl p b.x0 }
  else if d.2.1 = 0 then s.whole p b
  else { s with st := 2, left := d.2.1.toNat, fresh := true }
def S.chunk (s : S) (ln : List UInt8) : S :=
  let z := Chk.sizeV (Qk.has p 27) (Qk.has p 28) b.x4 b.x3 ln
  if z.2 ≠ 0 then s.fail z.2.toNat
  else if z.1 = 0 then { s with st := 6, lines := 0, rd := nl p b.x0 }
  else if b.x3 - (s.r.body.length : Int) < z.1 then s.fail 413
  else { s with st := 4, left := z.1.toNat }
def S.first (s : S) (ln : List UInt8) : S :=
  if ln = [] then (if Qk.has p 0 = true then { s with clean := true } else s.fail 400)
  else
    let q := Rq.request (Rq.clOf p) b.od ln
    if q.2.2.2 ≠ 0 then s.fail q.2.2.2 else { s with r := { s.r with m := ba q.1, x := ba q.2.1, k := (q.2.2.1 : Int) }, st := 1 }
def S.fields (s : S) (ln : List UInt8) : S :=
  if ln = [] then s.over p b
  else match fieldV p s.lines s.r.fs ln b.x1 with
    | .inl e => S.fail { s with lines := s.lines + 1 } e
    | .inr l => { s with lines := s.lines + 1, r := { s.r with fs := l } }
def S.trail (s : S) (ln : List UInt8) : S :=
  if ln = [] then s.whole p b
  else match fieldV p s.lines s.r.ts ln b.x5 with
    | .inl e => S.fail { s with lines := s.lines + 1 } e
    | .inr l => { s with lines := s.lines + 1, r := { s.r with ts := l } }
def S.ended (s : S) (ln : List UInt8) : S :=
  match s.st with
  | 0 => s.first p b ln
  | 1 => s.fields p b ln
  | 3 => s.chunk p b ln
  | 5 => { s with st := 3, rd := nl p b.x0 }
  | 6 => s.trail p b ln
  | _ => s
/-- A byte of a body. -/
def S.bodyB (s : S) (c : UInt8) : S :=
  let s1 := { s with r := { s.r with body := s.r.body ++ [c] }, left := s.left - 1 }
  if 1 < s.left then s1 else if s.st = 2 then s1.whole p b else { s1 with st := 5, rd := nl p 0 }
def longE (st : Nat) : Nat := if st = 0 then 414 else if headed st = true then 431 else 400
/-- A byte, where none is looked at twice. -/
def S.plain (s : S) (c : UInt8) : S :=
  let s0 := { s with fresh := false }
  if bodied s.st = true then s0.bodyB p b c
  else
    let s1 := { s0 with rd := s.rd.byte c }
    if s.rd.how c = 3 then s1.fail 400
    else if s.rd.how c = 4 then s1.fail (longE s.st)
    else if s.rd.how c = 0 then s1
    else s1.ended p b (s.rd.byte c).L
/-- Bytes of a head are counted. -/
def S.count (f : S → S) (s : S) : S :=
  if s.e ≠ 0 then s
  else if headed s.st = true then (if b.x2 < ((s.head + 1 : Nat) : Int) then S.fail { s with head := s.head + 1 } 431 else f { s with head := s.head + 1, clean := false })
  else f { s with clean := false }
def S.again (s : S) (c : UInt8) (was : Nat) : S :=
  if (s.st == 0 && !(was == 0)) = true then s.count b (fun s => s.plain p b c)
  else
    let s1 := { s with clean := false }
    if (!headed was && s.st == 6) = true then s1.count b (fun s => s.plain p b c) else s1.plain p b c
def S.byte1 (s : S) (c : UInt8) : S :=
  let s0 := { s with fresh := false }
  if bodied s.st = true then s0.bodyB p b c
  else
    let s1 := { s0 with rd := s.rd.byte c }
    if s.rd.how c = 3 then s1.fail 400
    else if s.rd.how c = 4 then (if (s.st == 5 && Qk.has p 29) = true then S.plain p b { s1 with st := 3, rd := nl p b.x0 } c else s1.fail (longE s.st))
    else if s.rd.how c = 0 then s1
    else if s.rd.how c = 2 then (if (s1.ended p b (s.rd.byte c).L).e = 0 then S.again p b (s1.ended p b (s.rd.byte c).L) c s.st else s1.ended p b (s.rd.byte c).L)
    else s1.ended p b (s.rd.byte c).L
def S.byte (s : S) (c : UInt8) : S := s.count b (fun s => s.byte1 p b c)
def S.feed (s : S) (cs : List UInt8) : S := cs.foldl (S.byte p b) s
def S.new : S := if (b.right && decide (p < 1073741824)) = true then ⟨0, nl p b.x0, zero, 0, 0, 0, false, true, 0, []⟩ else ⟨0, nl p b.x0, zero, 0, 0, 0, false, false, 20, []⟩
def S.waits (s : S) : Bool := decide (s.e = 0) && (s.fresh && Rec.expects s.r)
def S.held (s : S) : Nat := if s.e = 0 then Rec.size s.r + (if bodied s.st = true then 0 else s.rd.B.length) else 0
/-- A stream, by a new one. -/
def S.read (cs : List UInt8) : S := S.feed p b (S.new p b) cs
end
theorem S.feed_app (p : Nat) (b : Bd) (s : S) (xs ys : List UInt8) : s.feed p b (xs ++ ys) = (s.feed p b xs).feed p b ys := List.foldl_append
theorem S.count_dead {b : Bd} {f : S → S} {s : S} (h : s.e ≠ 0) : s.count b f = s := by unfold S.count; rw [if_pos h]
theorem S.byte_dead {p : Nat} {b : Bd} {s : S} (h : s.e ≠ 0) (c : UInt8) : s.byte p b c = s := S.count_dead h
theorem S.feed_dead {p : Nat} {b : Bd} : ∀ (cs : List UInt8) {s : S}, s.e ≠ 0 → s.feed p b cs = s
  | [], _, _ => rfl
  | c :: cs, s, h => by
    show (s.byte p b c).feed p b cs = s
    rw [S.byte_dead h, S.feed_dead cs h]
end Go.Proofs.YtibnobdbmojjhaaGreatDoor.Par
