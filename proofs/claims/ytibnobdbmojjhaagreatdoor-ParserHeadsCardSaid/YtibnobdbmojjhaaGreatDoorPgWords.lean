/-
  Layer 13 (parser): the program's parser, in plain words, as it goes: what it holds, how it goes on by a byte, what it says. No memory is spoken of.
-/
import Derived.Test.YtibnobdbmojjhaaGreatDoorParWords
namespace Go.Proofs.YtibnobdbmojjhaaGreatDoor.Pg
open Go.RowKit Base Txt Par

/-- What a parser holds that hasn't failed: its stage (1 the first line, 2 fields, 3 a body of so many bytes, 4 a chunk's size, 5 its bytes, 6 its end, 7 trailers), its line, the record so far, lines of the head, of trailers, bytes of a head, whether the byte at hand is one of them, bytes left, the records that are whole. -/
structure T where
  st : Nat
  rd : Ln.M
  r : Rec.R
  hl : Nat
  bl : Nat
  size : Nat
  cnt : Bool
  left : Nat
  out : List Rec.R
/-- A parser: it goes on, or has failed. -/
inductive Q
  | live (t : T)
  | dead (e : Nat) (out : List Rec.R)
section
variable (p : Nat) (b : Bd)
def T.fin (t : T) : T := { t with out := t.out ++ [t.r], r := zero, hl := 0, bl := 0, size := 0, cnt := false, left := 0, st := 1 }
def T.enter (t : T) (st : Nat) (most : Int) : T := { t with st := st, rd := Ln.M.of p most }
def T.endData (t : T) : T := if t.r.ch = true then t.enter p 6 0 else t.fin
def T.keep (t : T) (c : UInt8) : T := { t with r := { t.r with body := t.r.body ++ [c] }, left := t.left - 1 }
def T.first (t : T) (s : List UInt8) : Nat × T :=
  if s = [] then (if Qk.has p 0 = true then 0 else 400, t)
  else
    let q := Rq.request (Rq.clOf p) b.od s
    if q.2.2.2 = 0 then (0, { t with r := { t.r with m := ba q.1, x := ba q.2.1, k := (q.2.2.1 : Int) }, st := 2 }) else (q.2.2.2, t)
def T.endHead (t : T) : Nat × T :=
  let d := Frm.decideV (Frm.clOf p) b.ch b.x3 t.r.k t.r.fs
  if d.2.2 ≠ 0 then (d.2.2.toNat, t)
  else if d.1 = 2 then (0, { t with r := { t.r with ch := true }, st := 4 })
  else if d.2.1 = 0 then (0, t.fin)
  else (0, { t with left := d.2.1.toNat, st := 3 })
def listE : Nat ⊕ List Fld → Nat
  | .inl e => e
  | .inr _ => 0
def listL (l : List Fld) : Nat ⊕ List Fld → List Fld
  | .inl _ => l
  | .inr l' => l'
def T.fields (t : T) (s : List UInt8) : Nat × T :=
  if s = [] then t.endHead p b
  else (listE (fieldV p t.hl t.r.fs s b.x1), { t with hl := t.hl + 1, r := { t.r with fs := listL t.r.fs (fieldV p t.hl t.r.fs s b.x1) } })
def T.trail (t : T) (s : List UInt8) : Nat × T :=
  if s = [] then (0, t.fin)
  else (listE (fieldV p t.bl t.r.ts s b.x5), { t with bl := t.bl + 1, r := { t.r with ts := listL t.r.ts (fieldV p t.bl t.r.ts s b.x5) } })
def T.chunk (t : T) (s : List UInt8) : Nat × T :=
  let z := Chk.sizeV (Qk.has p 27) (Qk.has p 28) b.x4 b.x3 s
  if z.2 ≠ 0 then (z.2.toNat, t)
  else if z.1 = 0 then (0, { t with st := 7 })
  else if b.x3 - (t.r.body.length : Int) < z.1 then (413, t)
  else (0, { t with left := z.1.toNat, st := 5 })
def T.line (t : T) (s : List UInt8) : Nat × T :=
  if t.st = 1 then t.first p b s else if t.st = 2 then t.fields p b s else if t.st = 4 then t.chunk p b s else if t.st = 7 then t.trail p b s
  else (0, t.enter p 4 b.x0)
def longE (st : Nat) : Nat := if st = 1 then 414 else if st = 2 ∨ st = 7 then 431 else 400
def ends (x : Nat × T) : Q := if x.1 = 0 then .live x.2 else .dead x.1 x.2.out
/-- A byte within a line; whether it is used up. -/
def T.inLine (t : T) (c : UInt8) : Q × Bool :=
  let t1 := { t with rd := t.rd.byte c }
  let how := t.rd.clear.next c
  if how = 0 then (.live t1, true)
  else if how = 3 then (.dead 400 t.out, true)
  else if how = 4 then (if (t.st == 6 && Qk.has p 29) = true then (.live (t1.enter p 4 b.x0), false) else (.dead (longE t.st) t.out, true))
  else (ends (t1.line p b (t.rd.byte c).line), !(how == 2))
def T.counted (t : T) : T := if t.cnt = true then t else { t with cnt := true, size := t.size + 1 }
def headed (st : Nat) : Bool := st == 1 || st == 2 || st == 7
def bodied (st : Nat) : Bool := st == 3 || st == 5
def T.look (t : T) (c : UInt8) : Q × Bool :=
  if bodied t.st = true then (.live (if t.left = 1 then (t.keep c).endData p else t.keep c), true)
  else if headed t.st = true then (if b.x2 < (t.counted.size : Int) then (.dead 431 t.out, true) else t.counted.inLine p b c)
  else t.inLine p b c
/-- A byte, looked at again where it has but shown that something ended. -/
def T.take (t : T) (c : UInt8) : Q :=
  match ({ t with cnt := false } : T).look p b c with
  | (.live t1, false) => (t1.look p b c).1
  | (x, _) => x
def Q.byte (x : Q) (c : UInt8) : Q :=
  match x with
  | .live t => t.take p b c
  | x => x
def Q.feed (x : Q) (cs : List UInt8) : Q := cs.foldl (Q.byte p b) x
def T.new : T := ⟨1, Ln.M.of p b.x0, zero, 0, 0, 0, false, 0, []⟩
def Q.new : Q := if (b.right && decide (p < 1073741824)) = true then .live (T.new p b) else .dead 20 []
def Q.read (cs : List UInt8) : Q := (Q.new p b).feed p b cs
end
def Q.err : Q → Nat
  | .live _ => 0
  | .dead e _ => e
def Q.out : Q → List Rec.R
  | .live t => t.out
  | .dead _ out => out
def Q.told : Q → Q
  | .live t => .live { t with out := [] }
  | .dead e _ => .dead e []
def T.isNew (t : T) : Bool := decide (t.rd.len = 0) && !t.rd.pend
def T.next (t : T) : Bool := (t.st == 3 || t.st == 4) && (t.r.body.isEmpty && t.isNew)
def Q.waits : Q → Bool
  | .live t => t.next && Rec.expects t.r
  | .dead _ _ => false
def Q.held : Q → Nat
  | .live t => t.rd.len + Rec.size t.r
  | .dead _ _ => 0
def Q.clean : Q → Bool
  | .live t => t.st == 1 && t.isNew
  | .dead _ _ => false
end Go.Proofs.YtibnobdbmojjhaaGreatDoor.Pg
