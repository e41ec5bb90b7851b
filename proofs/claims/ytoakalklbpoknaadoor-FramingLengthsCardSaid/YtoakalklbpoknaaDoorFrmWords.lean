/-
  Layer 10 (framing), in plain words: whether the Hosts may be, whether the codings are chunked, which length counts, how long a body is, by the clauses of a profile. No program is spoken of.
-/
import Derived.Test.YtoakalklbpoknaaDoorTarget
import Derived.Test.YtoakalklbpoknaaDoorQuirks
namespace Go.Proofs.YtoakalklbpoknaaDoor.Frm
open Go.RowKit Base Txt

abbrev hostN : ByteArray := ⟨#[72, 111, 115, 116]⟩
abbrev teN : ByteArray := ⟨#[84, 114, 97, 110, 115, 102, 101, 114, 45, 69, 110, 99, 111, 100, 105, 110, 103]⟩
abbrev clN : ByteArray := ⟨#[67, 111, 110, 116, 101, 110, 116, 45, 76, 101, 110, 103, 116, 104]⟩
abbrev chunked : ByteArray := ⟨#[99, 104, 117, 110, 107, 101, 100]⟩
abbrev blanksOf : ByteArray := ⟨#[11, 12, 32, 9]⟩
def hostsV (nh mh : Bool) (minor : Int) (h : List ByteArray) : Int :=
  if ((decide (minor = 1) && (decide (h.length = 0) && !nh)) || (decide (1 < h.length) && !mh)) = true then 400
  else if (h.all fun v => Tgt.hostB v.data.toList) = true then 0 else 400
/-- One part of a coding's list: is it "chunked"? -/
def isC (tb : Bool) (v : ByteArray) : Bool := same (if tb = true then trimOf v blanksOf else v) chunked
def onlyLast : List Bool → Bool
  | [] => false
  | [b] => b
  | b :: c :: r => !b && onlyLast (c :: r)
def coding (tb tl : Bool) (vs : List ByteArray) : Bool := onlyLast ((list vs).map (isC tb)) && (decide ((list vs).length = 1) || tl)
def alikeL (l : List ByteArray) : Bool := l.all fun v => decide (v = l.headD ByteArray.empty)
/-- The length that counts, if one may. -/
def counts (lc lf ll : Bool) (l : List ByteArray) : Option ByteArray :=
  if (decide (l.length = 1) || ((lc && alikeL l) || lf)) = true then some (l.headD ByteArray.empty)
  else if ll = true then some (l.getLastD ByteArray.empty) else none
def unplus (lp : Bool) (s : ByteArray) : ByteArray := if (lp && decide (s.data.toList.head? = some 43)) = true then ba (s.data.toList.drop 1) else s
def numV (r : Int × Int) : Int × Int := if r.2 = 22 then (0, 400) else if r.2 = 23 then (0, 413) else (r.1, 0)
def lengthV (lp lc lf ll : Bool) (most : Int) (vs : List ByteArray) : Int × Int :=
  if vs = [] then (0, 0) else
  match counts lc lf ll (if lc = true then list vs else vs) with
  | none => (0, 400)
  | some s => numV (Num.readOf 10 most (unplus lp s).data.toList)
/-- Do the codings say how long the body is, and what is wrong? -/
def winsV (td ti tw lw : Bool) (minor : Int) (nte ncl : Nat) (cod : Bool) : Bool × Int :=
  if nte = 0 then (false, 0)
  else if (decide (minor = 0) && !td) = true then (false, 400)
  else if cod = false then (false, if ti = true then 0 else 501)
  else if (decide (0 < ncl) && !tw) = true then (false, if lw = true then 0 else 400)
  else (true, 0)
/-- The kind, the length, the error. -/
def fixedV (r : Int × Int) : Int × Int × Int := if r.2 = 0 then (1, r.1, 0) else (0, 0, r.2)
def bodyV (hs : Int) (ch : Bool) (wins : Bool × Int) (len : Int × Int) : Int × Int × Int :=
  if hs ≠ 0 then (0, 0, hs) else if wins.2 ≠ 0 then (0, 0, wins.2)
  else if wins.1 = true then (if ch = true then (2, 0, 0) else (0, 0, 501)) else fixedV len
/-- The clauses that framing looks at. -/
structure Cl where
  nh : Bool
  mh : Bool
  tb : Bool
  tl : Bool
  ti : Bool
  td : Bool
  tw : Bool
  lw : Bool
  lp : Bool
  lc : Bool
  lf : Bool
  ll : Bool
def clOf (p : Nat) : Cl := ⟨Qk.has p 15, Qk.has p 16, Qk.has p 17, Qk.has p 18, Qk.has p 19, Qk.has p 20, Qk.has p 21, Qk.has p 22, Qk.has p 23, Qk.has p 24, Qk.has p 25, Qk.has p 26⟩
def decideV (c : Cl) (ch : Bool) (body minor : Int) (fs : List Fld) : Int × Int × Int :=
  bodyV (hostsV c.nh c.mh minor (find fs hostN)) ch (winsV c.td c.ti c.tw c.lw minor (find fs teN).length (find fs clN).length (coding c.tb c.tl (find fs teN)))
    (lengthV c.lp c.lc c.lf c.ll body (find fs clN))

theorem only_count : ∀ bs : List Bool, (decide (bs.countP id = 1) && bs.getLastD false) = onlyLast bs
  | [] => rfl
  | [b] => by cases b <;> rfl
  | b :: c :: r => by
    have ih := only_count (c :: r)
    have hl : (b :: c :: r).getLastD false = (c :: r).getLastD false := by
      rw [List.getLastD_cons, List.getLastD_cons, List.getLastD_cons]
    rw [hl]
    cases b with
    | false =>
      rw [List.countP_cons_of_neg (by decide), ih]
      rfl
    | true =>
      rw [List.countP_cons_of_pos (by rfl)]
      show _ = false
      by_cases h : (c :: r).countP id = 0
      · have h0 := List.countP_eq_zero.1 h
        have hm : (c :: r).getLastD false = false := by
          rw [List.getLastD_eq_getLast?, List.getLast?_eq_some_getLast (List.cons_ne_nil c r)]
          have := h0 _ (List.getLast_mem (List.cons_ne_nil c r))
          simpa using this
        rw [hm, Bool.and_false]
      · rw [decide_eq_false (by omega), Bool.false_and]
theorem only_step (bs : List Bool) (k : Nat) (h : k + 1 < bs.length) (hb : bs[k]'(by omega) = false) : onlyLast (bs.drop k) = onlyLast (bs.drop (k + 1)) := by
  rw [List.drop_eq_getElem_cons (show k < bs.length by omega), hb, List.drop_eq_getElem_cons h]
  rfl
theorem only_hit (bs : List Bool) (k : Nat) (h : k + 1 < bs.length) (hb : bs[k]'(by omega) = true) : onlyLast (bs.drop k) = false := by
  rw [List.drop_eq_getElem_cons (show k < bs.length by omega), hb, List.drop_eq_getElem_cons h]
  rfl
theorem only_end (bs : List Bool) (k : Nat) (h : k + 1 = bs.length) : onlyLast (bs.drop k) = bs[k]'(by omega) := by
  rw [List.drop_eq_getElem_cons (show k < bs.length by omega), List.drop_eq_nil_of_le (by omega)]
  rfl
theorem list_mem_size (vs : List ByteArray) (x : ByteArray) (hx : x ∈ list vs) : x.size ≤ room vs := by
  unfold list at hx
  obtain ⟨v, hv, hx⟩ := List.mem_flatMap.1 hx
  unfold partsOf at hx
  obtain ⟨l, hl, rfl⟩ := List.mem_map.1 hx
  have h1 := trim_size Txt.blank (ba l)
  have h2 := parts_size 44 v.data.toList l hl
  have h3 := room_mem vs v hv
  rw [ba_size] at h1
  rw [len] at h2
  show (trimB Txt.blank (ba l)).size ≤ _
  omega
theorem list_ne_nil (vs : List ByteArray) (h : vs ≠ []) : 0 < (list vs).length := by
  cases vs with
  | nil => exact absurd rfl h
  | cons v r =>
    have : (list (v :: r)).length = (partsOf v).length + (list r).length := by simp [list]
    have h2 : 0 < (partsOf v).length := by
      unfold partsOf
      rw [List.length_map, parts_length]; omega
    omega
theorem lower_chunked (x : ByteArray) : decide (lower x = chunked) = same x chunked := by
  have h := same_iff x chunked
  rw [show lower chunked = chunked by decide +kernel] at h
  cases hs : same x chunked with
  | true => exact decide_eq_true (h.1 hs)
  | false => exact decide_eq_false fun e => by rw [h.2 e] at hs; cases hs
theorem find_sizes (fs : List Fld) (name : ByteArray) (B : Nat) (h : ∀ f ∈ fs, f.2.size ≤ B) : ∀ v ∈ find fs name, v.size ≤ B := by
  intro v hv
  unfold find at hv
  obtain ⟨f, hf, rfl⟩ := List.mem_map.1 hv
  exact h f (List.mem_filter.1 hf).1
theorem room_le : ∀ (vs : List ByteArray) (B : Nat), (∀ v ∈ vs, v.size ≤ B) → room vs ≤ vs.length * (B + 1)
  | [], _, _ => Nat.zero_le _
  | v :: r, B, h => by
    have ih := room_le r B fun x hx => h x (List.mem_cons_of_mem _ hx)
    have h1 := h v (List.mem_cons_self ..)
    have : room (v :: r) = v.size + 1 + room r := by simp [room]
    rw [this, List.length_cons, Nat.succ_mul]
    omega
end Go.Proofs.YtoakalklbpoknaaDoor.Frm
