/-
  Layer 9 (field), in plain words: which field a line is, by the clauses of a profile, or that it is left out, or none; a field's line; which fields may be; that what the reader of no clauses takes every reader reads alike. No program is spoken of.
-/
import Derived.Test.YtechehbegiinpaaDoorCut
import Derived.Test.YtechehbegiinpaaDoorOctet
import Derived.Test.YtechehbegiinpaaDoorQuirks
import Derived.Test.YtechehbegiinpaaDoorText
import Derived.Test.YtechehbegiinpaaDoorSeat
import Derived.WalkKit
import Derived.WalkMore
import Derived.Deep.QuietTactic
import Derived.BigQuiet
import Derived.Deep.RegionWith
namespace Go.Proofs.YtechehbegiinpaaDoor.Fd
open Go.RowKit Base Txt Tgt

/-- The clauses that a field's reader looks at. -/
structure Cl where
  sp : Bool
  nb : Bool
  nc : Bool
  nn : Bool
  vb : Bool
def clOf (p : Nat) : Cl := ⟨Qk.has p 9, Qk.has p 10, Qk.has p 11, Qk.has p 12, Qk.has p 14⟩
def c0 : Cl := ⟨false, false, false, false, false⟩
theorem clOf_zero : clOf 0 = c0 := by simp only [clOf, c0, Cl.mk.injEq]; decide
/-- Without blanks at its end. -/
def trimEnd (l : List UInt8) : List UInt8 := (l.reverse.dropWhile Txt.blank).reverse
/-- No field (none); left out (some none); a field: its name, its value. -/
abbrev Ans := Option (Option (List UInt8 × List UInt8))
def out (b : Bool) : Ans := if b = true then some none else none
def nameL (c : Cl) (n : List UInt8) : List UInt8 := if c.sp = true then trimEnd n else n
def goodN (c : Cl) (n : List UInt8) : Bool := c.nb || Oct.allOf [1] n
def goodV (c : Cl) (v : List UInt8) : Bool := c.vb || Oct.allOf [6] v
def read (c : Cl) (n v : List UInt8) : Ans := if n = [] then out c.nn else if (goodN c n && goodV c v) = true then some (some (n, v)) else none
def parse (c : Cl) (l : List UInt8) : Ans := if (cutAt 58 l).2.2 = true then read c (nameL c (cutAt 58 l).1) (trimL Txt.blank (cutAt 58 l).2.1) else out c.nc
def goes (p : Nat) (l : List UInt8) : Bool := Qk.has p 13 && (!l.isEmpty && Txt.blank (l.headD 0))
def right (n v : List UInt8) : Bool := !n.isEmpty && (Oct.allOf [1] n && (Oct.allOf [6] v && decide (trimL Txt.blank v = v)))
def line (f : Fld) : List UInt8 := f.1.data.toList ++ 58 :: 32 :: (f.2.data.toList ++ [13, 10])
def put (fs : List Fld) : List UInt8 := fs.flatMap line
theorem put_nil : put [] = [] := rfl
theorem put_append (a b : List Fld) : put (a ++ b) = put a ++ put b := by simp [put]
theorem put_one (f : Fld) : put [f] = line f := by simp [put]
theorem put_snoc (fs : List Fld) (k : Nat) (h : k < fs.length) : put (fs.take (k + 1)) = put (fs.take k) ++ line (fs[k]?.getD dflt) := by
  rw [flds_snoc fs k h, put_append, put_one]
theorem line_length (f : Fld) : (line f).length = f.1.size + f.2.size + 4 := by
  simp [line]; omega

theorem trimEnd_le (l : List UInt8) : (trimEnd l).length ≤ l.length := by
  unfold trimEnd
  have := dropWhile_le Txt.blank l.reverse
  simpa using this
theorem nameL_le (c : Cl) (l : List UInt8) : (nameL c l).length ≤ l.length := by
  unfold nameL; split
  · exact trimEnd_le l
  · exact Nat.le_refl _
theorem trimEnd_snoc (l : List UInt8) (x : UInt8) (h : Txt.blank x = true) : trimEnd (l ++ [x]) = trimEnd l := by
  unfold trimEnd
  rw [List.reverse_append, List.reverse_singleton, List.singleton_append, List.dropWhile_cons, if_pos h]
theorem trimEnd_stop (l : List UInt8) (x : UInt8) (h : Txt.blank x = false) : trimEnd (l ++ [x]) = l ++ [x] := by
  unfold trimEnd
  rw [List.reverse_append, List.reverse_singleton, List.singleton_append, dropWhile_stop h]
  simp
theorem trimEnd_nil : trimEnd [] = [] := rfl
theorem trimL_cons (l : List UInt8) (x : UInt8) (h : Txt.blank x = true) : trimL Txt.blank (x :: l) = trimL Txt.blank l := by
  unfold trimL
  rw [List.dropWhile_cons, if_pos h]

/-! ### Bytes of names, of values -/
theorem token_tab : ∀ k : Fin 256, Oct.oneOf [1] (k.val : Int) = true → k.val ≠ 58 ∧ k.val ≠ 13 ∧ k.val ≠ 10 ∧ Txt.blank (UInt8.ofNat k.val) = false := by decide +kernel
theorem text_tab : ∀ k : Fin 256, Oct.oneOf [6] (k.val : Int) = true → k.val ≠ 13 ∧ k.val ≠ 10 := by decide +kernel
theorem token_of {x : UInt8} (h : Oct.oneOf [1] (x.toNat : Int) = true) : x ≠ 58 ∧ x ≠ 13 ∧ x ≠ 10 ∧ Txt.blank x = false := by
  obtain ⟨a, b, c, d⟩ := token_tab ⟨x.toNat, x.toNat_lt⟩ h
  refine ⟨?_, ?_, ?_, by simpa using d⟩
  · rintro rfl; exact a rfl
  · rintro rfl; exact b rfl
  · rintro rfl; exact c rfl
theorem text_of {x : UInt8} (h : Oct.oneOf [6] (x.toNat : Int) = true) : x ≠ 13 ∧ x ≠ 10 := by
  obtain ⟨a, b⟩ := text_tab ⟨x.toNat, x.toNat_lt⟩ h
  refine ⟨?_, ?_⟩
  · rintro rfl; exact a rfl
  · rintro rfl; exact b rfl
theorem all_of {ks : List Int} {l : List UInt8} (h : Oct.allOf ks l = true) : ∀ x ∈ l, Oct.oneOf ks (x.toNat : Int) = true := by
  simpa [Oct.allOf, List.all_eq_true] using h
theorem no_colon {n : List UInt8} (h : Oct.allOf [1] n = true) : (58 : UInt8) ∉ n := fun hm => (token_of (all_of h _ hm)).1 rfl
theorem trimEnd_token {n : List UInt8} (h : Oct.allOf [1] n = true) : trimEnd n = n := by
  rcases List.eq_nil_or_concat n with rfl | ⟨m, x, rfl⟩
  · rfl
  · rw [List.concat_eq_append] at *
    exact trimEnd_stop m x (token_of (all_of h x (by simp))).2.2.2
theorem nameL_token (c : Cl) {n : List UInt8} (h : Oct.allOf [1] n = true) : nameL c n = n := by
  unfold nameL; split
  · exact trimEnd_token h
  · rfl

/-! ### The strict reader's -/
theorem right_iff {n v : List UInt8} : right n v = true ↔ n ≠ [] ∧ Oct.allOf [1] n = true ∧ Oct.allOf [6] v = true ∧ trimL Txt.blank v = v := by
  cases n <;> simp [right]
theorem parse_strict {l n v : List UInt8} (h : parse c0 l = some (some (n, v))) : (cutAt 58 l).2.2 = true ∧ (cutAt 58 l).1 = n ∧ trimL Txt.blank (cutAt 58 l).2.1 = v ∧ n ≠ [] ∧ Oct.allOf [1] n = true ∧ Oct.allOf [6] v = true := by
  unfold parse at h
  split at h
  · rename_i h1
    rw [show nameL c0 (cutAt 58 l).1 = (cutAt 58 l).1 from rfl] at h
    unfold read at h
    split at h
    · exact absurd h (by simp [out, c0])
    · rename_i h2
      split at h
      · rename_i h3
        obtain ⟨rfl, rfl⟩ : (cutAt 58 l).1 = n ∧ trimL Txt.blank (cutAt 58 l).2.1 = v := by simpa using h
        have h4 : Oct.allOf [1] (cutAt 58 l).1 = true ∧ Oct.allOf [6] (trimL Txt.blank (cutAt 58 l).2.1) = true := by simpa [goodN, goodV, c0] using h3
        exact ⟨h1, rfl, rfl, h2, h4.1, h4.2⟩
      · exact absurd h (by simp)
  · exact absurd h (by simp [out, c0])
theorem parse_zero (l : List UInt8) : parse c0 l = none ∨ ∃ n v, parse c0 l = some (some (n, v)) := by
  rcases h : parse c0 l with _ | _ | ⟨n, v⟩
  · exact .inl rfl
  · exfalso
    unfold parse at h
    split at h
    · unfold read at h
      split at h
      · simp [out, c0] at h
      · split at h <;> simp at h
    · simp [out, c0] at h
  · exact .inr ⟨n, v, rfl⟩
theorem dropWhile_head (p : UInt8 → Bool) : ∀ l : List UInt8, l.dropWhile p = [] ∨ ∃ x r, l.dropWhile p = x :: r ∧ p x = false
  | [] => .inl rfl
  | x :: l => by
    rw [List.dropWhile_cons]
    split
    · exact dropWhile_head p l
    · rename_i hx
      exact .inr ⟨x, l, rfl, by simpa using hx⟩
theorem dropWhile_idem (p : UInt8 → Bool) (l : List UInt8) : (l.dropWhile p).dropWhile p = l.dropWhile p := by
  rcases dropWhile_head p l with h | ⟨x, r, h, hx⟩
  · rw [h]; rfl
  · rw [h, dropWhile_stop hx]
/-- What lies in the middle has no such byte ahead. -/
theorem trimL_ahead (p : UInt8 → Bool) (l : List UInt8) : (trimL p l).dropWhile p = trimL p l := by
  have key : ∀ m : List UInt8, m.dropWhile p = m → ((m.reverse.dropWhile p).reverse).dropWhile p = (m.reverse.dropWhile p).reverse := by
    intro m hm
    rcases dropWhile_head p m.reverse with h | ⟨x, r, h, hx⟩
    · rw [h]; rfl
    · cases m with
      | nil => simp at h
      | cons y t =>
        have hy : p y = false := by
          by_cases hp : p y = true
          · exfalso
            rw [List.dropWhile_cons, if_pos hp] at hm
            have h1 := dropWhile_le p t
            rw [hm] at h1
            simp at h1
            omega
          · simpa using hp
        have hs : (x :: r) <:+ (y :: t).reverse := by rw [← h]; exact List.dropWhile_suffix p
        have hpre : (x :: r).reverse <+: (y :: t) := by
          have := List.reverse_prefix.2 hs
          simpa using this
        rw [h]
        obtain ⟨z, hz⟩ := hpre
        cases hrev : (x :: r).reverse with
        | nil => simp at hrev
        | cons a b =>
          rw [hrev, List.cons_append] at hz
          have : a = y := by injection hz
          subst this
          exact dropWhile_stop hy
  exact key _ (dropWhile_idem p l)
theorem trimL_idem (p : UInt8 → Bool) (l : List UInt8) : trimL p (trimL p l) = trimL p l := by
  show (((trimL p l).dropWhile p).reverse.dropWhile p).reverse = trimL p l
  rw [trimL_ahead]
  unfold trimL
  rw [List.reverse_reverse, dropWhile_idem]
/-- What the reader of no clauses takes every reader reads alike, and may be. -/
theorem parse_all {l n v : List UInt8} (h : parse c0 l = some (some (n, v))) : (∀ c, parse c l = some (some (n, v))) ∧ right n v = true := by
  obtain ⟨h1, h2, h3, h4, h5, h6⟩ := parse_strict h
  refine ⟨fun c => ?_, ?_⟩
  · unfold parse
    rw [if_pos h1, h2, h3, nameL_token c h5]
    unfold read
    rw [if_neg h4, if_pos (by simp [goodN, goodV, h5, h6])]
  · rw [right_iff]
    exact ⟨h4, h5, h6, by rw [← h3]; exact trimL_idem _ _⟩
theorem parse_of {n v x : List UInt8} (c : Cl) (hr : right n v = true) (hx : trimL Txt.blank x = v) : parse c (n ++ 58 :: x) = some (some (n, v)) := by
  obtain ⟨h1, h2, h3, h4⟩ := right_iff.1 hr
  unfold parse
  rw [cutAt_app 58 n x (no_colon h2)]
  simp only [if_true]
  rw [hx, nameL_token c h2]
  unfold read
  rw [if_neg h1, if_pos (by simp [goodN, goodV, h2, h3])]
/-- A field's barest line tells it just if it may be. -/
theorem right_parse (n v : List UInt8) : decide (parse c0 (n ++ 58 :: v) = some (some (n, v))) = right n v := by
  rw [Bool.eq_iff_iff, decide_eq_true_eq]
  constructor
  · intro h
    exact (parse_all h).2
  · intro h
    exact parse_of c0 h (right_iff.1 h).2.2.2
/-- A field's line, without its end, is read as it. -/
theorem parse_line (c : Cl) {n v : List UInt8} (hr : right n v = true) : parse c (n ++ 58 :: 32 :: v) = some (some (n, v)) := by
  refine parse_of c hr ?_
  rw [trimL_cons _ _ (by decide)]
  exact (right_iff.1 hr).2.2.2
theorem parse_le {c : Cl} {l n v : List UInt8} (h : parse c l = some (some (n, v))) : n.length ≤ l.length ∧ v.length ≤ l.length := by
  have hc := cutAt_le 58 l
  unfold parse at h
  split at h
  · unfold read at h
    split at h
    · unfold out at h; split at h <;> simp at h
    · split at h
      · obtain ⟨rfl, rfl⟩ : nameL c (cutAt 58 l).1 = n ∧ trimL Txt.blank (cutAt 58 l).2.1 = v := by simpa using h
        exact ⟨Nat.le_trans (nameL_le _ _) hc.1, Nat.le_trans (trimL_length _ _) hc.2⟩
      · simp at h
  · unfold out at h; split at h <;> simp at h

/-! ### As values -/
abbrev E0 : ByteArray := ⟨#[]⟩
abbrev fv (n v : ByteArray) : Value := .agg #[.string n, .string v]
def rv : Ans → Value
  | none => .tuple #[fv E0 E0, .bool false, .int .i64 400]
  | some none => .tuple #[fv E0 E0, .bool false, .int .i64 0]
  | some (some (n, v)) => .tuple #[fv (ba n) (ba v), .bool true, .int .i64 0]
/-- A reading's parts. -/
def rn : Ans → ByteArray
  | some (some (n, _)) => ba n
  | _ => E0
def rvl : Ans → ByteArray
  | some (some (_, v)) => ba v
  | _ => E0
def rok : Ans → Bool
  | some (some _) => true
  | _ => false
def rerr : Ans → Int
  | none => 400
  | _ => 0
theorem rv_form : ∀ a : Ans, rv a = .tuple #[fv (rn a) (rvl a), .bool (rok a), .int .i64 (rerr a)]
  | none => rfl
  | some none => rfl
  | some (some (_, _)) => rfl
end Go.Proofs.YtechehbegiinpaaDoor.Fd

/-
  Layer 9 (field): the contracts of package field: Parse, Goes, Join, Right, Put, at any line, any profile.
-/
namespace Go.Proofs.YtechehbegiinpaaDoor.Fd
open Go.RowKit Base Txt Tgt

theorem first_no (s : ByteArray) (h : 0 < s.size) : s.toList.isEmpty = false := by
  have e : s.toList = s.data.toList := Lib.toList_data s
  rw [e, List.isEmpty_eq_false_iff]
  intro h0
  have : s.size = 0 := by rw [← len, h0]; rfl
  omega
theorem ba_pos {n : List UInt8} (h : n ≠ []) : 0 < (ba n).size := by
  rw [ba_size]; exact List.length_pos_iff.2 h

/-- A block that the call made holds a field, and may be written. -/
structure Fb (w : World) (g : Nat) (n v : ByteArray) : Prop where
  c0 : w.cell? ⟨g, 0, none⟩ = some (.string n)
  c1 : w.cell? ⟨g, 1, none⟩ = some (.string v)
  z0 : w.frozen? ⟨g, 0, none⟩ = false
  z1 : w.frozen? ⟨g, 1, none⟩ = false
theorem Fb.below {w w' : World} {g : Nat} {n v : ByteArray} (H : Fb w g n v) (hg : g < w.heap.size) (hb : Below w.heap.size w w') : Fb w' g n v :=
  ⟨(hb.cell (p := ⟨g, 0, none⟩) hg).trans H.c0, (hb.cell (p := ⟨g, 1, none⟩) hg).trans H.c1, (hb.frozen (p := ⟨g, 0, none⟩) hg).trans H.z0, (hb.frozen (p := ⟨g, 1, none⟩) hg).trans H.z1⟩
theorem Fb.new (w : World) (t : TypeId) (n v : ByteArray) : Fb (w.alloc (.cells #[.string n, .string v] t)) w.heap.size n v := by
  have hh := heap_alloc_new w (.cells #[.string n, .string v] t)
  have c : ∀ k u, (#[Value.string n, .string v] : Array Value)[k]? = some u → (w.alloc (.cells #[.string n, .string v] t)).cell? ⟨w.heap.size, k, none⟩ = some u :=
    fun k u e => (cell_of_row (w.alloc _) w.heap.size k _ t (0, 0) hh).trans e
  have z : ∀ k, (w.alloc (.cells #[.string n, .string v] t)).frozen? ⟨w.heap.size, k, none⟩ = false := fun k => by unfold World.frozen?; simp only [hh]; simp
  exact ⟨c 0 _ rfl, c 1 _ rfl, z 0, z 1⟩
theorem Fb.put {B : Nat} {w0 w : World} {g : Nat} {n v : ByteArray} (H : Fb w g n v) (hb : Below B w0 w) (hg : B ≤ g) (n' v' : ByteArray) :
    ∃ W, (w.setCell ⟨g, 0, none⟩ (.string n')).setCell ⟨g, 1, none⟩ (.string v') = W ∧ Fb W g n' v' ∧ Below B w0 W := by
  obtain ⟨c0, c1, z0, z1⟩ := H
  refine ⟨_, rfl, ⟨?_, ?_, ?_, ?_⟩, (hb.setCell hg _).setCell hg _⟩
  all_goals go_simp
theorem Fb.other {w : World} {g : Nat} {n v : ByteArray} (H : Fb w g n v) (g' o : Nat) (u : Value) (n2 : ¬ g' = g) : Fb (w.setCell ⟨g', o, none⟩ u) g n v := by
  obtain ⟨c0, c1, z0, z1⟩ := H
  refine ⟨?_, ?_, ?_, ?_⟩
  all_goals go_simp
/-- The result's block, made first, carried through what the call does. -/
structure Keep (w0 : World) (n v : ByteArray) (w : World) : Prop where
  f : Fb w w0.heap.size n v
  g : w0.heap.size < w.heap.size
  b : Below w0.heap.size w0 w
theorem Keep.new (w : World) (t : TypeId) (n v : ByteArray) : Keep w n v (w.alloc (.cells #[.string n, .string v] t)) :=
  ⟨Fb.new w t n v, by simp, (Below.refl _ _).alloc (Nat.le_refl _) _⟩
theorem Keep.step {w0 w w' : World} {n v : ByteArray} (h : Keep w0 n v w) (hb : Below w.heap.size w w') : Keep w0 n v w' :=
  ⟨h.f.below h.g hb, Nat.lt_of_lt_of_le h.g hb.size, Base.below_step h.b hb⟩
theorem Keep.drew {w0 w : World} {n v : ByteArray} (h : Keep w0 n v w) (m : Nat) : Keep w0 n v (w.drewN m) := h.step (Base.below_drewN (Below.refl _ _) m)
/-- .. and a second field's block that the call made. -/
structure Two (w0 : World) (n v : ByteArray) (t : Nat) (N V : ByteArray) (w : World) : Prop where
  k : Keep w0 n v w
  f : Fb w t N V
  ne : ¬ t = w0.heap.size
  lt : t < w.heap.size
  ge : w0.heap.size ≤ t
theorem Two.new {w0 w : World} {n v : ByteArray} (h : Keep w0 n v w) (ty : TypeId) (N V : ByteArray) : Two w0 n v w.heap.size N V (w.alloc (.cells #[.string N, .string V] ty)) :=
  ⟨h.step ((Below.refl _ _).alloc (Nat.le_refl _) _), Fb.new w ty N V, by have := h.g; omega, by simp, by have := h.g; omega⟩
theorem Two.step {w0 w w' : World} {n v N V : ByteArray} {t : Nat} (h : Two w0 n v t N V w) (hb : Below w.heap.size w w') : Two w0 n v t N V w' :=
  ⟨h.k.step hb, h.f.below h.lt hb, h.ne, Nat.lt_of_lt_of_le h.lt hb.size, h.ge⟩
theorem Two.drew {w0 w : World} {n v N V : ByteArray} {t : Nat} (h : Two w0 n v t N V w) (m : Nat) : Two w0 n v t N V (w.drewN m) := h.step (Base.below_drewN (Below.refl _ _) m)
theorem Two.put {w0 w : World} {n v N V : ByteArray} {t : Nat} (h : Two w0 n v t N V w) (N' V' : ByteArray) : Two w0 n v t N' V' ((w.setCell ⟨t, 0, none⟩ (.string N')).setCell ⟨t, 1, none⟩ (.string V')) := by
  obtain ⟨W, hW, hf, hb⟩ := Fb.put h.f h.k.b h.ge N' V'
  have h1 := (h.k.f.other t 0 (.string N') h.ne).other t 1 (.string V') h.ne
  rw [hW] at h1 ⊢
  have hs : W.heap.size = w.heap.size := by rw [← hW]; simp
  exact ⟨⟨h1, by rw [hs]; exact h.k.g, hb⟩, hf, h.ne, by rw [hs]; exact h.lt, h.ge⟩

theorem eql_field (x y : Fld) (w : World) : (binOp .eql 31 (.agg #[.string x.1, .string x.2]) (.agg #[.string y.1, .string y.2])).run Tryd.prog w = .ok (.bool (decide (x = y))) w := by
  have u9 := Tryd.underlying9
  have a9 := Tryd.isAgg9
  have z9 := Tryd.sizeOf9
  have hS : Tryd.prog.underlying 31 = some (.struct (Tryd.prog.fieldsOf 31)) := by kernel_rfl
  have hp : Tryd.prog.stoodInHeld 31 = false := by kernel_rfl
  obtain ⟨x1, x2⟩ := x
  obtain ⟨y1, y2⟩ := y
  rw [run_eql_struct, show (10000 : Nat) = 9999 + 1 from rfl, run_equalIn_agg w 9999 31 _ _ hS hp]
  simp only [Program.fieldsOf, Tryd.underlying31]
  go_simp
  by_cases h1 : x1 = y1 <;> by_cases h2 : x2 = y2 <;> simp [h1, h2, Ls.toList_iff]
theorem neq_field (x y : Fld) (w : World) : (binOp .neq 31 (.agg #[.string x.1, .string x.2]) (.agg #[.string y.1, .string y.2])).run Tryd.prog w = .ok (.bool (decide (x ≠ y))) w := by
  have u9 := Tryd.underlying9
  have a9 := Tryd.isAgg9
  have z9 := Tryd.sizeOf9
  have hS : Tryd.prog.underlying 31 = some (.struct (Tryd.prog.fieldsOf 31)) := by kernel_rfl
  have hp : Tryd.prog.stoodInHeld 31 = false := by kernel_rfl
  obtain ⟨x1, x2⟩ := x
  obtain ⟨y1, y2⟩ := y
  rw [run_neq_struct, show (10000 : Nat) = 9999 + 1 from rfl, run_equalIn_agg w 9999 31 _ _ hS hp]
  simp only [Program.fieldsOf, Tryd.underlying31]
  go_simp
  by_cases h1 : x1 = y1 <;> by_cases h2 : x2 = y2 <;> simp [h1, h2, Ls.toList_iff]
theorem guard_field (op : BinOp) (a b : Operand) (x1 x2 y1 y2 : ByteArray) (w : World) : (eqGuard op 31 a b (fv x1 x2) (fv y1 y2)).run Tryd.prog w = .ok () w :=
  run_eqGuard_agg w op 31 a b _ _ (by kernel_rfl)

section code
set_option maxHeartbeats 4000000
set_option maxRecDepth 100000
attribute [local go_sem] Base.some_undef
end code
end Go.Proofs.YtechehbegiinpaaDoor.Fd

/-
  Layer 9 (field): the contract of package field's Parse, at any line, any profile.
-/
namespace Go.Proofs.YtechehbegiinpaaDoor.Fd
open Go.RowKit Base Txt Tgt

section code
set_option maxHeartbeats 4000000
set_option maxRecDepth 100000
attribute [local go_sem] Base.some_undef
end code
end Go.Proofs.YtechehbegiinpaaDoor.Fd

/-
  Layer 9 (field): the contract of package field's Join.
-/
namespace Go.Proofs.YtechehbegiinpaaDoor.Fd
open Go.RowKit Base Txt Tgt

/-- A value that goes on. -/
def joined (v s : List UInt8) : List UInt8 := v ++ 32 :: trimL Txt.blank s
theorem joined_eq (v s : ByteArray) : v ++ (⟨#[32]⟩ ++ trim s) = ba (joined v.data.toList s.data.toList) := ba_ext (by
  simp only [joined, ByteArray.data_append, Array.toList_append]; rfl)

section code
set_option maxHeartbeats 4000000
set_option maxRecDepth 100000
attribute [local go_sem] Base.some_undef
end code
end Go.Proofs.YtechehbegiinpaaDoor.Fd

/-
  Layer 9 (field): the contract of package field's Right. (Its walks are printed by tools/gen_right.py.)
-/
namespace Go.Proofs.YtechehbegiinpaaDoor.Fd
open Go.RowKit Base Txt Tgt

theorem colon_list (n v : ByteArray) : ((n ++ ⟨#[58]⟩) ++ v).data.toList = n.data.toList ++ 58 :: v.data.toList := by
  simp [ByteArray.data_append]
theorem colon_size (n v : ByteArray) : ((n ++ ⟨#[58]⟩) ++ v).size = n.size + 1 + v.size := by
  rw [← len, colon_list]; simp; omega

section code
set_option maxHeartbeats 4000000
set_option maxRecDepth 100000
attribute [local go_sem] Base.some_undef
end code
end Go.Proofs.YtechehbegiinpaaDoor.Fd
