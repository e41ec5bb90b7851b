/-
  Layer 3 (text): plain words of texts: small letters, alike but for them, the middle without bytes of a kind at both ends, the parts between bytes, fields by name; a slice of texts, and one of fields, that reads as a list. No program is spoken of.
-/
import Derived.Test.YtojjhknejkhdhaaDoorBase
import Derived.Lib.Split
import Derived.Lib.SplitLaws
import Derived.Lib.IndexBytes
import Derived.Deep.AppendLies
import Derived.Laws.IdiomStrings
import Derived.Laws.BytesString
namespace Go.Proofs.YtojjhknejkhdhaaDoor.Txt
open Go.RowKit Base

def lowN (n : Int) : Int := if 65 ≤ n ∧ n ≤ 90 then n + 32 else n
def lowB (b : UInt8) : UInt8 := if 65 ≤ b.toNat ∧ b.toNat ≤ 90 then b + 32 else b
theorem lowB_toNat (b : UInt8) : ((lowB b).toNat : Int) = lowN b.toNat := by
  unfold lowB lowN
  by_cases h : 65 ≤ b.toNat ∧ b.toNat ≤ 90
  · rw [if_pos h, if_pos (by omega), UInt8.toNat_add]
    have : (32 : UInt8).toNat = 32 := rfl
    omega
  · rw [if_neg h, if_neg (by omega)]
theorem len (s : ByteArray) : s.data.toList.length = s.size := by simp
theorem len_mk (l : List UInt8) : (ByteArray.mk l.toArray).size = l.length := by rw [← len]
def low (l : List UInt8) : List UInt8 := l.map lowB
def lower (s : ByteArray) : ByteArray := ⟨(low s.data.toList).toArray⟩
theorem lower_size (s : ByteArray) : (lower s).size = s.size := by rw [lower, len_mk, low, List.length_map, len]
theorem lower_list (s : ByteArray) : (lower s).data.toList = low s.data.toList := rfl
/-- Alike but for A to Z and a to z? -/
def same (a b : ByteArray) : Bool := low a.data.toList == low b.data.toList
theorem lowB_idem : ∀ k : Fin 256, lowB (lowB (UInt8.ofNat k.val)) = lowB (UInt8.ofNat k.val) := by decide +kernel
theorem lowB_lowB (b : UInt8) : lowB (lowB b) = lowB b := by
  have h := lowB_idem ⟨b.toNat, b.toNat_lt⟩
  simpa using h
theorem low_low (l : List UInt8) : low (low l) = low l := by simp [low, lowB_lowB]
theorem same_lower (s : ByteArray) : same s (lower s) = true := by simp [same, lower_list, low_low]
theorem ba_ext {a b : ByteArray} (h : a.data.toList = b.data.toList) : a = b := by
  cases a; cases b; simp at h; rw [h]
theorem same_iff (a b : ByteArray) : same a b = true ↔ lower a = lower b := by
  unfold same
  rw [beq_iff_eq]
  exact ⟨fun h => ba_ext (by rw [lower_list, lower_list, h]), fun h => by rw [← lower_list, ← lower_list, h]⟩
theorem same_sizes {a b : ByteArray} (h : same a b = true) : a.size = b.size := by
  have := congrArg List.length (beq_iff_eq.1 h)
  rwa [low, low, List.length_map, List.length_map, len, len] at this
theorem same_comm (a b : ByteArray) : same a b = same b a := by
  rw [Bool.eq_iff_iff, same_iff, same_iff]; exact eq_comm

/-- The middle of l: without bytes that p holds of, at both ends. -/
def trimL (p : UInt8 → Bool) (l : List UInt8) : List UInt8 := ((l.dropWhile p).reverse.dropWhile p).reverse
def trimB (p : UInt8 → Bool) (s : ByteArray) : ByteArray := ⟨(trimL p s.data.toList).toArray⟩
theorem trimB_list (p : UInt8 → Bool) (s : ByteArray) : (trimB p s).data.toList = trimL p s.data.toList := rfl
theorem dropWhile_all {p : UInt8 → Bool} : ∀ {l r : List UInt8}, (∀ x ∈ l, p x = true) → (l ++ r).dropWhile p = r.dropWhile p
  | [], _, _ => rfl
  | x :: l, r, h => by
    rw [List.cons_append, List.dropWhile_cons, if_pos (h x (by simp))]
    exact dropWhile_all fun y hy => h y (by simp [hy])
theorem dropWhile_stop {p : UInt8 → Bool} {x : UInt8} {l : List UInt8} (h : p x = false) : (x :: l).dropWhile p = x :: l := by
  rw [List.dropWhile_cons, if_neg (by simp [h])]
theorem trimL_mid (p : UInt8 → Bool) (A M B : List UInt8) (hA : ∀ x ∈ A, p x = true) (hB : ∀ x ∈ B, p x = true) (hM : M = [] ∨ ((∃ x r, M = x :: r ∧ p x = false) ∧ ∃ x r, M = r ++ [x] ∧ p x = false)) :
    trimL p (A ++ (M ++ B)) = M := by
  unfold trimL
  rw [dropWhile_all hA]
  rcases hM with rfl | ⟨⟨x, r, hx, px⟩, y, t, hy, py⟩
  · rw [List.nil_append, ← List.append_nil B, dropWhile_all hB]; rfl
  · have e1 : (M ++ B).dropWhile p = M ++ B := by rw [hx, List.cons_append]; exact dropWhile_stop px
    rw [e1, List.reverse_append, dropWhile_all (by intro z hz; exact hB z (by simpa using hz))]
    have e2 : M.reverse.dropWhile p = M.reverse := by rw [hy, List.reverse_append, List.reverse_singleton, List.singleton_append]; exact dropWhile_stop py
    rw [e2, List.reverse_reverse]
/-- Cut by two places: what lies ahead of the first and from the second on is of the kind; what lies between has no such byte at its ends. -/
theorem trim_cut (p : UInt8 → Bool) (s : ByteArray) (a b : Nat) (hab : a ≤ b) (hb : b ≤ s.size) (h1 : ∀ x ∈ s.data.toList.take a, p x = true) (h2 : ∀ x ∈ s.data.toList.drop b, p x = true)
    (h3 : a < b → (∃ h : a < s.size, p s[a] = false) ∧ ∃ h : b - 1 < s.size, p s[b - 1] = false) : s.extract a b = trimB p s := by
  apply ba_ext
  rw [trimB_list, Lib.extract_data]
  generalize hl : s.data.toList = l at *
  have hsz : s.size = l.length := by rw [← hl, len]
  have e : l = l.take a ++ ((l.drop a).take (b - a) ++ l.drop b) := by
    have e1 : l.drop b = (l.drop a).drop (b - a) := by rw [List.drop_drop]; congr 1; omega
    rw [e1, List.take_append_drop, List.take_append_drop]
  have key := trimL_mid p (l.take a) ((l.drop a).take (b - a)) (l.drop b) h1 h2 (by
    rcases Nat.lt_or_ge a b with hlt | hge
    · obtain ⟨⟨ha, p1⟩, hb', p2⟩ := h3 hlt
      have g1 : s[a] = l[a]'(by omega) := by subst hl; rfl
      have g2 : s[b - 1] = l[b - 1]'(by omega) := by subst hl; rfl
      right
      refine ⟨⟨l[a]'(by omega), (l.drop (a + 1)).take (b - a - 1), ?_, by rw [← g1]; exact p1⟩, ⟨l[b - 1]'(by omega), (l.drop a).take (b - a - 1), ?_, by rw [← g2]; exact p2⟩⟩
      · rw [List.drop_eq_getElem_cons (by omega)]
        obtain ⟨d, hd⟩ : ∃ d, b - a = d + 1 := ⟨b - a - 1, by omega⟩
        rw [hd]; rfl
      · have : (b - a - 1) < (l.drop a).length := by simp; omega
        have e3 := List.take_succ_eq_append_getElem this
        rw [show b - a = b - a - 1 + 1 by omega, e3]
        congr 2
        rw [List.getElem_drop]
        congr 1
        omega
    · left; rw [show b - a = 0 by omega]; rfl)
  rw [← e] at key
  exact key.symm

/-- The parts of l between bytes c. -/
def parts (c : UInt8) : List UInt8 → List (List UInt8)
  | [] => [[]]
  | b :: l => if b = c then [] :: parts c l else match parts c l with
    | [] => [[b]]
    | p :: ps => (b :: p) :: ps
theorem parts_none (c : UInt8) : ∀ l : List UInt8, c ∉ l → parts c l = [l]
  | [], _ => rfl
  | b :: l, h => by
    simp only [List.mem_cons, not_or] at h
    rw [parts, if_neg (fun e => h.1 e.symm), parts_none c l h.2]
theorem parts_cut (c : UInt8) : ∀ (a r : List UInt8), c ∉ a → parts c (a ++ c :: r) = a :: parts c r
  | [], r, _ => by rw [List.nil_append, parts, if_pos rfl]
  | b :: a, r, h => by
    simp only [List.mem_cons, not_or] at h
    rw [List.cons_append, parts, if_neg (fun e => h.1 e.symm), parts_cut c a r h.2]
theorem parts_length (c : UInt8) : ∀ l : List UInt8, (parts c l).length = l.count c + 1
  | [] => rfl
  | b :: l => by
    rw [parts]
    have ih := parts_length c l
    by_cases h : b = c
    · subst h; rw [if_pos rfl, List.length_cons, ih, List.count_cons_self]
    · rw [if_neg h, List.count_cons_of_ne h]
      cases hp : parts c l with
      | nil => rw [hp] at ih; simp at ih
      | cons p ps => rw [hp] at ih; simpa using ih
theorem parts_le (c : UInt8) (l : List UInt8) : (parts c l).length ≤ l.length + 1 := by
  rw [parts_length]; have := List.count_le_length (a := c) (l := l); omega
theorem parts_size (c : UInt8) : ∀ l : List UInt8, ∀ p ∈ parts c l, p.length ≤ l.length
  | [], p, h => by simp [parts] at h; subst h; simp
  | b :: l, p, h => by
    rw [parts] at h
    have ih := parts_size c l
    split at h
    · rcases List.mem_cons.1 h with rfl | h
      · simp
      · have := ih p h; simp; omega
    · cases hp : parts c l with
      | nil => rw [hp] at h; simp at h; subst h; simp
      | cons q qs =>
        rw [hp] at h ih
        rcases List.mem_cons.1 h with rfl | h
        · have := ih q (by simp); simp; omega
        · have := ih p (by simp [h]); simp; omega
def ba (l : List UInt8) : ByteArray := ⟨l.toArray⟩
theorem ba_list (s : ByteArray) : ba s.data.toList = s := rfl
theorem ba_size (l : List UInt8) : (ba l).size = l.length := len_mk l
theorem splitB_parts (c : UInt8) : ∀ (k : Nat) (s : ByteArray), Lib.countB s ⟨#[c]⟩ = k → Lib.splitB ⟨#[c]⟩ 0 k s = (parts c s.data.toList).map ba := by
  have hsz : (ByteArray.mk #[c]).size = 1 := rfl
  have hix : ∀ s : ByteArray, Lib.indexB s ⟨#[c]⟩ = Lib.indexByte s.data.toList c := fun s => Lib.index_one _ _
  have miss : ∀ s : ByteArray, Lib.indexByte s.data.toList c = -1 → parts c s.data.toList = [s.data.toList] := fun s h => parts_none c _ (fun hm => by
    obtain ⟨k, hk, e⟩ := List.getElem_of_mem hm
    exact Lib.indexByte_none h k (by rw [List.getElem?_eq_getElem hk, e]))
  intro k
  induction k with
  | zero =>
    intro s h
    rw [Lib.splitB_zero]
    by_cases hi : Lib.indexByte s.data.toList c = -1
    · rw [miss s hi]; rfl
    · have := Lib.indexByte_ge s.data.toList c
      obtain ⟨i, hi'⟩ : ∃ i : Nat, Lib.indexByte s.data.toList c = i := ⟨(Lib.indexByte s.data.toList c).toNat, by omega⟩
      have := Lib.countB_hit s ⟨#[c]⟩ i (by rw [hsz]; decide) (by rw [hix, hi'])
      omega
  | succ k ih =>
    intro s h
    by_cases hi : Lib.indexByte s.data.toList c = -1
    · have := Lib.countB_miss s ⟨#[c]⟩ (by rw [hix, hi])
      omega
    · have h0 := Lib.indexByte_ge s.data.toList c
      obtain ⟨i, hi'⟩ : ∃ i : Nat, Lib.indexByte s.data.toList c = i := ⟨(Lib.indexByte s.data.toList c).toNat, by omega⟩
      have h1 := Lib.countB_hit s ⟨#[c]⟩ i (by rw [hsz]; decide) (by rw [hix, hi'])
      rw [Lib.splitB_hit _ _ _ _ i (by rw [hix, hi']), ih _ (by omega), hsz]
      obtain ⟨g1, g2⟩ := Lib.indexByte_some hi'
      have hlt : i < s.data.toList.length := by
        rcases Nat.lt_or_ge i s.data.toList.length with h | h
        · exact h
        · rw [List.getElem?_eq_none h] at g1; cases g1
      have e1 : s.data.toList = s.data.toList.take i ++ c :: s.data.toList.drop (i + 1) := by
        have hc : s.data.toList[i] = c := by rw [List.getElem?_eq_getElem hlt] at g1; exact Option.some.inj g1
        conv => lhs; rw [← List.take_append_drop i s.data.toList, List.drop_eq_getElem_cons hlt, hc]
      have hno : c ∉ s.data.toList.take i := fun hm => by
        obtain ⟨k, hk, e⟩ := List.getElem_of_mem hm
        have hk' : k < i := by simp at hk; omega
        exact g2 k hk' (by rw [List.getElem?_eq_getElem (by omega)]; rw [List.getElem_take] at e; rw [e])
      have e2 : parts c s.data.toList = s.data.toList.take i :: parts c (s.data.toList.drop (i + 1)) := by
        conv => lhs; rw [e1]
        exact parts_cut c _ _ hno
      rw [e2, List.map_cons]
      congr 1
      · apply ba_ext
        rw [Lib.extract_data]; simp [ba]
      · congr 2
        rw [Lib.extract_data]
        rw [List.take_of_length_le]
        rw [List.length_drop, len]; omega
theorem countB_parts (c : UInt8) (s : ByteArray) : Lib.countB s ⟨#[c]⟩ + 1 = (parts c s.data.toList).length := by
  have h := congrArg List.length (splitB_parts c _ s rfl)
  rw [Lib.splitB_all _ (show 1 ≤ (ByteArray.mk #[c]).size from Nat.le_refl 1) 0 _ s rfl, List.length_map] at h
  exact h

def blank (b : UInt8) : Bool := b == 32 || b == 9
def trim (s : ByteArray) : ByteArray := trimB blank s
/-- The parts between commas of each, trimmed, in order. -/
def partsOf (s : ByteArray) : List ByteArray := (parts 44 s.data.toList).map fun l => trim (ba l)
def list (vs : List ByteArray) : List ByteArray := vs.flatMap partsOf
abbrev Fld := ByteArray × ByteArray
def find (l : List Fld) (name : ByteArray) : List ByteArray := (l.filter fun f => same f.1 name).map (·.2)
def one (names : List ByteArray) (s : ByteArray) : Bool := names.any fun n => same n s
def without (l : List Fld) (names : List ByteArray) : List Fld := l.filter fun f => !one names f.1
theorem dropWhile_le (p : UInt8 → Bool) (l : List UInt8) : (l.dropWhile p).length ≤ l.length := (List.dropWhile_sublist p).length_le
theorem trimL_length (p : UInt8 → Bool) (l : List UInt8) : (trimL p l).length ≤ l.length := by
  unfold trimL
  have h1 := dropWhile_le p l
  have h2 := dropWhile_le p (l.dropWhile p).reverse
  simp only [List.length_reverse] at h2 ⊢
  omega
theorem trim_size (p : UInt8 → Bool) (s : ByteArray) : (trimB p s).size ≤ s.size := by
  have := trimL_length p s.data.toList
  rwa [trimB, len_mk, ← len]

/-- A slice of texts. -/
def Strs (w : World) (a : Option Addr) (n : Nat) (ss : List ByteArray) : Prop :=
  ss.length = n ∧ (0 < n → ∃ b off, a = some ⟨b, off, none⟩ ∧ b < w.heap.size ∧ ∀ k, k < n → w.cell? ⟨b, off + k, none⟩ = some (.string (ss[k]?.getD ByteArray.empty)))
theorem Strs.nil (w : World) (a : Option Addr) : Strs w a 0 [] := ⟨rfl, fun h => absurd h (by omega)⟩
theorem Strs.below {w w' : World} {a : Option Addr} {n : Nat} {ss : List ByteArray} (h : Strs w a n ss) (hb : Below w.heap.size w w') : Strs w' a n ss := by
  refine ⟨h.1, fun hn => ?_⟩
  obtain ⟨b, off, e, hlt, hc⟩ := h.2 hn
  exact ⟨b, off, e, Nat.lt_of_lt_of_le hlt hb.size, fun k hk => (hb.cell (p := ⟨b, off + k, none⟩) hlt).trans (hc k hk)⟩
theorem Strs.new (w : World) (cs : Array Value) (t : TypeId) (ss : List ByteArray) (n : Nat) (hn : ss.length = n) (h : ∀ k, k < n → cs[k]? = some (.string (ss[k]?.getD ByteArray.empty))) :
    Strs (w.alloc (.cells cs t)) (some ⟨w.heap.size, 0, none⟩) n ss := by
  refine ⟨hn, fun _ => ⟨w.heap.size, 0, rfl, by simp, fun k hk => ?_⟩⟩
  rw [Nat.zero_add]
  exact (cell_of_row (w.alloc (.cells cs t)) w.heap.size k cs t (0, 0) (heap_alloc_new w _)).trans (h k hk)
theorem Strs.made (w : World) (g : Nat) (hg : g = w.heap.size) (t : TypeId) (ss : List ByteArray) (n : Nat) (hn : ss.length = n) : Strs (w.alloc (.cells ((ss.map Value.string).toArray) t)) (some ⟨g, 0, none⟩) n ss := by
  subst hg
  refine Strs.new w _ t ss n hn fun k hk => ?_
  simp [List.getElem?_map, List.getElem?_eq_getElem (show k < ss.length by omega)]
theorem Strs.one (w : World) (g : Nat) (hg : g = w.heap.size) (t : TypeId) (x : ByteArray) : Strs (w.alloc (.cells #[.string x] t)) (some ⟨g, 0, none⟩) 1 [x] := Strs.made w g hg t [x] 1 rfl
theorem Strs.two (w : World) (g : Nat) (hg : g = w.heap.size) (t : TypeId) (x y : ByteArray) : Strs (w.alloc (.cells #[.string x, .string y] t)) (some ⟨g, 0, none⟩) 2 [x, y] := Strs.made w g hg t [x, y] 2 rfl
theorem Strs.of_own {w : World} {base : Nat} {e : TypeId} {v : Value} {n : Nat} {ss : List ByteArray} (h : w.ownsRow base e 1 v n (ss.map Value.string)) : ∃ A c, v = .slice A n c ∧ Strs w A n ss := by
  have hl : ss.length = n := by simpa using h.1
  rcases h.2 with ⟨rfl, rfl⟩ | ⟨g, cap, cur, rfl, _, hh, _, _, _, ht⟩
  · exact ⟨none, 0, rfl, hl, fun h => absurd h (by omega)⟩
  · refine ⟨_, _, rfl, hl, fun _ => ⟨g, 0, rfl, ?_, fun k hk => ?_⟩⟩
    · rcases Nat.lt_or_ge g w.heap.size with hlt | hge
      · exact hlt
      · rw [Array.getElem?_eq_none hge] at hh; cases hh
    · rw [Nat.zero_add, cell_of_row w g k cur e (0, 0) hh]
      have h1 : (ss.map Value.string)[k]? = some (.string (ss[k]?.getD ByteArray.empty)) := by
        rw [List.getElem?_map, List.getElem?_eq_getElem (by omega)]; rfl
      rw [← ht, List.getElem?_take_of_lt (by omega)] at h1
      simpa using h1
theorem Strs.grown {w w' : World} {b off n : Nat} {ss : List ByteArray} (h : Strs w (some ⟨b, off, none⟩) n ss) {row : Option Nat} (hg : w.grownBy w' row) (hne : row ≠ some b) : Strs w' (some ⟨b, off, none⟩) n ss := by
  refine ⟨h.1, fun hn => ?_⟩
  obtain ⟨b', off', e, hlt, hc⟩ := h.2 hn
  obtain ⟨rfl, rfl⟩ : b = b' ∧ off = off' := by simpa using e
  exact ⟨b, off, rfl, Nat.lt_of_lt_of_le hlt hg.size, fun k hk => hg.cell (hc k hk) (fun e => hne e.symm)⟩
theorem strs_snoc (ss : List ByteArray) (k : Nat) (h : k < ss.length) : ss.take (k + 1) = ss.take k ++ [ss[k]?.getD ByteArray.empty] := by
  rw [List.take_succ_eq_append_getElem h, List.getElem?_eq_getElem h]; rfl

theorem grown_of_below {w w' : World} (hb : Below w.heap.size w w') : w.grownBy w' none := ⟨hb.os, hb.tape, hb.output, hb.size, fun k hk _ => hb.block k hk⟩
/-- What the call owns it still owns behind a call that writes nothing that was there. -/
theorem own_below {w w' : World} {base : Nat} {e : TypeId} {size : Nat} {v : Value} {n : Nat} {xs : List Value} (h : w.ownsRow base e size v n xs) (hb : Below w.heap.size w w') : w'.ownsRow base e size v n xs :=
  h.kept (grown_of_below hb) (Classical.em _)
theorem map_snoc {α β : Type} (f : α → β) (d : α) (l : List α) (j : Nat) (h : j < l.length) : (l.map f).take (j + 1) = (l.map f).take j ++ [f (l[j]?.getD d)] := by
  rw [List.take_succ_eq_append_getElem (by rw [List.length_map]; exact h), List.getElem_map, List.getElem?_eq_getElem h]; rfl

/-- The cells of a list of fields. -/
def cells (fs : List Fld) : List Value := fs.flatMap fun f => [.string f.1, .string f.2]
theorem cells_length : ∀ fs : List Fld, (cells fs).length = fs.length * 2
  | [] => rfl
  | f :: fs => by simp [cells] at *; have := cells_length fs; simp [cells] at this; omega
theorem cells_snoc (fs : List Fld) (f : Fld) : cells (fs ++ [f]) = cells fs ++ [.string f.1, .string f.2] := by simp [cells]
theorem cells_append (fs gs : List Fld) : cells (fs ++ gs) = cells fs ++ cells gs := by simp [cells]
def dflt : Fld := (ByteArray.empty, ByteArray.empty)
theorem cells_at : ∀ (fs : List Fld) (k : Nat), k < fs.length → (cells fs)[k * 2]? = some (.string (fs[k]?.getD dflt).1) ∧ (cells fs)[k * 2 + 1]? = some (.string (fs[k]?.getD dflt).2)
  | [], k, h => by simp at h
  | f :: fs, 0, _ => by simp [cells]
  | f :: fs, k + 1, h => by
    have := cells_at fs k (by simpa using h)
    have e : cells (f :: fs) = .string f.1 :: .string f.2 :: cells fs := by simp [cells]
    rw [e, show (k + 1) * 2 = k * 2 + 2 by omega, show k * 2 + 2 + 1 = (k * 2 + 1) + 2 by omega]
    simpa using this
/-- A slice of fields. -/
def Flds (w : World) (a : Option Addr) (n : Nat) (fs : List Fld) : Prop :=
  fs.length = n ∧ (0 < n → ∃ b off, a = some ⟨b, off, none⟩ ∧ b < w.heap.size ∧ ∀ k, k < n → w.cell? ⟨b, off + k * 2, none⟩ = some (.string (fs[k]?.getD dflt).1) ∧ w.cell? ⟨b, off + k * 2 + 1, none⟩ = some (.string (fs[k]?.getD dflt).2))
theorem Flds.nil (w : World) (a : Option Addr) : Flds w a 0 [] := ⟨rfl, fun h => absurd h (by omega)⟩
theorem Flds.below {w w' : World} {a : Option Addr} {n : Nat} {fs : List Fld} (h : Flds w a n fs) (hb : Below w.heap.size w w') : Flds w' a n fs := by
  refine ⟨h.1, fun hn => ?_⟩
  obtain ⟨b, off, e, hlt, hc⟩ := h.2 hn
  exact ⟨b, off, e, Nat.lt_of_lt_of_le hlt hb.size, fun k hk => ⟨(hb.cell (p := ⟨b, off + k * 2, none⟩) hlt).trans (hc k hk).1, (hb.cell (p := ⟨b, off + k * 2 + 1, none⟩) hlt).trans (hc k hk).2⟩⟩
theorem Flds.grown {w w' : World} {b off n : Nat} {fs : List Fld} (h : Flds w (some ⟨b, off, none⟩) n fs) {row : Option Nat} (hg : w.grownBy w' row) (hne : row ≠ some b) : Flds w' (some ⟨b, off, none⟩) n fs := by
  refine ⟨h.1, fun hn => ?_⟩
  obtain ⟨b', off', e, hlt, hc⟩ := h.2 hn
  obtain ⟨rfl, rfl⟩ : b = b' ∧ off = off' := by simpa using e
  exact ⟨b, off, rfl, Nat.lt_of_lt_of_le hlt hg.size, fun k hk => ⟨hg.cell (hc k hk).1 (fun e => hne e.symm), hg.cell (hc k hk).2 (fun e => hne e.symm)⟩⟩
theorem Flds.of_cells {w : World} {b : Nat} {fs : List Fld} {n : Nat} (hn : fs.length = n) (hb : b < w.heap.size) (h : ∀ j, j < n * 2 → w.cell? ⟨b, j, none⟩ = (cells fs)[j]?) : Flds w (some ⟨b, 0, none⟩) n fs := by
  refine ⟨hn, fun _ => ⟨b, 0, rfl, hb, fun k hk => ?_⟩⟩
  have := cells_at fs k (by omega)
  rw [Nat.zero_add, h (k * 2) (by omega), h (k * 2 + 1) (by omega)]
  exact this
theorem Flds.of_own {w : World} {base : Nat} {e : TypeId} {v : Value} {n : Nat} {fs : List Fld} (h : w.ownsRow base e 2 v n (cells fs)) : ∃ A c, v = .slice A n c ∧ Flds w A n fs := by
  have hl : fs.length = n := by have := h.1; rw [cells_length] at this; omega
  rcases Nat.eq_zero_or_pos n with h0 | hp
  · subst h0
    rcases h.2 with ⟨rfl, _⟩ | ⟨g, cap, cur, rfl, _⟩
    · exact ⟨none, 0, rfl, hl, fun h => absurd h (by omega)⟩
    · exact ⟨_, _, rfl, hl, fun h => absurd h (by omega)⟩
  · obtain ⟨g, cap, rfl, _, hg⟩ := h.form hp
    exact ⟨_, _, rfl, Flds.of_cells hl hg fun j hj => h.cellAt j hj⟩
theorem flds_snoc (fs : List Fld) (k : Nat) (h : k < fs.length) : fs.take (k + 1) = fs.take k ++ [fs[k]?.getD dflt] := by
  rw [List.take_succ_eq_append_getElem h, List.getElem?_eq_getElem h]; rfl
end Go.Proofs.YtojjhknejkhdhaaDoor.Txt

/-
  A slice of bytes that reads as a list of bytes; a slice of such slices; the conversion of such a slice to a text.
-/
namespace Go.Proofs.YtojjhknejkhdhaaDoor.Txt
open Go.RowKit Base

def nums (bs : List UInt8) : List Int := bs.map fun b => (b.toNat : Int)
theorem bytes_of : ∀ zs : List Int, (∀ n ∈ zs, 0 ≤ n ∧ n ≤ 255) → ∃ bs, zs = nums bs
  | [], _ => ⟨[], rfl⟩
  | z :: zs, h => by
    obtain ⟨bs, e⟩ := bytes_of zs fun n hn => h n (by simp [hn])
    obtain ⟨h0, h1⟩ := h z (by simp)
    refine ⟨UInt8.ofNat z.toNat :: bs, ?_⟩
    rw [nums, List.map_cons, e]
    congr 1
    rw [UInt8.toNat_ofNat_of_lt' (by show z.toNat < 256; omega)]; omega
theorem nums_at (bs : List UInt8) (k : Nat) (h : k < bs.length) : (nums bs)[k]?.getD 0 = (bs[k].toNat : Int) := by
  rw [nums, List.getElem?_map, List.getElem?_eq_getElem h]; rfl
theorem conv_str (w : World) (a : Option Addr) (n cap : Nat) (bs : List UInt8) (h : Nums .u8 w a n (nums bs)) : (convert 22 9 (.slice a n cap)).run Tryd.prog w = .ok (.string (ba bs)) w := by
  have hl : bs.length = n := by have := h.1; rwa [nums, List.length_map] at this
  have key : ∀ b off, (∀ k, k < n → w.cell? ⟨b, off + k, none⟩ = some (.int .u8 ((nums bs)[k]?.getD 0))) → (convert 22 9 (.slice (some ⟨b, off, none⟩) n cap)).run Tryd.prog w = .ok (.string (ba bs)) w := by
    intro b off hc
    have := run_convert_bytes_back (P := Tryd.prog) w 22 9 5 ⟨b, off, none⟩ cap bs Tryd.underlying22 Tryd.underlying5 Tryd.underlying9 (fun j hj => by
      have e : (⟨b, off, none⟩ : Addr).add j = ⟨b, off + j, none⟩ := by unfold Addr.add; by_cases h : j = 0 <;> simp [h]
      rw [e, hc j (by omega), nums_at bs j hj])
    rw [hl] at this
    exact this
  rcases Nat.eq_zero_or_pos n with h0 | hp
  · subst h0
    obtain rfl : bs = [] := List.length_eq_zero_iff.1 hl
    cases a with
    | none => rw [run_convert_bytes_string w 22 9 5 none 0 cap Tryd.underlying22 Tryd.underlying5 Tryd.underlying9]; rfl
    | some x =>
      exact run_convert_bytes_back (P := Tryd.prog) w 22 9 5 x cap [] Tryd.underlying22 Tryd.underlying5 Tryd.underlying9 (fun j hj => by simp at hj)
  · obtain ⟨b, off, rfl, _, hc⟩ := h.2 hp
    exact key b off hc
/-- A slice of slices of bytes. -/
def Lines (w : World) (a : Option Addr) (n : Nat) (ls : List (List UInt8)) : Prop :=
  ls.length = n ∧ (0 < n → ∃ b off, a = some ⟨b, off, none⟩ ∧ b < w.heap.size ∧ ∀ k, k < n → ∃ ak ck, w.cell? ⟨b, off + k, none⟩ = some (.slice ak (ls[k]?.getD []).length ck) ∧ Nums .u8 w ak (ls[k]?.getD []).length (nums (ls[k]?.getD [])))
theorem Lines.below {w w' : World} {a : Option Addr} {n : Nat} {ls : List (List UInt8)} (h : Lines w a n ls) (hb : Below w.heap.size w w') : Lines w' a n ls := by
  refine ⟨h.1, fun hn => ?_⟩
  obtain ⟨b, off, e, hlt, hc⟩ := h.2 hn
  refine ⟨b, off, e, Nat.lt_of_lt_of_le hlt hb.size, fun k hk => ?_⟩
  obtain ⟨ak, ck, h1, h2⟩ := hc k hk
  exact ⟨ak, ck, (hb.cell (p := ⟨b, off + k, none⟩) hlt).trans h1, h2.below hb⟩
end Go.Proofs.YtojjhknejkhdhaaDoor.Txt
