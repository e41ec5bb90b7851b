/-
  A region that draws its order, walked by facts that last: each operation is looked at once, in any world in which those it waits for have come up, and leaves a fact on its value that lasts behind whatever the others do; so no order need be walked. What comes last (a store) is walked behind it. Stated over any program; the region's edges are asked by a computed test.
-/
import Derived.Test.YtoackhbkngfhkaaDoorBase
namespace Go.Proofs.YtoackhbkngfhkaaDoor.Each
open Go.RowKit Base

abbrev Fact := Value → World → Prop
/-- The fact lasts. -/
def Lasts (f : Fact) : Prop := ∀ v w w', Below w.heap.size w w' → f v w → f v w'
theorem Lasts.pure (p : Value → Prop) : Lasts (fun v _ => p v) := fun _ _ _ _ h => h

/-- What an operation finds: the facts of those that it waits for. -/
def has (l : List Oper) (fs : List Fact) (ev : Operand → Value) (w : World) : List Edge → Prop
  | [] => True
  | e :: es => (if Region.binds .any e = true then (match l[e.on]?, fs[e.on]? with
      | some o, some f => (match o.dst with
        | some d => f (ev (.tmp d)) w
        | none => True)
      | _, _ => True) else True) ∧ has l fs ev w es
/-- One of the facts that an operation finds. -/
def one (l : List Oper) (fs : List Fact) (ev : Operand → Value) (w : World) : Option Edge → Prop
  | some e => (if Region.binds .any e = true then (match l[e.on]?, fs[e.on]? with
      | some o, some f => (match o.dst with
        | some d => f (ev (.tmp d)) w
        | none => True)
      | _, _ => True) else True)
  | none => True
theorem has.at {l : List Oper} {fs : List Fact} {ev : Operand → Value} {w : World} : ∀ {es : List Edge}, has l fs ev w es → ∀ n : Nat, one l fs ev w es[n]?
  | [], _, n => by simp [one]
  | e :: es, h, 0 => by simpa [one] using h.1
  | e :: es, h, n + 1 => by simpa using has.at h.2 n
def yld (l : List Oper) (ev : Operand → Value) (j : Nat) : Option Bool :=
  match (l[j]?).bind (·.dst) with
  | some d => (match ev (.tmp d) with
    | .bool b => some b
    | _ => none)
  | none => none

/-- How operands read within the region: constants, and what lies in slots that it doesn't write. -/
structure Reads (a0 : Act) (ds : List Nat) (ev : Operand → Value) : Prop where
  const : ∀ v, ev (.const v) = v
  func : ∀ f, ev (.func f) = .func (.func f) #[] #[]
  global : ∀ g, ev (.global g) = .pointer (some ⟨g, 0, none⟩)
  old : ∀ s, ds.contains s = false → ev (.tmp s) = a0.tmps.getD s undef

/-- The operation yields a value of which the fact holds, and leaves what was there. -/
inductive Goes (P : Program) (o : Oper) (ev : Operand → Value) (f : Fact) (w : World) : Prop
  | value (v : Value) (w' : World) (h : (execOp ev o).run P w = .ok (.value v) w') (hb : Below w.heap.size w w') (hf : f v w') : Goes P o ev f w
  | enter (g : FuncId) (args : Array Value) (h : (execOp ev o).run P w = .ok (.enter g args) w) (hc : Calls P g args w fun e w' => ∃ v, e = .returned v ∧ Below w.heap.size w w' ∧ f v w') : Goes P o ev f w

/-- The same, where what it leaves as it was is said by R. -/
inductive GoesR (P : Program) (o : Oper) (ev : Operand → Value) (f : Fact) (R : World → World → Prop) (w : World) : Prop
  | value (v : Value) (w' : World) (h : (execOp ev o).run P w = .ok (.value v) w') (hb : R w w') (hf : f v w') : GoesR P o ev f R w
  | enter (g : FuncId) (args : Array Value) (h : (execOp ev o).run P w = .ok (.enter g args) w) (hc : Calls P g args w fun e w' => ∃ v, e = .returned v ∧ R w w' ∧ f v w') : GoesR P o ev f R w
theorem Goes.gen {P : Program} {o : Oper} {ev : Operand → Value} {f : Fact} {w : World} (h : Goes P o ev f w) {R : World → World → Prop} (hR : ∀ w', Below w.heap.size w w' → R w w') : GoesR P o ev f R w := by
  cases h with
  | value v w' hrun hb hfv => exact .value v w' hrun (hR _ hb) hfv
  | enter g args hrun hc =>
    refine .enter g args hrun (hc.mono ?_)
    rintro e w' ⟨v, rfl, hb, hfv⟩
    exact ⟨v, rfl, hR _ hb, hfv⟩
/-- Operation k of the region, where K is known of the world by which have come up. -/
def FineR (P : Program) (l : List Oper) (fs : List Fact) (R : Nat → World → World → Prop) (K : Array Bool → World → Prop) (a0 : Act) (ds : List Nat) (k : Nat) (o : Oper) (f : Fact) : Prop :=
  ∀ (ev : Operand → Value) (b : Array Bool) (w : World), Reads a0 ds ev → K b w → b.getD k false = false → has l fs ev w o.after.toList →
    (Region.wanted o (yld l ev) = true → GoesR P o ev f (R k) w) ∧ (Region.wanted o (yld l ev) = false → f undef w)

def Fine (P : Program) (l : List Oper) (fs : List Fact) (W : World) (a0 : Act) (ds : List Nat) (o : Oper) (f : Fact) : Prop :=
  ∀ (ev : Operand → Value) (w : World), Reads a0 ds ev → Below W.heap.size W w → has l fs ev w o.after.toList →
    (Region.wanted o (yld l ev) = true → Goes P o ev f w) ∧ (Region.wanted o (yld l ev) = false → f undef w)

/-- From the last to the first: what these wait for, by one another. -/
def marks (l : List Oper) : Nat → Array Bool → Array Bool
  | 0, b => b
  | k + 1, b => marks l k (if b.getD k false = true then (match l[k]? with
      | some o => o.after.toList.foldl (fun b e => if Region.binds .any e = true then b.setIfInBounds e.on true else b) b
      | none => b) else b)

def fill (n m : Nat) (lm : List Bool) : Array Bool := ((List.range n).map fun i => decide (i < m) && !lm.getD i false).toArray
/-- The test: the first m write slots of their own, each waits for earlier ones alone, and each of the others (lm marks those among the first m that come late) waits for all of the first m that aren't late. -/
def good (l : List Oper) (m : Nat) (ds : List Nat) (lm : List Bool) (r : Nat) : Bool :=
  decide (m ≤ l.length) && (decide ((l.take m).map (·.dst) = ds.map some) && (decide ds.Nodup &&
  ((List.range l.length).all (fun k => match l[k]? with
    | some o => o.after.toList.all fun e => !Region.binds .any e || (decide (e.on < k) && (lm.getD k false || decide (m ≤ k) || !lm.getD e.on false))
    | none => true) &&
  ((List.range l.length).all (fun i => (decide (i < m) && !lm.getD i false) || (List.range m).all fun k => lm.getD k false || (marks l l.length ((Array.replicate l.length false).setIfInBounds i true)).getD k false) &&
  decide ((List.range m).countP (fun k => !lm.getD k false) + r ≤ l.length)))))

/-- The slots written, by their values. -/
def putg (g : Nat → Value) : List Nat → Act → Act
  | [], a => a
  | d :: ds, a => putg g ds (a.put (some d) (g d))
/-- What is known of them. -/
def fone (g : Nat → Value) (w : World) : Option Nat → Option Fact → Prop
  | some d, some f => f (g d) w
  | _, _ => True
def facts (g : Nat → Value) (w : World) : List Nat → List Fact → Prop
  | d :: ds, f :: fs => f (g d) w ∧ facts g w ds fs
  | _, _ => True

theorem facts.at {g : Nat → Value} {w : World} : ∀ {ds : List Nat} {fs : List Fact}, facts g w ds fs → ∀ n : Nat, fone g w ds[n]? fs[n]?
  | [], _, _, n => by simp [fone]
  | _ :: _, [], _, n => by simp [fone]
  | _ :: _, _ :: _, h, 0 => by simpa [fone] using h.1
  | _ :: _, _ :: _, h, n + 1 => by simpa using facts.at h.2 n

section
variable {P : Program} {l : List Oper} {Q : Exit → Act → World → Prop} {fs : List Fact} {W : World} {a0 : Act} {m : Nat} {ds : List Nat} {lm : List Bool} {r : Nat} {K : Array Bool → World → Prop} {R : Nat → World → World → Prop}

structure Inv (l : List Oper) (fs : List Fact) (K : Array Bool → World → Prop) (a0 : Act) (m : Nat) (ds : List Nat) (lm : List Bool) (b : Array Bool) (a : Act) (w : World) : Prop where
  bel : K b w
  size : a.tmps.size = a0.tmps.size
  defs : a.defers = a0.defers
  old : ∀ s, s ∉ ds → a.tmps[s]? = a0.tmps[s]?
  fact : ∀ (k d : Nat) (f : Fact), ds[k]? = some d → fs[k]? = some f → b.getD k false = true → f (a.eval (.tmp d)) w
  down : ∀ (k : Nat) (o : Oper), l[k]? = some o → b.getD k false = true → ∀ e ∈ o.after.toList, Region.binds .any e = true → b.getD e.on false = true
  bsize : b.size = l.length
  rest : ∀ k, m ≤ k ∨ lm.getD k false = true → b.getD k false = false

theorem get_set (b : Array Bool) (i k : Nat) (hi : i < b.size) : (b.setIfInBounds i true).getD k false = if k = i then true else b.getD k false := by
  by_cases h : k = i
  · subst h
    simp [Array.getD_eq_getD_getElem?, hi]
  · have h' : ¬ i = k := fun e => h e.symm
    simp [Array.getD_eq_getD_getElem?, h, h']
theorem get_set_sub (b : Array Bool) (i k : Nat) (h : (b.setIfInBounds i true).getD k false = true) : k = i ∨ b.getD k false = true := by
  rcases Nat.lt_or_ge i b.size with hi | hi
  · rw [get_set b i k hi] at h
    by_cases hk : k = i
    · exact .inl hk
    · rw [if_neg hk] at h; exact .inr h
  · rw [Array.setIfInBounds_eq_of_size_le hi] at h; exact .inr h
theorem fold_sub (b0 : Array Bool) (p : Nat → Prop) (es : List Edge) (hp : ∀ k, b0.getD k false = true → p k) (he : ∀ e ∈ es, Region.binds .any e = true → p e.on) :
    ∀ k, (es.foldl (fun b e => if Region.binds .any e = true then b.setIfInBounds e.on true else b) b0).getD k false = true → p k := by
  induction es generalizing b0 with
  | nil => exact hp
  | cons e es ih =>
    rw [List.foldl_cons]
    refine ih _ ?_ (fun x hx => he x (by simp [hx]))
    intro k hk
    by_cases hb : Region.binds .any e = true
    · rw [if_pos hb] at hk
      rcases get_set_sub _ _ _ hk with rfl | h
      · exact he e (by simp) hb
      · exact hp k h
    · rw [if_neg hb] at hk; exact hp k hk
theorem marks_sub (b : Array Bool) (hdown : ∀ (k : Nat) (o : Oper), l[k]? = some o → b.getD k false = true → ∀ e ∈ o.after.toList, Region.binds .any e = true → b.getD e.on false = true) :
    ∀ (n : Nat) (i : Nat) (c : Array Bool), (∀ k, c.getD k false = true → k = i ∨ b.getD k false = true) → (∀ o, l[i]? = some o → ∀ e ∈ o.after.toList, Region.binds .any e = true → b.getD e.on false = true) →
      ∀ k, (marks l n c).getD k false = true → k = i ∨ b.getD k false = true
  | 0, _, _, h, _ => h
  | n + 1, i, c, h, hi => by
    rw [marks]
    refine marks_sub b hdown n i _ ?_ hi
    by_cases hc : c.getD n false = true
    · rw [if_pos hc]
      cases ho : l[n]? with
      | none => exact h
      | some o =>
        refine fold_sub c (fun k => k = i ∨ b.getD k false = true) _ h ?_
        intro e he hb
        rcases h n hc with rfl | hn
        · exact .inr (hi o ho e he hb)
        · exact .inr (hdown n o ho hn e he hb)
    · rw [if_neg hc]; exact h
theorem count_less (p : Nat → Bool) (i : Nat) (hi : p i = true) : ∀ xs : List Nat, i ∈ xs → xs.countP (fun k => p k && !(k == i)) + 1 ≤ xs.countP p
  | [], h => by simp at h
  | x :: xs, h => by
    have hle : ∀ ys : List Nat, ys.countP (fun k => p k && !(k == i)) ≤ ys.countP p := fun ys => List.countP_mono_left (fun k _ hk => by simp at hk; exact hk.1)
    by_cases hx : x = i
    · subst hx
      rw [List.countP_cons, List.countP_cons]
      have := hle xs
      simp [hi]
      omega
    · have hm : i ∈ xs := by
        rcases List.mem_cons.1 h with h | h
        · exact absurd h.symm hx
        · exact h
      have ih := count_less p i hi xs hm
      rw [List.countP_cons, List.countP_cons]
      have hne : (x == i) = false := by simp [hx]
      rw [hne]
      simp only [Bool.not_false, Bool.and_true]
      omega
theorem wpAnyH_more {ops : Array Oper} {S : World → Prop} : ∀ (n : Nat) (b : Array Bool) (a : Act) (w : World), wpAnyH P .any ops Q S n b a w → wpAnyH P .any ops Q S (n + 1) b a w
  | 0, _, _, _, h => ⟨fun _ => h.2, by rw [h.1]; simp⟩
  | n + 1, _, _, _, h => ⟨h.1, fun i hi => wpOp_mono (fun a' w' h' => ⟨h'.1, wpAnyH_more n _ a' w' h'.2⟩) (h.2 i hi)⟩
theorem wpAnyH_up {ops : Array Oper} {S : World → Prop} (n : Nat) : ∀ (k : Nat) (b : Array Bool) (a : Act) (w : World), wpAnyH P .any ops Q S n b a w → wpAnyH P .any ops Q S (n + k) b a w
  | 0, _, _, _, h => h
  | k + 1, b, a, w, h => wpAnyH_more (n + k) b a w (wpAnyH_up n k b a w h)
theorem yielded_eval (a : Act) (j : Nat) : yielded l.toArray a.tmps j = yld l a.eval j := by
  unfold yielded yld
  have e : l.toArray[j]? = l[j]? := by simp
  rw [e]
  cases (l[j]?).bind (·.dst) with
  | none => rfl
  | some d =>
    simp only [Option.bind_some, Act.eval]
    rw [Array.getD_eq_getD_getElem?]
    cases h : a.tmps[d]? with
    | none => rfl
    | some v => cases v <;> rfl

theorem put_get (a : Act) (d s : Nat) (v : Value) : (a.put (some d) v).tmps[s]? = if s = d then (if d < a.tmps.size then some v else none) else a.tmps[s]? := by
  simp only [Act.put, Array.getElem?_setIfInBounds]
  by_cases h : s = d
  · subst h; simp
  · rw [if_neg h, if_neg (fun e => h e.symm)]
theorem put_size (a : Act) (d : Nat) (v : Value) : (a.put (some d) v).tmps.size = a.tmps.size := by simp [Act.put]
theorem putg_size (g : Nat → Value) : ∀ (ds : List Nat) (a : Act), (putg g ds a).tmps.size = a.tmps.size
  | [], _ => rfl
  | d :: ds, a => by rw [putg, putg_size g ds, put_size]
theorem putg_defers (g : Nat → Value) : ∀ (ds : List Nat) (a : Act), (putg g ds a).defers = a.defers
  | [], _ => rfl
  | d :: ds, a => by rw [putg, putg_defers g ds]; rfl
theorem putg_get (g : Nat → Value) (s : Nat) : ∀ (ds : List Nat) (a : Act), s < a.tmps.size → (putg g ds a).tmps[s]? = if s ∈ ds then some (g s) else a.tmps[s]?
  | [], a, _ => by simp [putg]
  | d :: ds, a, h => by
    rw [putg, putg_get g s ds _ (by rw [put_size]; exact h), put_get]
    by_cases h1 : s ∈ ds
    · simp [h1]
    · by_cases h2 : s = d
      · subst h2; simp [h1, h]
      · simp [h1, h2]

/-- Behind all of the first m: the act is the elder one, with the values put into the slots. -/
theorem act_of {b : Array Bool} {a : Act} {w : World} (hI : Inv l fs K a0 m ds lm b a w) : a = putg (fun d => a.eval (.tmp d)) ds a0 := by
  have h1 := hI.size
  have h2 := hI.defs
  have h3 := hI.old
  generalize hg : (fun d => a.eval (.tmp d)) = g
  have hg' : ∀ d, g d = a.tmps.getD d undef := fun d => by rw [← hg]; rfl
  have ht : a.tmps = (putg g ds a0).tmps := by
    refine Array.ext (by rw [putg_size, h1]) fun i hi hi' => ?_
    have e1 : a.tmps[i]? = (putg g ds a0).tmps[i]? := by
      rw [putg_get g i ds a0 (by omega)]
      by_cases h : i ∈ ds
      · rw [if_pos h, hg', Array.getD_eq_getD_getElem?, Array.getElem?_eq_getElem hi]; rfl
      · rw [if_neg h, h3 i h]
    rw [Array.getElem?_eq_getElem hi, Array.getElem?_eq_getElem hi'] at e1
    exact Option.some.inj e1
  cases a with
  | mk t df =>
    simp only at ht h2
    have : putg g ds a0 = ⟨(putg g ds a0).tmps, (putg g ds a0).defers⟩ := rfl
    rw [this, ← ht, putg_defers, ← h2]

theorem facts_of {w : World} (g : Nat → Value) : ∀ (ds : List Nat) (fs : List Fact), (∀ (k d : Nat) (f : Fact), ds[k]? = some d → fs[k]? = some f → f (g d) w) → facts g w ds fs
  | [], _, _ => by simp [facts]
  | _ :: _, [], _ => by simp [facts]
  | d :: ds, f :: fs, h => ⟨h 0 d f rfl rfl, facts_of g ds fs fun k d f hd hf => h (k + 1) d f (by simpa using hd) (by simpa using hf)⟩

theorem has_of {b : Array Bool} {a : Act} {w : World} (hdst : (l.take m).map (·.dst) = ds.map some) (hI : Inv l fs K a0 m ds lm b a w) : ∀ es : List Edge, (∀ e ∈ es, Region.binds .any e = true → b.getD e.on false = true) → has l fs a.eval w es
  | [], _ => trivial
  | e :: es, h => by
    refine ⟨?_, has_of hdst hI es fun x hx => h x (by simp [hx])⟩
    by_cases hb : Region.binds .any e = true
    · rw [if_pos hb]
      have hl := h e (by simp) hb
      cases ho : l[e.on]? with
      | none => simp
      | some o =>
        cases hf : fs[e.on]? with
        | none => simp
        | some f =>
          cases hd : o.dst with
          | none => simp [hd]
          | some d =>
            simp only [hd]
            have hm : e.on < m := by
              rcases Nat.lt_or_ge e.on m with h | h
              · exact h
              · rw [hI.rest _ (.inl h)] at hl; cases hl
            have hk : ds[e.on]? = some d := by
              have h1 := congrArg (fun x : List (Option Nat) => x[e.on]?) hdst
              simp only [List.getElem?_map, List.getElem?_take_of_lt hm, ho, Option.map_some, hd] at h1
              cases h2 : ds[e.on]? with
              | none => rw [h2] at h1; simp at h1
              | some d' => rw [h2] at h1; simp at h1; rw [h1]
            exact hI.fact _ _ _ hk hf hl
    · rw [if_neg hb]; trivial

theorem step (hm : m ≤ l.length) (hdst : (l.take m).map (·.dst) = ds.map some) (hnd : ds.Nodup) (hsz : ∀ d ∈ ds, d < a0.tmps.size) (hlen : fs.length = m)
    (hK : ∀ (b : Array Bool) (k : Nat) (w w' : World), k < m → b.getD k false = false → K b w → R k w w' → K (b.setIfInBounds k true) w') (hid : ∀ k w, R k w w) (hlast : ∀ (k j : Nat) (f : Fact), fs[k]? = some f → j ≠ k → (∀ o, l[k]? = some o → ∀ e ∈ o.after.toList, Region.binds .any e = true → e.on ≠ j) → ∀ v w w', R j w w' → f v w → f v w') (hfine : ∀ (k : Nat) (o : Oper) (f : Fact), l[k]? = some o → fs[k]? = some f → lm.getD k false = false → FineR P l fs R K a0 ds k o f)
    {b : Array Bool} {a : Act} {w : World} (hI : Inv l fs K a0 m ds lm b a w) {i : Nat} (him : i < m) (hil : lm.getD i false = false)
    (hr : i ∈ Region.ready .any l.toArray b) : wpOp P l.toArray Q i (fun a' w' => Inv l fs K a0 m ds lm (b.setIfInBounds i true) a' w') a w := by
  obtain ⟨hun, o, ho, hall⟩ := mem_ready.1 hr
  have ho' : l[i]? = some o := by simpa using ho
  have hfl : i < fs.length := by omega
  obtain ⟨f, hf⟩ : ∃ f, fs[i]? = some f := ⟨fs[i], by rw [List.getElem?_eq_getElem hfl]⟩
  obtain ⟨d, hd, hod⟩ : ∃ d, ds[i]? = some d ∧ o.dst = some d := by
    have h1 := congrArg (fun x : List (Option Nat) => x[i]?) hdst
    simp only [List.getElem?_map, List.getElem?_take_of_lt him, ho', Option.map_some] at h1
    cases h2 : ds[i]? with
    | none => rw [h2] at h1; simp at h1
    | some d => rw [h2] at h1; exact ⟨d, rfl, by simpa using h1⟩
  have hbi : i < b.size := by rw [hI.bsize]; omega
  have hun' : b.getD i false = false := by
    rw [Array.getD_eq_getD_getElem?] at hun ⊢
    simpa [hbi] using hun
  have hdm : d ∈ ds := List.mem_of_getElem? hd
  have hdlt : d < a.tmps.size := by rw [hI.size]; exact hsz d hdm
  have hev : Reads a0 ds a.eval := ⟨fun _ => rfl, fun _ => rfl, fun _ => rfl, fun s hs => by
    have hs' : s ∉ ds := by simpa using hs
    have := hI.old s hs'
    simp only [Act.eval, Array.getD_eq_getD_getElem?, this]⟩
  have hhas := has_of hdst hI o.after.toList fun e he hb => hall e (by simpa using he) hb
  obtain ⟨h1, h2⟩ := hfine i o f ho' hf hil a.eval b w hev hI.bel hun' hhas
  have hw : Region.wanted o (yielded l.toArray a.tmps) = Region.wanted o (yld l a.eval) := by
    have : yielded l.toArray a.tmps = yld l a.eval := funext fun j => yielded_eval a j
    rw [this]
  -- what holds behind it, whatever value it left
  have key : ∀ (v : Value) (w' : World), R i w w' → f v w' → Inv l fs K a0 m ds lm (b.setIfInBounds i true) (a.put o.dst v) w' := by
    intro v w' hb hfv
    rw [hod]
    refine ⟨hK b i w w' him hun' hI.bel hb, by rw [put_size]; exact hI.size, hI.defs, ?_, ?_, ?_, by simp [hI.bsize], ?_⟩
    · intro s hs
      rw [put_get, if_neg (fun (e : s = d) => hs (by rw [e]; exact hdm))]
      exact hI.old s hs
    · intro k d' f' hd' hf' hk
      have hev' : (a.put (some d) v).eval (.tmp d') = if d' = d then v else a.eval (.tmp d') := by
        simp only [Act.eval, Array.getD_eq_getD_getElem?, put_get]
        by_cases h : d' = d
        · simp [h, hdlt]
        · simp [h]
      rw [get_set b i k hbi] at hk
      rw [hev']
      by_cases hki : k = i
      · subst hki
        obtain rfl : d = d' := by rw [hd] at hd'; exact Option.some.inj hd'
        obtain rfl : f = f' := by rw [hf] at hf'; exact Option.some.inj hf'
        rw [if_pos rfl]; exact hfv
      · rw [if_neg hki] at hk
        have hne : d' ≠ d := fun e => by
          subst e
          have hk1 : k < ds.length := (List.getElem?_eq_some_iff.1 hd').1
          exact hki ((List.getElem?_inj hk1 hnd).1 (hd'.trans hd.symm))
        rw [if_neg hne]
        exact hlast k i f' hf' (fun e => hki e.symm) (fun o2 ho2 e he hbe hei => by have := hI.down k o2 ho2 hk e he hbe; rw [hei, hun'] at this; cases this) _ _ _ hb (hI.fact k d' f' hd' hf' hk)
    · intro k o' hk hbk e he hbe
      rw [get_set b i k hbi] at hbk
      rw [get_set b i e.on hbi]
      by_cases hki : k = i
      · subst hki
        obtain rfl : o = o' := by rw [ho'] at hk; exact Option.some.inj hk
        have := hall e (by simpa using he) hbe
        by_cases h : e.on = k
        · rw [if_pos h]
        · rw [if_neg h]; exact this
      · rw [if_neg hki] at hbk
        have := hI.down k o' hk hbk e he hbe
        by_cases h : e.on = i
        · rw [if_pos h]
        · rw [if_neg h]; exact this
    · intro k hk
      rw [get_set b i k hbi, if_neg (fun e => by
        rcases hk with hk | hk
        · omega
        · rw [e, hil] at hk; cases hk)]
      exact hI.rest k hk
  unfold wpOp
  simp only [ho]
  rw [hw]
  by_cases hwant : Region.wanted o (yld l a.eval) = true
  · rw [if_pos hwant]
    refine .inl ?_
    unfold Oper.wp
    cases h1 hwant with
    | value v w' hrun hb hfv => rw [hrun, Oper.upon_value]; exact key v w' hb hfv
    | enter g args hrun hc =>
      rw [hrun, Oper.upon_enter]
      refine hc.mono ?_
      rintro e w' ⟨v, rfl, hb, hfv⟩
      exact key v w' hb hfv
  · rw [if_neg hwant]
    exact key undef w (hid i w) (h2 (by simpa using hwant))

theorem all_of (hm : m ≤ l.length) (hdst : (l.take m).map (·.dst) = ds.map some) (hnd : ds.Nodup) (hsz : ∀ d ∈ ds, d < a0.tmps.size) (hlen : fs.length = m)
    (hK : ∀ (b : Array Bool) (k : Nat) (w w' : World), k < m → b.getD k false = false → K b w → R k w w' → K (b.setIfInBounds k true) w') (hid : ∀ k w, R k w w) (hlast : ∀ (k j : Nat) (f : Fact), fs[k]? = some f → j ≠ k → (∀ o, l[k]? = some o → ∀ e ∈ o.after.toList, Region.binds .any e = true → e.on ≠ j) → ∀ v w w', R j w w' → f v w → f v w') (hidle : ∀ (k : Nat) (f : Fact), fs[k]? = some f → lm.getD k false = true → ∀ v w, f v w)
    (hfine : ∀ (k : Nat) (o : Oper) (f : Fact), l[k]? = some o → fs[k]? = some f → lm.getD k false = false → FineR P l fs R K a0 ds k o f)
    (hback : ∀ (k : Nat) (o : Oper), l[k]? = some o → ∀ e ∈ o.after.toList, Region.binds .any e = true → e.on < k)
    (hfree : ∀ (k : Nat) (o : Oper), l[k]? = some o → k < m → lm.getD k false = false → ∀ e ∈ o.after.toList, Region.binds .any e = true → lm.getD e.on false = false)
    (hcov : ∀ i, i < l.length → m ≤ i ∨ lm.getD i false = true → ∀ k, k < m → lm.getD k false = false → (marks l l.length ((Array.replicate l.length false).setIfInBounds i true)).getD k false = true)
    (hrest : ∀ (g : Nat → Value) (w : World), K (fill l.length m lm) w → facts g w ds fs → wpAnyH P .any l.toArray Q (fun _ => True) r (fill l.length m lm) (putg g ds a0) w) :
    ∀ (n : Nat) (b : Array Bool) (a : Act) (w : World), Inv l fs K a0 m ds lm b a w → (List.range m).countP (fun k => !b.getD k false && !lm.getD k false) + r ≤ n → wpAnyH P .any l.toArray Q (fun _ => True) n b a w := by
  have base : ∀ (b : Array Bool) (a : Act) (w : World), Inv l fs K a0 m ds lm b a w → (List.range m).countP (fun k => !b.getD k false && !lm.getD k false) = 0 → wpAnyH P .any l.toArray Q (fun _ => True) r b a w := by
    intro b a w hI hc
    have hall : ∀ k, k < m → lm.getD k false = false → b.getD k false = true := fun k hk hl => by
      have := List.countP_eq_zero.1 hc k (by simpa using hk)
      rw [hl] at this
      simpa using this
    have hb : b = fill l.length m lm := by
      refine Array.ext (by simp [fill, hI.bsize]) fun i h1 h2 => ?_
      have e : b.getD i false = b[i] := by simp [Array.getD_eq_getD_getElem?, h1]
      rw [← e]
      have e2 : (fill l.length m lm)[i] = (decide (i < m) && !lm.getD i false) := by simp [fill]
      rw [e2]
      rcases Nat.lt_or_ge i m with hi | hi
      · cases hl : lm.getD i false with
        | true => rw [hI.rest i (.inr hl)]; simp
        | false => rw [hall i hi hl]; simp [hi]
      · rw [hI.rest i (.inl hi)]; simp [show ¬ i < m by omega]
    have := hrest _ w (hb ▸ hI.bel) (facts_of (fun d => a.eval (.tmp d)) ds fs fun k d f hd hf => by
      cases hl : lm.getD k false with
      | true => exact hidle k f hf hl _ _
      | false => exact hI.fact k d f hd hf (hall k (by have := (List.getElem?_eq_some_iff.1 hf).1; omega) hl))
    rw [← act_of hI, ← hb] at this
    exact this
  intro n
  induction n with
  | zero =>
    intro b a w hI hn
    have := base b a w hI (by omega)
    rw [show r = 0 by omega] at this
    exact this
  | succ n ih =>
    intro b a w hI hn
    by_cases hc : (List.range m).countP (fun k => !b.getD k false && !lm.getD k false) = 0
    · have h2 := wpAnyH_up r (n + 1 - r) _ _ _ (base b a w hI hc)
      rw [show r + (n + 1 - r) = n + 1 by omega] at h2
      exact h2
    · -- the first that has not come up may come up; and none of the others may
      have hex : ∃ k, k < m ∧ lm.getD k false = false ∧ b.getD k false = false := by
        rcases Classical.em (∃ k, k < m ∧ lm.getD k false = false ∧ b.getD k false = false) with h | h
        · exact h
        · refine absurd ?_ hc
          rw [List.countP_eq_zero]
          intro k hk
          have hk' : k < m := by simpa using hk
          cases hl : lm.getD k false with
          | true => simp
          | false =>
            cases hb : b.getD k false with
            | true => simp
            | false => exact absurd ⟨k, hk', hl, hb⟩ h
      have hin : ∀ i ∈ Region.ready .any l.toArray b, i < m ∧ lm.getD i false = false := by
        intro i hi
        obtain ⟨hun, o, ho, hal⟩ := mem_ready.1 hi
        have ho' : l[i]? = some o := by simpa using ho
        have hil : i < l.length := (List.getElem?_eq_some_iff.1 ho').1
        have key : m ≤ i ∨ lm.getD i false = true → False := by
          intro h
          obtain ⟨k, hk, hlk, hbk⟩ := hex
          have hmk := hcov i hil h k hk hlk
          have := marks_sub b hI.down l.length i _ (fun k hk => (get_set_sub _ _ _ hk).imp_right fun h => by
            rw [Array.getD_eq_getD_getElem?] at h
            rcases Nat.lt_or_ge k l.length with hkl | hkl
            · simp [hkl] at h
            · simp [hkl] at h) (fun o2 ho2 e he hb => by
              obtain rfl : o = o2 := by rw [ho'] at ho2; exact Option.some.inj ho2
              exact hal e (by simpa using he) hb) k hmk
          rcases this with h' | h'
          · subst h'
            rcases h with h | h
            · omega
            · rw [hlk] at h; cases h
          · rw [hbk] at h'; cases h'
        refine ⟨?_, ?_⟩
        · rcases Nat.lt_or_ge i m with h | h
          · exact h
          · exact absurd (.inl h) key
        · cases h : lm.getD i false with
          | false => rfl
          | true => exact absurd (.inr h) key
      have hne : Region.ready .any l.toArray b ≠ [] := by
        -- the least one
        have : ∀ k, k < m → lm.getD k false = false → b.getD k false = false → ∃ i, i ∈ Region.ready .any l.toArray b := by
          intro k
          induction k using Nat.strongRecOn with
          | _ k ihk =>
            intro hk hlk hbk
            have hkl : k < l.length := by omega
            rcases Classical.em (∃ e ∈ (l[k]).after.toList, Region.binds .any e = true ∧ b.getD e.on false = false) with h | h
            · obtain ⟨e, he, hb, hbe⟩ := h
              have := hback k _ (List.getElem?_eq_getElem hkl) e he hb
              exact ihk e.on this (by omega) (hfree k _ (List.getElem?_eq_getElem hkl) hk hlk e he hb) hbe
            · refine ⟨k, mem_ready.2 ⟨?_, l[k], by simp [hkl], fun e he hb => ?_⟩⟩
              · have : k < b.size := by rw [hI.bsize]; exact hkl
                rw [Array.getD_eq_getD_getElem?] at hbk ⊢
                simpa [this] using hbk
              · cases hbe : b.getD e.on false with
                | true => rfl
                | false => exact absurd ⟨e, by simpa using he, hb, hbe⟩ h
        obtain ⟨k, hk, hlk, hbk⟩ := hex
        obtain ⟨i, hi⟩ := this k hk hlk hbk
        intro h0
        rw [h0] at hi
        cases hi
      refine wpAnyH_all rfl hne ?_
      intro i hi
      obtain ⟨him, hil⟩ := hin i hi
      refine wpOp_mono (fun a' w' h' => ⟨trivial, ih _ a' w' h' ?_⟩) (step hm hdst hnd hsz hlen hK hid hlast hfine hI him hil hi)
      obtain ⟨hun, o, ho, hal⟩ := mem_ready.1 hi
      have hbi : i < b.size := by rw [hI.bsize]; omega
      have hun' : b.getD i false = false := by
        rw [Array.getD_eq_getD_getElem?] at hun ⊢
        simpa [hbi] using hun
      have e : (List.range m).countP (fun k => !(b.setIfInBounds i true).getD k false && !lm.getD k false) = (List.range m).countP (fun k => (!b.getD k false && !lm.getD k false) && !(k == i)) := by
        refine List.countP_congr fun k _ => ?_
        rw [get_set b i k hbi]
        by_cases h : k = i
        · simp [h]
        · simp [h]
      have := count_less (fun k => !b.getD k false && !lm.getD k false) i (by rw [hun', hil]; rfl) (List.range m) (by simpa using him)
      rw [e]
      omega

theorem Goes.mono {o : Oper} {ev : Operand → Value} {f f' : Fact} {w : World} (h : Goes P o ev f w) (hf : ∀ v w, f v w → f' v w) : Goes P o ev f' w := by
  cases h with
  | value v w' hrun hb hfv => exact .value v w' hrun hb (hf _ _ hfv)
  | enter g args hrun hc =>
    refine .enter g args hrun (hc.mono ?_)
    rintro e w' ⟨v, rfl, hb, hfv⟩
    exact ⟨v, rfl, hb, hf _ _ hfv⟩
/-- It yields this very value, and nothing changes. -/
theorem Goes.same {o : Oper} {ev : Operand → Value} {w : World} {v : Value} (h : (execOp ev o).run P w = .ok (.value v) w) : Goes P o ev (fun x _ => x = v) w :=
  .value v w h (Below.refl _ _) rfl
/-- The fact, where the guard lets the operation by. -/
def When (b want : Bool) (f : Fact) : Fact := fun v w => b = want → f v w
theorem Lasts.when {b want : Bool} {f : Fact} (h : Lasts f) : Lasts (When b want f) := fun v w w' hb hf e => h v w w' hb (hf e)
theorem Lasts.eq (x : Value) : Lasts (fun v _ => v = x) := fun _ _ _ _ h => h
theorem fine {o : Oper} {f : Fact} (hg : o.guard = none) (h : ∀ (ev : Operand → Value) (w : World), Reads a0 ds ev → Below W.heap.size W w → has l fs ev w o.after.toList → Goes P o ev f w) : Fine P l fs W a0 ds o f :=
  fun ev w h1 h2 h3 => ⟨fun _ => h ev w h1 h2 h3, fun hw => by simp [Region.wanted, hg] at hw⟩
theorem fine_when {o : Oper} {f : Fact} {b want : Bool} (j d : Nat) (hg : o.guard = some (j, want)) (hd : (l[j]?).bind (·.dst) = some d) (hb : ∀ (ev : Operand → Value) (w : World), has l fs ev w o.after.toList → ev (.tmp d) = .bool b)
    (h : b = want → ∀ (ev : Operand → Value) (w : World), Reads a0 ds ev → Below W.heap.size W w → has l fs ev w o.after.toList → Goes P o ev f w) : Fine P l fs W a0 ds o (When b want f) := by
  intro ev w h1 h2 h3
  have e : Region.wanted o (yld l ev) = (some b == some want) := by
    simp only [Region.wanted, hg, yld, hd, hb ev w h3]
  rw [e]
  refine ⟨fun hw => ?_, fun hw hbw => ?_⟩
  · have hbw : b = want := by simpa using hw
    exact (h hbw ev w h1 h2 h3).mono fun _ _ hf _ => hf
  · rw [hbw] at hw
    simp at hw

/-- Each operation's own goal. -/
def All (P : Program) (l : List Oper) (fs : List Fact) (W : World) (a0 : Act) (ds : List Nat) : List Bool → List Oper → List Fact → Prop
  | [], o :: os, f :: gs => Fine P l fs W a0 ds o f ∧ All P l fs W a0 ds [] os gs
  | false :: bs, o :: os, f :: gs => Fine P l fs W a0 ds o f ∧ All P l fs W a0 ds bs os gs
  | true :: bs, _ :: os, _ :: gs => True ∧ All P l fs W a0 ds bs os gs
  | _, _, _ => True
theorem all_at : ∀ {bs : List Bool} {os : List Oper} {gs : List Fact}, All P l fs W a0 ds bs os gs → ∀ (k : Nat) (o : Oper) (f : Fact), os[k]? = some o → gs[k]? = some f → bs.getD k false = false → Fine P l fs W a0 ds o f
  | [], _ :: _, _ :: _, h, 0, o, f, ho, hf, _ => by simp at ho hf; subst ho hf; exact h.1
  | [], _ :: _, _ :: _, h, k + 1, o, f, ho, hf, hb => all_at (bs := []) h.2 k o f (by simpa using ho) (by simpa using hf) (by simp)
  | false :: _, _ :: _, _ :: _, h, 0, o, f, ho, hf, _ => by simp at ho hf; subst ho hf; exact h.1
  | true :: _, _ :: _, _ :: _, h, 0, o, f, ho, hf, hb => by simp at hb
  | false :: _, _ :: _, _ :: _, h, k + 1, o, f, ho, hf, hb => all_at h.2 k o f (by simpa using ho) (by simpa using hf) (by simpa using hb)
  | true :: _, _ :: _, _ :: _, h, k + 1, o, f, ho, hf, hb => all_at h.2 k o f (by simpa using ho) (by simpa using hf) (by simpa using hb)
  | _, [], _, _, k, o, f, ho, hf, _ => by simp at ho
  | _, _ :: _, [], _, k, o, f, ho, hf, _ => by simp at hf
def Every (fs : List Fact) : Prop := match fs with
  | [] => True
  | f :: fs => Lasts f ∧ Every fs
theorem every_at : ∀ {fs : List Fact}, Every fs → ∀ f ∈ fs, Lasts f
  | [], _, f, hf => by simp at hf
  | g :: fs, h, f, hf => by
    rcases List.mem_cons.1 hf with rfl | hf
    · exact h.1
    · exact every_at h.2 f hf
/-- Of those that come late nothing is said. -/
def Idle : List Bool → List Fact → Prop
  | true :: bs, f :: fs => (∀ v w, f v w) ∧ Idle bs fs
  | false :: bs, _ :: fs => Idle bs fs
  | _, _ => True
theorem idle_at : ∀ {bs : List Bool} {fs : List Fact}, Idle bs fs → ∀ (k : Nat) (f : Fact), fs[k]? = some f → bs.getD k false = true → ∀ v w, f v w
  | [], _, _, k, f, _, hb => by simp at hb
  | true :: _, _ :: _, h, 0, f, hf, _ => by simp at hf; subst hf; exact h.1
  | false :: _, _ :: _, _, 0, f, _, hb => by simp at hb
  | true :: _, _ :: _, h, k + 1, f, hf, hb => idle_at h.2 k f (by simpa using hf) (by simpa using hb)
  | false :: bs, _ :: fs, h, k + 1, f, hf, hb => idle_at (bs := bs) (fs := fs) h k f (by simpa using hf) (by simpa using hb)
  | _ :: _, [], _, k, f, hf, _ => by simp at hf

/-- The region; lm marks those among the first m that come late, r of all come up behind; K says what is known of the world by which have come up, R what each may change. -/
theorem region_gen (m : Nat) (ds : List Nat) (fs : List Fact) (lm : List Bool) (r : Nat) (p : Tree.Plan) {id : Nat} {a0 : Act} {w : World} (hmo : P.follows .mixedOrders = true) (hg : good l m ds lm r = true) (hns : Region.noSelect l.toArray = true)
    (hp : Tree.fits l.toArray p r (fill l.length m lm) = true) (hQ : ∀ c a d v w, Q (.panic c) (Act.put a d v) w → Q (.panic c) a w)
    (hsz : ds.all (fun d => decide (d < a0.tmps.size)) = true) (hlen : fs.length = m) (hK0 : K (Array.replicate l.length false) (w.drewN 1)) (hK : ∀ (b : Array Bool) (k : Nat) (w w' : World), k < m → b.getD k false = false → K b w → R k w w' → K (b.setIfInBounds k true) w') (hid : ∀ k w, R k w w) (hlast : ∀ (k j : Nat) (f : Fact), fs[k]? = some f → j ≠ k → (∀ o, l[k]? = some o → ∀ e ∈ o.after.toList, Region.binds .any e = true → e.on ≠ j) → ∀ v w w', R j w w' → f v w → f v w') (hidle : Idle lm fs)
    (hfine : ∀ (k : Nat) (o : Oper) (f : Fact), l[k]? = some o → fs[k]? = some f → lm.getD k false = false → FineR P l fs R K a0 ds k o f)
    (hrest : ∀ (g : Nat → Value) (w' : World), K (fill l.length m lm) w' → facts g w' ds fs → Tree.Step P l.toArray Q (fun _ => True) (Tree.grow l p) (putg g ds a0) w') : (Code.region id l.toArray true).wp P Q a0 w := by
  simp only [good, Bool.and_eq_true, List.all_eq_true, decide_eq_true_eq, List.mem_range, Bool.or_eq_true] at hg
  obtain ⟨h1, h2, h3, h4, h5, h6⟩ := hg
  refine wp_region_held (S := fun _ => True) hmo ?_
  have hb4 : ∀ (k : Nat) (o : Oper), l[k]? = some o → ∀ e ∈ o.after.toList, Region.binds .any e = true → e.on < k ∧ (k < m → lm.getD k false = false → lm.getD e.on false = false) := by
    intro k o hk e he hb
    have := h4 k (List.getElem?_eq_some_iff.1 hk).1
    rw [hk] at this
    simp only [List.all_eq_true, Bool.or_eq_true, Bool.and_eq_true, Bool.not_eq_true', decide_eq_true_eq] at this
    rcases this e he with h | ⟨h, h'⟩
    · rw [hb] at h; cases h
    · refine ⟨h, fun hk hl => ?_⟩
      rcases h' with (h' | h') | h'
      · rw [hl] at h'; cases h'
      · omega
      · exact h'
  have hcov : ∀ i, i < l.length → m ≤ i ∨ lm.getD i false = true → ∀ k, k < m → lm.getD k false = false → (marks l l.length ((Array.replicate l.length false).setIfInBounds i true)).getD k false = true := by
    intro i hi hmi k hk hl
    rcases h5 i hi with ⟨h, h'⟩ | h
    · rcases hmi with hmi | hmi
      · omega
      · rw [hmi] at h'; cases h'
    · rcases h k hk with h | h
      · rw [hl] at h; cases h
      · exact h
  have hsz' : ∀ d ∈ ds, d < a0.tmps.size := by
    simpa using hsz
  have hI : Inv l fs K a0 m ds lm (Array.replicate l.length false) a0 (w.drewN 1) := by
    have hrep : ∀ k, (Array.replicate l.length false).getD k false = false := fun k => by
      rw [Array.getD_eq_getD_getElem?]
      rcases Nat.lt_or_ge k l.length with h | h <;> simp [h]
    refine ⟨hK0, rfl, rfl, fun _ _ => rfl, fun k d f _ _ h => ?_, fun k o _ h => ?_, by simp, fun k _ => hrep k⟩
    · rw [hrep] at h; cases h
    · rw [hrep] at h; cases h
  have := all_of (P := P) (Q := Q) (r := r) h1 h2 h3 hsz' hlen hK hid hlast (idle_at hidle) hfine (fun k o hk e he hb => (hb4 k o hk e he hb).1)
    (fun k o hk hkm hl e he hb => (hb4 k o hk e he hb).2 hkm hl) hcov
    (fun g w' hb hf => Tree.held_of_walk hns hQ p _ _ _ w' hp trivial (hrest g w' hb hf).out) l.length _ a0 (w.drewN 1) hI (by
      have : (List.range m).countP (fun k => !(Array.replicate l.length false).getD k false && !lm.getD k false) ≤ (List.range m).countP (fun k => !lm.getD k false) :=
        List.countP_mono_left fun k _ hk => by simp at hk; simpa using hk.2
      omega)
  simpa [World.drewN] using this
/-- The region; lm marks those among the first m that come late, r of all come up behind. -/
theorem region_late (m : Nat) (ds : List Nat) (fs : List Fact) (lm : List Bool) (r : Nat) (p : Tree.Plan) {id : Nat} {a0 : Act} {w : World} (hmo : P.follows .mixedOrders = true) (hg : good l m ds lm r = true) (hns : Region.noSelect l.toArray = true)
    (hp : Tree.fits l.toArray p r (fill l.length m lm) = true) (hQ : ∀ c a d v w, Q (.panic c) (Act.put a d v) w → Q (.panic c) a w)
    (hsz : ds.all (fun d => decide (d < a0.tmps.size)) = true) (hlen : fs.length = m) (hlast : Every fs) (hidle : Idle lm fs) (hfine : All P l fs (w.drewN 1) a0 ds lm l fs)
    (hrest : ∀ (g : Nat → Value) (w' : World), Below w.heap.size w w' → facts g w' ds fs → Tree.Step P l.toArray Q (fun _ => True) (Tree.grow l p) (putg g ds a0) w') : (Code.region id l.toArray true).wp P Q a0 w :=
  region_gen (K := fun _ w' => Below (w.drewN 1).heap.size (w.drewN 1) w') (R := fun _ w w' => Below w.heap.size w w') m ds fs lm r p hmo hg hns hp hQ hsz hlen (Below.refl _ _)
    (fun _ _ _ _ _ _ h h' => h.trans (h'.mono h.size)) (fun _ _ => Below.refl _ _) (fun _ _ f hf _ _ => every_at hlast f (List.mem_of_getElem? hf)) hidle
    (fun k o f ho hf hl ev _ w' h1 h2 _ h4 => ⟨fun hw => ((all_at hfine k o f ho hf hl ev w' h1 h2 h4).1 hw).gen fun _ h => h, (all_at hfine k o f ho hf hl ev w' h1 h2 h4).2⟩)
    fun g w' hb hf => hrest g w' ((Base.below_drewN (Below.refl w.heap.size w) 1).trans hb) hf
/-- The region. -/
theorem region (m : Nat) (ds : List Nat) (fs : List Fact) (p : Tree.Plan) {id : Nat} {a0 : Act} {w : World} (hmo : P.follows .mixedOrders = true) (hg : good l m ds [] (l.length - m) = true) (hns : Region.noSelect l.toArray = true)
    (hp : Tree.fits l.toArray p (l.length - m) (fill l.length m []) = true) (hQ : ∀ c a d v w, Q (.panic c) (Act.put a d v) w → Q (.panic c) a w)
    (hsz : ds.all (fun d => decide (d < a0.tmps.size)) = true) (hlen : fs.length = m) (hlast : Every fs) (hfine : All P l fs (w.drewN 1) a0 ds [] l fs)
    (hrest : ∀ (g : Nat → Value) (w' : World), Below w.heap.size w w' → facts g w' ds fs → Tree.Step P l.toArray Q (fun _ => True) (Tree.grow l p) (putg g ds a0) w') : (Code.region id l.toArray true).wp P Q a0 w :=
  region_late m ds fs [] (l.length - m) p hmo hg hns hp hQ hsz hlen hlast trivial hfine hrest
/-- The region, where all operations are looked at so. -/
theorem region_all (m : Nat) (ds : List Nat) (fs : List Fact) {id : Nat} {a0 : Act} {w : World} (hmo : P.follows .mixedOrders = true) (hg : good l m ds [] (l.length - m) = true) (hns : Region.noSelect l.toArray = true)
    (hp : Tree.fits l.toArray .done (l.length - m) (fill l.length m []) = true) (hQ : ∀ c a d v w, Q (.panic c) (Act.put a d v) w → Q (.panic c) a w)
    (hsz : ds.all (fun d => decide (d < a0.tmps.size)) = true) (hlen : fs.length = m) (hlast : Every fs) (hfine : All P l fs (w.drewN 1) a0 ds [] l fs)
    (hrest : ∀ (g : Nat → Value) (w' : World), Below w.heap.size w w' → facts g w' ds fs → Q .normal (putg g ds a0) w') : (Code.region id l.toArray true).wp P Q a0 w :=
  region m ds fs .done hmo hg hns hp hQ hsz hlen hlast hfine fun g w' hb hf => by
    rw [Tree.grow]; exact Tree.done (hrest g w' hb hf)
end
end Go.Proofs.YtoackhbkngfhkaaDoor.Each
