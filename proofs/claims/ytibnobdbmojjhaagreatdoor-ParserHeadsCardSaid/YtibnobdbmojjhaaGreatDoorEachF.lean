/-
  A region that draws its order, walked by facts that last (XEach), where one operation that waits for nothing but is waited for by the last one alone may come up beside those that come late.
-/
import Derived.Test.YtibnobdbmojjhaaGreatDoorEach
namespace Go.Proofs.YtibnobdbmojjhaaGreatDoor.Each
open Go.RowKit Base

/-- The test: the first m write slots of their own, each waits for earlier ones alone, and each of the others (lm marks those among the first m that come late) waits for all of the first m that aren't late. -/
def goodF (l : List Oper) (m : Nat) (ds : List Nat) (lm : List Bool) (r : Nat) (f : Option Nat := none) : Bool :=
  decide (m ≤ l.length) && (decide ((l.take m).map (·.dst) = ds.map some) && (decide ds.Nodup &&
  ((List.range l.length).all (fun k => match l[k]? with
    | some o => o.after.toList.all fun e => !Region.binds .any e || (decide (e.on < k) && (lm.getD k false || decide (m ≤ k) || !lm.getD e.on false))
    | none => true) &&
  ((List.range l.length).all (fun i => (decide (i < m) && !lm.getD i false) || (List.range m).all fun k => lm.getD k false || (decide (f = some k) || (marks l l.length ((Array.replicate l.length false).setIfInBounds i true)).getD k false)) &&
  decide ((List.range m).countP (fun k => !lm.getD k false) + r ≤ l.length)))))
/-- One of them may still be to come (fl): it comes up beside those that come late. -/
def floats (m : Nat) (lm : List Bool) : Option Nat → Bool
  | none => true
  | some k => decide (k < m) && !lm.getD k false

section
variable {P : Program} {l : List Oper} {Q : Exit → Act → World → Prop} {fs : List Fact} {W : World} {a0 : Act} {m : Nat} {ds : List Nat} {lm : List Bool} {r : Nat} {fl : Option Nat}
theorem all_float (hm : m ≤ l.length) (hdst : (l.take m).map (·.dst) = ds.map some) (hnd : ds.Nodup) (hsz : ∀ d ∈ ds, d < a0.tmps.size) (hlen : fs.length = m)
    (hlast : ∀ f ∈ fs, Lasts f) (hidle : ∀ (k : Nat) (f : Fact), fs[k]? = some f → lm.getD k false = true → ∀ v w, f v w)
    (hfine : ∀ (k : Nat) (o : Oper) (f : Fact), l[k]? = some o → fs[k]? = some f → lm.getD k false = false → Fine P l fs W a0 ds o f)
    (hback : ∀ (k : Nat) (o : Oper), l[k]? = some o → ∀ e ∈ o.after.toList, Region.binds .any e = true → e.on < k)
    (hfree : ∀ (k : Nat) (o : Oper), l[k]? = some o → k < m → lm.getD k false = false → ∀ e ∈ o.after.toList, Region.binds .any e = true → lm.getD e.on false = false)
    (hcov : ∀ i, i < l.length → m ≤ i ∨ lm.getD i false = true → ∀ k, k < m → lm.getD k false = false → fl ≠ some k → (marks l l.length ((Array.replicate l.length false).setIfInBounds i true)).getD k false = true)
    (hfl : ∀ k, fl = some k → k < m ∧ lm.getD k false = false)
    (hrest : ∀ (g : Nat → Value) (w : World), Below W.heap.size W w → facts g w ds fs → wpAnyH P .any l.toArray Q (fun _ => True) r (fill l.length m lm) (putg g ds a0) w)
    (hrest0 : ∀ k0, fl = some k0 → ∀ (g : Nat → Value) (w : World), Below W.heap.size W w → facts g w ds (fs.set k0 fun _ _ => True) → wpAnyH P .any l.toArray Q (fun _ => True) (r + 1) ((fill l.length m lm).setIfInBounds k0 false) (putg g ds a0) w) :
    ∀ (n : Nat) (b : Array Bool) (a : Act) (w : World), Inv l fs W a0 m ds lm b a w → (List.range m).countP (fun k => !b.getD k false && !lm.getD k false) + r ≤ n → wpAnyH P .any l.toArray Q (fun _ => True) n b a w := by
  have base : ∀ (b : Array Bool) (a : Act) (w : World), Inv l fs W a0 m ds lm b a w → (∀ k, k < m → lm.getD k false = false → fl ≠ some k → b.getD k false = true) →
      ∃ q, (q = r ∨ (q = r + 1 ∧ 0 < (List.range m).countP (fun k => !b.getD k false && !lm.getD k false))) ∧ wpAnyH P .any l.toArray Q (fun _ => True) q b a w := by
    intro b a w hI hall
    rcases Classical.em (∃ k0, fl = some k0 ∧ b.getD k0 false = false) with ⟨k0, hk0, hbk0⟩ | hno
    · obtain ⟨hkm, hkl⟩ := hfl k0 hk0
      have hall' : ∀ k, k < m → lm.getD k false = false → ¬ k = k0 → b.getD k false = true := fun k h1 h2 h3 => hall k h1 h2 (fun e => h3 (by rw [hk0] at e; exact (Option.some.inj e).symm))
      refine ⟨r + 1, .inr ⟨rfl, ?_⟩, ?_⟩
      · rw [List.countP_pos_iff]
        exact ⟨k0, by simpa using hkm, by rw [hbk0, hkl]; rfl⟩
      have hb : b = (fill l.length m lm).setIfInBounds k0 false := by
        refine Array.ext (by simp [fill, hI.bsize]) fun i h1 h2 => ?_
        have e : b.getD i false = b[i] := by simp [Array.getD_eq_getD_getElem?, h1]
        rw [← e, Array.getElem_setIfInBounds (by simpa using h2)]
        by_cases hik : k0 = i
        · rw [if_pos hik, ← hik, hbk0]
        · rw [if_neg hik]
          have e2 : ∀ h, (fill l.length m lm)[i]'h = (decide (i < m) && !lm.getD i false) := by intro h; simp [fill]
          rw [e2]
          rcases Nat.lt_or_ge i m with hi | hi
          · cases hl : lm.getD i false with
            | true => rw [hI.rest i (.inr hl)]; simp
            | false => rw [hall' i hi hl (fun e => hik e.symm)]; simp [hi]
          · rw [hI.rest i (.inl hi)]; simp [show ¬ i < m by omega]
      have := hrest0 k0 hk0 _ w hI.bel (facts_of (fun d => a.eval (.tmp d)) ds (fs.set k0 fun _ _ => True) fun k d f hd hf => by
        by_cases hkk : k0 = k
        · subst hkk
          have : k0 < fs.length := by rw [hlen]; exact hkm
          rw [List.getElem?_set_self this] at hf
          obtain rfl := Option.some.inj hf
          trivial
        · rw [List.getElem?_set_ne hkk] at hf
          cases hl : lm.getD k false with
          | true => exact hidle k f hf hl _ _
          | false => exact hI.fact k d f hd hf (hall' k (by have := (List.getElem?_eq_some_iff.1 hf).1; omega) hl (fun e => hkk e.symm)))
      rw [← act_of hI, ← hb] at this
      exact this
    · have hall' : ∀ k, k < m → lm.getD k false = false → b.getD k false = true := fun k h1 h2 => by
        rcases Classical.em (fl = some k) with h | h
        · cases hb : b.getD k false with
          | true => rfl
          | false => exact absurd ⟨k, h, hb⟩ hno
        · exact hall k h1 h2 h
      refine ⟨r, .inl rfl, ?_⟩
      have hb : b = fill l.length m lm := by
        refine Array.ext (by simp [fill, hI.bsize]) fun i h1 h2 => ?_
        have e : b.getD i false = b[i] := by simp [Array.getD_eq_getD_getElem?, h1]
        rw [← e]
        have e2 : (fill l.length m lm)[i] = (decide (i < m) && !lm.getD i false) := by simp [fill]
        rw [e2]
        rcases Nat.lt_or_ge i m with hi | hi
        · cases hl : lm.getD i false with
          | true => rw [hI.rest i (.inr hl)]; simp
          | false => rw [hall' i hi hl]; simp [hi]
        · rw [hI.rest i (.inl hi)]; simp [show ¬ i < m by omega]
      have := hrest _ w hI.bel (facts_of (fun d => a.eval (.tmp d)) ds fs fun k d f hd hf => by
        cases hl : lm.getD k false with
        | true => exact hidle k f hf hl _ _
        | false => exact hI.fact k d f hd hf (hall' k (by have := (List.getElem?_eq_some_iff.1 hf).1; omega) hl))
      rw [← act_of hI, ← hb] at this
      exact this
  intro n
  induction n with
  | zero =>
    intro b a w hI hn
    have hc : (List.range m).countP (fun k => !b.getD k false && !lm.getD k false) = 0 := by omega
    obtain ⟨q, hq, h⟩ := base b a w hI (fun k hk hl _ => by
      have := List.countP_eq_zero.1 hc k (by simpa using hk)
      rw [hl] at this
      simpa using this)
    rw [show q = 0 by omega] at h
    exact h
  | succ n ih =>
    intro b a w hI hn
    by_cases hc : ∀ k, k < m → lm.getD k false = false → fl ≠ some k → b.getD k false = true
    · obtain ⟨q, hq, h⟩ := base b a w hI hc
      have h2 := wpAnyH_up q (n + 1 - q) _ _ _ h
      rw [show q + (n + 1 - q) = n + 1 by omega] at h2
      exact h2
    · -- the first that has not come up may come up; and none of the others may
      have hex : ∃ k, k < m ∧ lm.getD k false = false ∧ fl ≠ some k ∧ b.getD k false = false := by
        rcases Classical.em (∃ k, k < m ∧ lm.getD k false = false ∧ fl ≠ some k ∧ b.getD k false = false) with h | h
        · exact h
        · refine absurd (fun k hk hl hf => ?_) hc
          cases hb : b.getD k false with
          | true => rfl
          | false => exact absurd ⟨k, hk, hl, hf, hb⟩ h
      have hin : ∀ i ∈ Region.ready .any l.toArray b, i < m ∧ lm.getD i false = false := by
        intro i hi
        obtain ⟨hun, o, ho, hal⟩ := mem_ready.1 hi
        have ho' : l[i]? = some o := by simpa using ho
        have hil : i < l.length := (List.getElem?_eq_some_iff.1 ho').1
        have key : m ≤ i ∨ lm.getD i false = true → False := by
          intro h
          obtain ⟨k, hk, hlk, hfk, hbk⟩ := hex
          have hmk := hcov i hil h k hk hlk hfk
          have := marks_sub b hI.down l.length i _ (fun k hk => (get_set_sub _ _ _ hk).imp_right fun h => by
            rw [Array.getD_eq_getD_getElem?] at h
            rcases Nat.lt_or_ge k l.length with hkl | hkl
            · simp [hkl] at h
            · simp [hkl] at h) (fun o2 ho2 e he hb => by
              obtain rfl : o = o2 := by rw [ho'] at ho2; exact Option.some.inj ho2
              exact hal e (by simpa using he) hb) k hmk
          rcases this with h' | h'
          · subst h'
            rcases h with h | h
            · omega
            · rw [hlk] at h; cases h
          · rw [hbk] at h'; cases h'
        refine ⟨?_, ?_⟩
        · rcases Nat.lt_or_ge i m with h | h
          · exact h
          · exact absurd (.inl h) key
        · cases h : lm.getD i false with
          | false => rfl
          | true => exact absurd (.inr h) key
      have hne : Region.ready .any l.toArray b ≠ [] := by
        -- the least one
        have : ∀ k, k < m → lm.getD k false = false → b.getD k false = false → ∃ i, i ∈ Region.ready .any l.toArray b := by
          intro k
          induction k using Nat.strongRecOn with
          | _ k ihk =>
            intro hk hlk hbk
            have hkl : k < l.length := by omega
            rcases Classical.em (∃ e ∈ (l[k]).after.toList, Region.binds .any e = true ∧ b.getD e.on false = false) with h | h
            · obtain ⟨e, he, hb, hbe⟩ := h
              have := hback k _ (List.getElem?_eq_getElem hkl) e he hb
              exact ihk e.on this (by omega) (hfree k _ (List.getElem?_eq_getElem hkl) hk hlk e he hb) hbe
            · refine ⟨k, mem_ready.2 ⟨?_, l[k], by simp [hkl], fun e he hb => ?_⟩⟩
              · have : k < b.size := by rw [hI.bsize]; exact hkl
                rw [Array.getD_eq_getD_getElem?] at hbk ⊢
                simpa [this] using hbk
              · cases hbe : b.getD e.on false with
                | true => rfl
                | false => exact absurd ⟨e, by simpa using he, hb, hbe⟩ h
        obtain ⟨k, hk, hlk, _, hbk⟩ := hex
        obtain ⟨i, hi⟩ := this k hk hlk hbk
        intro h0
        rw [h0] at hi
        cases hi
      refine wpAnyH_all rfl hne ?_
      intro i hi
      obtain ⟨him, hil⟩ := hin i hi
      refine wpOp_mono (fun a' w' h' => ⟨trivial, ih _ a' w' h' ?_⟩) (step hm hdst hnd hsz hlen hlast hfine hI him hil hi)
      obtain ⟨hun, o, ho, hal⟩ := mem_ready.1 hi
      have hbi : i < b.size := by rw [hI.bsize]; omega
      have hun' : b.getD i false = false := by
        rw [Array.getD_eq_getD_getElem?] at hun ⊢
        simpa [hbi] using hun
      have e : (List.range m).countP (fun k => !(b.setIfInBounds i true).getD k false && !lm.getD k false) = (List.range m).countP (fun k => (!b.getD k false && !lm.getD k false) && !(k == i)) := by
        refine List.countP_congr fun k _ => ?_
        rw [get_set b i k hbi]
        by_cases h : k = i
        · simp [h]
        · simp [h]
      have := count_less (fun k => !b.getD k false && !lm.getD k false) i (by rw [hun', hil]; rfl) (List.range m) (by simpa using him)
      rw [e]
      omega

/-- The region; lm marks those among the first m that come late, r of all come up behind; one of the first m (fl) may still be to come when these do. -/
theorem region_float (m : Nat) (ds : List Nat) (fs : List Fact) (lm : List Bool) (r : Nat) (fl : Option Nat) (p p0 : Tree.Plan) {id : Nat} {a0 : Act} {w : World} (hmo : P.follows .mixedOrders = true) (hg : goodF l m ds lm r fl = true) (hns : Region.noSelect l.toArray = true)
    (hp : Tree.fits l.toArray p r (fill l.length m lm) = true) (hp0 : ∀ k0, fl = some k0 → Tree.fits l.toArray p0 (r + 1) ((fill l.length m lm).setIfInBounds k0 false) = true) (hQ : ∀ c a d v w, Q (.panic c) (Act.put a d v) w → Q (.panic c) a w)
    (hsz : ds.all (fun d => decide (d < a0.tmps.size)) = true) (hlen : fs.length = m) (hlast : Every fs) (hidle : Idle lm fs) (hfloat : floats m lm fl = true) (hfine : All P l fs (w.drewN 1) a0 ds lm l fs)
    (hrest : ∀ (g : Nat → Value) (w' : World), Below w.heap.size w w' → facts g w' ds fs → Tree.Step P l.toArray Q (fun _ => True) (Tree.grow l p) (putg g ds a0) w')
    (hrest0 : ∀ k0, fl = some k0 → ∀ (g : Nat → Value) (w' : World), Below w.heap.size w w' → facts g w' ds (fs.set k0 fun _ _ => True) → Tree.Step P l.toArray Q (fun _ => True) (Tree.grow l p0) (putg g ds a0) w') : (Code.region id l.toArray true).wp P Q a0 w := by
  simp only [goodF, Bool.and_eq_true, List.all_eq_true, decide_eq_true_eq, List.mem_range, Bool.or_eq_true] at hg
  obtain ⟨h1, h2, h3, h4, h5, h6⟩ := hg
  refine wp_region_held (S := fun _ => True) hmo ?_
  have hb4 : ∀ (k : Nat) (o : Oper), l[k]? = some o → ∀ e ∈ o.after.toList, Region.binds .any e = true → e.on < k ∧ (k < m → lm.getD k false = false → lm.getD e.on false = false) := by
    intro k o hk e he hb
    have := h4 k (List.getElem?_eq_some_iff.1 hk).1
    rw [hk] at this
    simp only [List.all_eq_true, Bool.or_eq_true, Bool.and_eq_true, Bool.not_eq_true', decide_eq_true_eq] at this
    rcases this e he with h | ⟨h, h'⟩
    · rw [hb] at h; cases h
    · refine ⟨h, fun hk hl => ?_⟩
      rcases h' with (h' | h') | h'
      · rw [hl] at h'; cases h'
      · omega
      · exact h'
  have hcov : ∀ i, i < l.length → m ≤ i ∨ lm.getD i false = true → ∀ k, k < m → lm.getD k false = false → fl ≠ some k → (marks l l.length ((Array.replicate l.length false).setIfInBounds i true)).getD k false = true := by
    intro i hi hmi k hk hl hf
    rcases h5 i hi with ⟨h, h'⟩ | h
    · rcases hmi with hmi | hmi
      · omega
      · rw [hmi] at h'; cases h'
    · rcases h k hk with h | h | h
      · rw [hl] at h; cases h
      · exact absurd h hf
      · exact h
  have hfl : ∀ k, fl = some k → k < m ∧ lm.getD k false = false := by
    intro k hk
    subst hk
    simp only [floats, Bool.and_eq_true, decide_eq_true_eq, Bool.not_eq_true'] at hfloat
    exact hfloat
  have hsz' : ∀ d ∈ ds, d < a0.tmps.size := by
    simpa using hsz
  have hI : Inv l fs (w.drewN 1) a0 m ds lm (Array.replicate l.length false) a0 (w.drewN 1) := by
    have hrep : ∀ k, (Array.replicate l.length false).getD k false = false := fun k => by
      rw [Array.getD_eq_getD_getElem?]
      rcases Nat.lt_or_ge k l.length with h | h <;> simp [h]
    refine ⟨Below.refl _ _, rfl, rfl, fun _ _ => rfl, fun k d f _ _ h => ?_, fun k o _ h => ?_, by simp, fun k _ => hrep k⟩
    · rw [hrep] at h; cases h
    · rw [hrep] at h; cases h
  have := all_float (P := P) (Q := Q) (r := r) (fl := fl) h1 h2 h3 hsz' hlen (every_at hlast) (idle_at hidle) (fun k o f ho hf hl => all_at hfine k o f ho hf hl) (fun k o hk e he hb => (hb4 k o hk e he hb).1)
    (fun k o hk hkm hl e he hb => (hb4 k o hk e he hb).2 hkm hl) hcov hfl
    (fun g w' hb hf => Tree.held_of_walk hns hQ p _ _ _ w' hp trivial (hrest g w' ((Base.below_drewN (Below.refl w.heap.size w) 1).trans hb) hf).out)
    (fun k0 hk0 g w' hb hf => Tree.held_of_walk hns hQ p0 _ _ _ w' (hp0 k0 hk0) trivial (hrest0 k0 hk0 g w' ((Base.below_drewN (Below.refl w.heap.size w) 1).trans hb) hf).out) l.length _ a0 (w.drewN 1) hI (by
      have : (List.range m).countP (fun k => !(Array.replicate l.length false).getD k false && !lm.getD k false) ≤ (List.range m).countP (fun k => !lm.getD k false) :=
        List.countP_mono_left fun k _ hk => by simp at hk; simpa using hk.2
      omega)
  simpa [World.drewN] using this
end
section run
variable {P : Program} {o : Oper}
/-- An append, run as an operation. -/
theorem exec_append {ev : Operand → Value} {w w' : World} {v u v' : Value} (s x : Operand) (t : TypeId) (ho : o.op = .call { callee := .builtin .append, args := #[s, x], argTypes := #[t, t] }) (hs : ev s = v) (hx : ev x = u)
    (hr : (Builtin.append_ #[t, t] o.type #[v, u]).run P w = .ok v' w') : (execOp ev o).run P w = .ok (.value v') w' := by
  unfold execOp
  simp only [ho, resolve, invoke, builtin, Sem.run_bind, Sem.run_pure, Result.andThen_ok, List.map_toArray, List.map_cons, List.map_nil, hs, hx, hr]
theorem oper_append {a : Act} {w w' : World} {K : Act → World → Prop} {Q : Exit → Act → World → Prop} {v u v' : Value} (s x : Operand) (t : TypeId) (ho : o.op = .call { callee := .builtin .append, args := #[s, x], argTypes := #[t, t] }) (hs : a.eval s = v) (hx : a.eval x = u)
    (hr : (Builtin.append_ #[t, t] o.type #[v, u]).run P w = .ok v' w') (h : K (a.put o.dst v') w') : o.wp P a w K Q := by
  unfold Oper.wp
  rw [exec_append s x t ho hs hx hr, Oper.upon_value]
  exact h
theorem oper_enter {a : Act} {w : World} {K : Act → World → Prop} {Q : Exit → Act → World → Prop} {g : FuncId} {args : Array Value} (h : (execOp a.eval o).run P w = .ok (.enter g args) w) (hc : Calls P g args w fun e w' => ∃ v, e = .returned v ∧ K (a.put o.dst v) w') : o.wp P a w K Q := by
  unfold Oper.wp
  rw [h, Oper.upon_enter]
  refine hc.mono ?_
  rintro e w' ⟨v, rfl, hk⟩
  exact hk
end run
end Go.Proofs.YtibnobdbmojjhaaGreatDoor.Each
