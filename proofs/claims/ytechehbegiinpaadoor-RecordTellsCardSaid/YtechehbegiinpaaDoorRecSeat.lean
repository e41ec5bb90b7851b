/-
  The laws' helps of layer 12: which records may be asked (parallaxhelp.Record), a record of which one thing is another one (bent), a right request of few numbers (parallaxseat.Neat).
-/
import Derived.Test.YtechehbegiinpaaDoorRecCopy
import Derived.Test.YtechehbegiinpaaDoorHelpFields
namespace Go.Proofs.YtechehbegiinpaaDoor.Rec
open Go.RowKit Base Txt

/-- Small records. -/
structure Small (r : R) : Prop where
  m : r.m.size ≤ 1000
  x : r.x.size ≤ 1000
  fs : r.fs.length ≤ 100
  f : ∀ f ∈ r.fs, f.1.size ≤ 1000 ∧ f.2.size ≤ 1000
  body : r.body.length ≤ 1000
  ts : r.ts.length ≤ 100
  t : ∀ f ∈ r.ts, f.1.size ≤ 1000 ∧ f.2.size ≤ 1000
theorem Small.fit {r : R} (h : Small r) : Fit r :=
  ⟨by have := h.m; omega, by have := h.x; omega, by have := h.fs; omega, fun f hf => by have := h.f f hf; omega, by have := h.body; omega, by have := h.ts; omega, fun f hf => by have := h.t f hf; omega⟩
def bent (q : Nat) (s : ByteArray) (r : R) : R :=
  match q with
  | 0 => { r with m := r.m ++ ⟨#[88]⟩ }
  | 1 => { r with x := r.x ++ ⟨#[120]⟩ }
  | 2 => { r with k := wrap64 (1 - r.k) }
  | 3 => { r with fs := r.fs ++ [(connN, s)] }
  | 4 => { r with ch := !r.ch }
  | 5 => { r with body := r.body ++ [120] }
  | _ => { r with ts := r.ts ++ [(⟨#[90]⟩, ⟨#[]⟩)] }
theorem bent_fit (q : Nat) (s : ByteArray) (r : R) (h : Small r) (hs : s.size ≤ 1000) : Fit (bent q s r) := by
  have hf := h.fit
  obtain ⟨h1, h2, h3, h4, h5, h6, h7⟩ := h
  obtain ⟨g1, g2, g3, g4, g5, g6, g7⟩ := hf
  unfold bent
  split
  · exact ⟨by simp only [ByteArray.size_append]; have : (ByteArray.mk #[88]).size = 1 := rfl; omega, g2, g3, g4, g5, g6, g7⟩
  · exact ⟨g1, by simp only [ByteArray.size_append]; have : (ByteArray.mk #[120]).size = 1 := rfl; omega, g3, g4, g5, g6, g7⟩
  · exact ⟨g1, g2, g3, g4, g5, g6, g7⟩
  · refine ⟨g1, g2, by simp only [List.length_append, List.length_singleton]; omega, fun f hf => ?_, g5, g6, g7⟩
    rcases List.mem_append.1 hf with hf | hf
    · exact g4 f hf
    · obtain rfl : f = (connN, s) := by simpa using hf
      exact ⟨show connN.size ≤ 10000 by decide, show s.size ≤ 10000 by omega⟩
  · exact ⟨g1, g2, g3, g4, g5, g6, g7⟩
  · exact ⟨g1, g2, g3, g4, by simp only [List.length_append, List.length_singleton]; omega, g6, g7⟩
  · refine ⟨g1, g2, g3, g4, g5, by simp only [List.length_append, List.length_singleton]; omega, fun f hf => ?_⟩
    rcases List.mem_append.1 hf with hf | hf
    · exact g7 f hf
    · obtain rfl : f = (⟨#[90]⟩, ⟨#[]⟩) := by simpa using hf
      exact ⟨show (ByteArray.mk #[90]).size ≤ 10000 by decide, show (ByteArray.mk #[]).size ≤ 10000 by decide⟩
theorem bent_ne (q : Nat) (s : ByteArray) (r : R) : same r (bent q s r) = false := by
  rw [Bool.eq_false_iff]
  intro h
  have h := (same_iff _ _).1 h
  unfold bent at h
  split at h
  · have := congrArg (fun x : R => x.m.size) h
    simp only [ByteArray.size_append] at this
    have e : (ByteArray.mk #[88]).size = 1 := rfl
    omega
  · have := congrArg (fun x : R => x.x.size) h
    simp only [ByteArray.size_append] at this
    have e : (ByteArray.mk #[120]).size = 1 := rfl
    omega
  · have := congrArg (fun x : R => x.k) h
    simp only at this
    unfold wrap64 at this
    omega
  · have := congrArg (fun x : R => x.fs.length) h
    simp at this
  · have := congrArg (fun x : R => x.ch) h
    simp at this
  · have := congrArg (fun x : R => x.body.length) h
    simp at this
  · have := congrArg (fun x : R => x.ts.length) h
    simp at this
/-- Records that may be asked. -/
def recordOk (r : R) : Bool := decide (r.m.size + r.x.size + r.body.length < 300) && (Hp.fieldsOk r.fs && Hp.fieldsOk r.ts)
theorem recordOk_small (r : R) (h : recordOk r = true) : Small r := by
  simp only [recordOk, Bool.and_eq_true, decide_eq_true_eq] at h
  obtain ⟨h1, h2, h3⟩ := h
  obtain ⟨a1, a2⟩ := Hp.fieldsOk_at h2
  obtain ⟨b1, b2⟩ := Hp.fieldsOk_at h3
  exact ⟨by omega, by omega, by omega, fun f hf => by have := a2 f hf; omega, by omega, by omega, fun f hf => by have := b2 f hf; omega⟩
/-- Records that came in. -/
structure Came (r : R) : Prop where
  m : r.m.size ≤ 140737488351232
  x : r.x.size ≤ 140737488351232
  b : r.body.length ≤ 140737488351232
  fs : r.fs.length ≤ maxLen
  f : ∀ f ∈ r.fs, f.1.size ≤ 140737488351232 ∧ f.2.size ≤ 140737488351232
  ts : r.ts.length ≤ maxLen
  t : ∀ f ∈ r.ts, f.1.size ≤ 140737488351232 ∧ f.2.size ≤ 140737488351232
section code
set_option maxHeartbeats 2000000
attribute [local go_sem] Base.some_undef
theorem recordOk_any (V : Value) (r : R) (w : World) (h : Reads w V r) (hc : Came r) : Calls Tryd.prog 7 #[V] w fun e w' => e = .returned (.bool (recordOk r)) ∧ Below w.heap.size w w' := by
  obtain ⟨fa, fc, ba, bc, ta, tc, rfl, h1, h2, h3⟩ := h
  have HF1 := Lib.hid (fun w2 (hb : Below w.heap.size w w2) => Hp.fields_any fa _ fc r.fs w2 (h1.below hb) hc.fs hc.f)
  have HF2 := Lib.hid (fun w2 (hb : Below w.heap.size w w2) => Hp.fields_any ta _ tc r.ts w2 (h3.below hb) hc.ts hc.t)
  clear h1 h2 h3
  have hm := hc.m; have hx := hc.x; have hb := hc.b
  have hbw := Lib.hid (((Below.refl _ _).alloc (Nat.le_refl _) (.cells #[.string r.m, .string r.x, .int .i64 r.k, .slice fa r.fs.length fc, .bool r.ch, .slice ba r.body.length bc, .slice ta r.ts.length tc] 25)) : Below w.heap.size w _)
  have HA := Lib.hid (Bk.new w w.heap.size rfl 25 [.string r.m, .string r.x, .int .i64 r.k, .slice fa r.fs.length fc, .bool r.ch, .slice ba r.body.length bc, .slice ta r.ts.length tc])
  unfold recordOk
  generalize Hp.fieldsOk r.fs = b1 at *
  generalize Hp.fieldsOk r.ts = b2 at *
  have c1 : -9223372036854775808 ≤ (r.m.size : Int) + (r.x.size : Int) ∧ (r.m.size : Int) + (r.x.size : Int) ≤ 9223372036854775807 := ⟨by omega, by omega⟩
  have c2 : -9223372036854775808 ≤ (r.m.size : Int) + (r.x.size : Int) + (r.body.length : Int) ∧ (r.m.size : Int) + (r.x.size : Int) + (r.body.length : Int) ≤ 9223372036854775807 := ⟨by omega, by omega⟩
  by_cases hlt : r.m.size + r.x.size + r.body.length < 300
  · have t0 : (r.m.size : Int) + (r.x.size : Int) + (r.body.length : Int) < 300 := by omega
    rw [decide_eq_true hlt]
    clear hlt hm hx hb hc
    obtain ⟨w1, w2⟩ := wraps _ c1
    obtain ⟨w3, w4⟩ := wraps _ c2
    clear c1 c2
    cases b1 <;> cases b2
    all_goals
      go_enter Tryd.func7, Tryd.ntmps7
      go_wp2_with (first
        | (go_at_call 21; with_reducible refine (HF2.out _ HB1.out).mono ?_; rintro e w6 ⟨rfl, n2, hw2⟩
           have HB2 := Lib.hid (show Below w.heap.size w w6 by rw [hw2]; exact Base.below_drewN HB1.out n2); clear hw2)
        | (go_at_call 21; with_reducible refine (HF1.out _ hbw.out).mono ?_; rintro e w5 ⟨rfl, n1, hw1⟩
           have HB1 := Lib.hid (show Below w.heap.size w w5 by rw [hw1]; exact Base.below_drewN hbw.out n1)
           have q6 := ((HA.out.drew n1).c 6 _ rfl); rw [← hw1] at q6; clear hw1))
      go_ret
      exact ⟨rfl, by first | exact HB2.out | exact HB1.out⟩
  · have t0 : ¬ (r.m.size : Int) + (r.x.size : Int) + (r.body.length : Int) < 300 := by omega
    rw [decide_eq_false hlt]
    clear hlt hm hx hb hc
    obtain ⟨w1, w2⟩ := wraps _ c1
    obtain ⟨w3, w4⟩ := wraps _ c2
    clear c1 c2
    go_enter Tryd.func7, Tryd.ntmps7
    go_wp2
    go_ret
    exact ⟨rfl, hbw.out⟩
end code
end Go.Proofs.YtechehbegiinpaaDoor.Rec
