/-
  Layer 7 (target): what package target's Put and the document's Put answer, of every target.
-/
import Derived.Test.YtnlphcchohbhgaaDoorTargetParse
import Derived.Test.YtnlphcchohbhgaaDoorSched
import Derived.Deep.CutBlock
import Derived.Deep.DeepCutAuto
namespace Go.Proofs.YtnlphcchohbhgaaDoor.Tgt
open Go.RowKit Base Oct Num Txt

def putPathV (p q : ByteArray) (a : Bool) : ByteArray := if a = true then p ++ (⟨#[63]⟩ ++ q) else p
def putV (f : Int) (h p q : ByteArray) (a : Bool) : ByteArray :=
  if f = 1 then putPathV p q a
  else if f = 2 then ⟨#[104, 116, 116, 112, 58, 47, 47]⟩ ++ (h ++ putPathV p q a)
  else if f = 3 then h
  else if f = 4 then ⟨#[42]⟩
  else ⟨#[]⟩
theorem ba_app2 (l m : List UInt8) : ba (l ++ m) = ba l ++ ba m := ba_ext (by simp [ba])
theorem putPathV_ba (t : Tg) : putPathV (ba t.path) (ba t.query) t.asked = ba (putPath t) := by
  unfold putPathV putPath
  split
  · rw [ba_app2]; rfl
  · rfl
theorem putV_ba (t : Tg) : putV t.form (ba t.host) (ba t.path) (ba t.query) t.asked = ba (put t) := by
  unfold putV put
  rw [putPathV_ba]
  by_cases h1 : t.form = 1
  · rw [if_pos h1, if_pos (by omega)]
  rw [if_neg h1, if_neg (by omega)]
  by_cases h2 : t.form = 2
  · rw [if_pos h2, if_pos (by omega), ba_app2, ba_app2]; rfl
  rw [if_neg h2, if_neg (by omega)]
  by_cases h3 : t.form = 3
  · rw [if_pos h3, if_pos (by omega)]
  rw [if_neg h3, if_neg (by omega)]
  by_cases h4 : t.form = 4
  · rw [if_pos h4, if_pos (by omega)]; rfl
  rw [if_neg h4, if_neg (by omega)]; rfl
theorem putPathV_le (p q : ByteArray) (a : Bool) : (putPathV p q a).size ≤ p.size + q.size + 1 := by
  unfold putPathV
  split
  · rw [ByteArray.size_append, ByteArray.size_append, show (ByteArray.mk #[63]).size = 1 from rfl]; omega
  · omega
theorem app_assoc (x y z : ByteArray) : x ++ y ++ z = x ++ (y ++ z) := ba_ext (by simp)

section code
set_option maxHeartbeats 1000000
theorem putPath_any (f : Int) (h p q : ByteArray) (a : Bool) (w : World) (hp : p.size ≤ 1000000000) (hq : q.size ≤ 1000000000) :
    Calls Tryd.prog 28 #[tv f h p q a] w fun e w' => e = .returned (.string (putPathV p q a)) ∧ Below w.heap.size w w' := by
  cases a with
  | false =>
    go_enter Tryd.func28, Tryd.ntmps28
    go_wp2
    go_ret
    exact ⟨rfl, (Below.refl _ _).alloc (Nat.le_refl _) _⟩
  | true =>
    have v1 : ¬ 9223372036854775807 < p.size + 1 := by omega
    have v2 : ¬ 9223372036854775807 < p.size + 1 + q.size := by omega
    have e : putPathV p q true = p ++ ⟨#[63]⟩ ++ q := by rw [app_assoc]; rfl
    rw [e]
    clear e
    go_enter Tryd.func28, Tryd.ntmps28
    go_wp2
    go_ret
    exact ⟨rfl, (Below.refl _ _).alloc (Nat.le_refl _) _⟩

theorem put_any (f : Int) (h p q : ByteArray) (a : Bool) (w : World) (hh : h.size ≤ 1000000000) (hp : p.size ≤ 1000000000) (hq : q.size ≤ 1000000000) :
    Calls Tryd.prog 11 #[tv f h p q a] w fun e w' => e = .returned (.string (putV f h p q a)) ∧ Below w.heap.size w w' := by
  have HP := Lib.hid (fun w => putPath_any f h p q a w hp hq)
  have hz := putPathV_le p q a
  by_cases h2 : f = 2
  · subst h2
    have e : putV 2 h p q a = ⟨#[104, 116, 116, 112, 58, 47, 47]⟩ ++ h ++ putPathV p q a := by rw [app_assoc]; rfl
    rw [e]
    clear e
    generalize putPathV p q a = r at *
    have v1 : ¬ 9223372036854775807 < 7 + h.size := by omega
    have v2 : ¬ 9223372036854775807 < 7 + h.size + r.size := by omega
    go_enter Tryd.func11, Tryd.ntmps11
    go_wp2_with fail
    have hc := Tgb.new w 27 2 h p q a
    have hW : Below w.heap.size w (w.alloc (.cells #[.int .i64 2, .string h, .string p, .string q, .bool a] 27)) := (Below.refl _ _).alloc (Nat.le_refl _) _
    have hgg : w.heap.size < (w.alloc (.cells #[.int .i64 2, .string h, .string p, .string q, .bool a] 27)).heap.size := by simp
    generalize w.alloc (.cells #[.int .i64 2, .string h, .string p, .string q, .bool a] 27) = W at *
    generalize hgw : w.heap.size = g at *
    refine Sched.region [(0, false), (1, false), (2, false), (3, false), (4, true), (5, false), (6, false)] (fun w' => Below W.heap.size W w') (by kernel_rfl) (by kernel_rfl) (fun _ _ d _ _ h => by cases d <;> exact h) (Base.below_drewN (Below.refl _ _) 1) ?_
    simp only [Sched.picked, List.filterMap_cons, List.filterMap_nil, List.getElem?_cons_zero, List.getElem?_cons_succ, Option.map_some]
    iterate 4
      refine Sched.quiet (by rfl) ?_ ?_ ?_
      rotate_left 1
      · intro w' hS
        obtain ⟨c0, c1, c2, c3, c4, _, _, _, _, _⟩ := hc.below hgg hS
        clear hS
        go_simp
        with_reducible rfl
      simp only [Act.put, List.setIfInBounds_toArray, List.set_cons_zero, List.set_cons_succ]
    refine Sched.change (by rfl) (fun K hK => ?_)
    go_simp
    with_reducible refine (HP.out _).mono ?_
    rintro e w1 ⟨rfl, hb⟩
    dsimp only
    have hb1 : Below W.heap.size W w1 := (Base.below_drewN (Below.refl _ _) 1).trans hb
    refine hK _ _ hb1 ?_
    clear hK K
    refine Sched.quiet (by rfl) ?_ ?_ ?_
    rotate_left 1
    · intro w' hS
      go_simp
      with_reducible rfl
    simp only [Act.put, List.setIfInBounds_toArray, List.set_cons_zero, List.set_cons_succ]
    refine Sched.assign _ (by rfl) (by rfl) ?_
    simp only [Act.put, Act.eval, Array.getD_eq_getD_getElem?, List.getElem?_toArray, List.getElem?_cons_zero, List.getElem?_cons_succ, Option.getD_some, List.setIfInBounds_toArray, List.set_cons_zero, List.set_cons_succ]
    refine Sched.done ?_
    go_wp2
    go_ret
    exact ⟨rfl, by rw [hgw]; exact hW.trans (hb1.mono (by omega))⟩
  · have f2 : (f == 2) = false := beq_eq_false_iff_ne.2 h2
    by_cases h1 : f = 1
    · subst h1
      have e : putV 1 h p q a = putPathV p q a := rfl
      rw [e]
      clear hz
      generalize putPathV p q a = r at *
      go_enter Tryd.func11, Tryd.ntmps11
      go_wp2_with (go_at_call 28; with_reducible refine (HP.out _).mono ?_; rintro e w1 ⟨rfl, hb⟩)
      go_ret
      exact ⟨rfl, ((Below.refl _ _).alloc (Nat.le_refl _) _).trans (hb.mono (by simp))⟩
    have f1 : (f == 1) = false := beq_eq_false_iff_ne.2 h1
    clear hz HP
    by_cases h3 : f = 3
    · subst h3
      have e : putV 3 h p q a = h := rfl
      rw [e]
      go_enter Tryd.func11, Tryd.ntmps11
      go_wp2
      go_ret
      exact ⟨rfl, (Below.refl _ _).alloc (Nat.le_refl _) _⟩
    have f3 : (f == 3) = false := beq_eq_false_iff_ne.2 h3
    by_cases h4 : f = 4
    · subst h4
      have e : putV 4 h p q a = ⟨#[42]⟩ := rfl
      rw [e]
      go_enter Tryd.func11, Tryd.ntmps11
      go_wp2
      go_ret
      exact ⟨rfl, (Below.refl _ _).alloc (Nat.le_refl _) _⟩
    have f4 : (f == 4) = false := beq_eq_false_iff_ne.2 h4
    have e : putV f h p q a = ⟨#[]⟩ := by unfold putV; rw [if_neg h1, if_neg h2, if_neg h3, if_neg h4]
    rw [e]
    clear e h1 h2 h3 h4
    go_enter Tryd.func11, Tryd.ntmps11
    go_wp2
    go_ret
    exact ⟨rfl, (Below.refl _ _).alloc (Nat.le_refl _) _⟩

theorem rput_any (f : Int) (h p q : ByteArray) (a : Bool) (w : World) (hh : h.size ≤ 1000000000) (hp : p.size ≤ 1000000000) (hq : q.size ≤ 1000000000) :
    Calls Tryd.prog 12 #[tv f h p q a] w fun e w' => e = .returned (.string (putV f h p q a)) ∧ Below w.heap.size w w' := by
  obtain ⟨E, hE⟩ : ∃ E : ByteArray, E = if a = true then (⟨#[63]⟩ : ByteArray) ++ q else ⟨#[]⟩ := ⟨_, rfl⟩
  have hPE : putPathV p q a = p ++ E := by
    rw [hE]; unfold putPathV
    split
    · rfl
    · exact ba_ext (by simp)
  have hEz : E.size ≤ q.size + 1 := by
    rw [hE]; split
    · rw [ByteArray.size_append, show (ByteArray.mk #[63]).size = 1 from rfl]; omega
    · show 0 ≤ _
      omega
  have HE := Lib.hid hE
  clear hE
  have hW : Below w.heap.size w (w.alloc (.cells #[.int .i64 f, .string h, .string p, .string q, .bool a] 27)) := (Below.refl _ _).alloc (Nat.le_refl _) _
  have hV : putV f h p q a = (if f = 1 then p ++ E else if f = 2 then ⟨#[104, 116, 116, 112, 58, 47, 47]⟩ ++ h ++ p ++ E else if f = 3 then h else if f = 4 then ⟨#[42]⟩ else ⟨#[]⟩) := by
    unfold putV; rw [hPE]; simp only [app_assoc]
  rw [hV]
  clear hV hPE
  have u1 : ¬ 9223372036854775807 < 1 + q.size := by omega
  have u2 : ¬ 9223372036854775807 < p.size + E.size := by omega
  have u3 : ¬ 9223372036854775807 < 7 + h.size := by omega
  have u4 : ¬ 9223372036854775807 < 7 + h.size + p.size := by omega
  have u5 : ¬ 9223372036854775807 < 7 + h.size + p.size + E.size := by omega
  have hc := Tgb.new w 27 f h p q a
  go_enter Tryd.func12, Tryd.ntmps12
  go_upto_if 5 with fail
  generalize w.alloc (.cells #[.int .i64 f, .string h, .string p, .string q, .bool a] 27) = W at *
  obtain ⟨c0, c1, c2, c3, c4, _, _, _, _, _⟩ := hc
  go_cut [3] from 4 (fun v wx => v = .string E ∧ wx = W)
  case first =>
    cases a
    all_goals
      go_wp2_with fail
      go_meet
      case rel => exact ⟨by rw [HE.out]; rfl, rfl⟩
  case rest =>
    obtain ⟨rfl, rfl⟩ := hcut
    by_cases h1 : f = 1
    · subst h1
      go_wp2_with fail
      go_ret
      exact ⟨rfl, hW⟩
    have f1 : (f == 1) = false := beq_eq_false_iff_ne.2 h1
    by_cases h2 : f = 2
    · subst h2
      go_wp2_with fail
      go_ret
      exact ⟨rfl, hW⟩
    have f2 : (f == 2) = false := beq_eq_false_iff_ne.2 h2
    by_cases h3 : f = 3
    · subst h3
      go_wp2_with fail
      go_ret
      exact ⟨rfl, hW⟩
    have f3 : (f == 3) = false := beq_eq_false_iff_ne.2 h3
    by_cases h4 : f = 4
    · subst h4
      go_wp2_with fail
      go_ret
      exact ⟨rfl, hW⟩
    have f4 : (f == 4) = false := beq_eq_false_iff_ne.2 h4
    go_wp2_with fail
    go_ret
    exact ⟨rfl, hW⟩
end code
end Go.Proofs.YtnlphcchohbhgaaDoor.Tgt
