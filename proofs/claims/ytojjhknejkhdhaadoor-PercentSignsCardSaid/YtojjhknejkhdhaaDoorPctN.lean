/-
  Layer 19 (percent): Norm: what it answers, of every text up to a great size.
-/
import Derived.Test.YtojjhknejkhdhaaDoorPctC
namespace Go.Proofs.YtojjhknejkhdhaaDoor.Pct
open Go.RowKit Base Txt

theorem repl_len (p : UInt8 → List UInt8) (hp : ∀ c, (p c).length ≤ 3) : ∀ (x y : List UInt8), repl p x = some y → y.length ≤ x.length := by
  intro x
  refine by_steps (M := fun x => ∀ y, repl p x = some y → y.length ≤ x.length) ?_ ?_ ?_ ?_ ?_ ?_ x.length x (Nat.le_refl _)
  · intro y h; cases h; simp
  · intro c l hc ih y h
    rw [repl_other p c l hc] at h
    obtain ⟨u, hu, rfl⟩ := Option.map_eq_some_iff.1 h
    have := ih u hu
    simp; omega
  · intro a b l hh ih y h
    rw [repl_two p a b l hh] at h
    obtain ⟨u, hu, rfl⟩ := Option.map_eq_some_iff.1 h
    have := ih u hu
    have := hp (byte2 a b)
    simp; omega
  · intro x y l hh z h; rw [repl_bad p x y _ hh] at h; cases h
  · intro x y h; rw [repl_one] at h; cases h
  · intro y h; rw [repl_last] at h; cases h
theorem join_bound (m : Nat) : ∀ L : List (List UInt8), (∀ q ∈ L, q.length ≤ m) → (join L).length ≤ L.length * (m + 1)
  | [], _ => by simp [join]
  | q :: L, h => by
    have h1 := join_bound m L fun x hx => h x (by simp [hx])
    have h2 := h q (by simp)
    rw [join_cons, List.length_cons, List.length_append, List.length_cons, Nat.succ_mul]
    omega
theorem segs_mem {l q : List UInt8} (h : q ∈ segs l) : q.length ≤ l.length := by
  unfold segs at h
  split at h
  · split at h
    · have := parts_size 47 _ q h; simp; omega
    · simp at h
  · simp at h
theorem dots_bound (l : List UInt8) (h : l.length ≤ 100000) : (join (dots (segs l))).length ≤ 100000000000 := by
  have h1 := join_bound 100000 (dots (segs l)) fun q hq => by
    rcases dots_mem hq with rfl | hq
    · simp
    · exact Nat.le_trans (segs_mem hq.1) h
  have h2 := dots_len (segs l)
  have h3 := segs_len l
  have h4 : (dots (segs l)).length * (100000 + 1) ≤ 100002 * (100000 + 1) := Nat.mul_le_mul_right _ (by omega)
  omega
theorem norm_slash (r : List UInt8) : norm (47 :: r) = (repl spell (47 :: r)).map fun y => join (dots (segs y)) := by simp [norm]
theorem norm_no {l : List UInt8} (h : ¬ ∃ r, l = 47 :: r) : norm l = none := by
  cases l with
  | nil => rfl
  | cons c r =>
    show (if c = 47 then _ else none) = none
    rw [if_neg]
    intro e; exact h ⟨r, by rw [e]⟩
theorem spell_le (c : UInt8) : (spell c).length ≤ 3 := (spell_len c).2

section code
set_option maxHeartbeats 4000000
set_option maxRecDepth 100000
attribute [local go_sem] Base.some_undef
theorem norm_any (s : ByteArray) (w : World) (hs : s.size ≤ 100000) :
    Calls Tryd.prog 9 #[.string s] w fun e w' => e = .returned (ans (norm s.data.toList)) ∧ Below w.heap.size w w' := by
  have HC := Lib.hid (fun w => Tryd.strings_HasPrefix s ⟨#[47]⟩ w)
  by_cases hr : ∃ r, s.data.toList = 47 :: r
  · have HR := Lib.hid (fun w => replace_any 20 (fun args w => by kernel_rfl) spell spell_any spell_le s w (by omega))
    obtain ⟨r, hr⟩ := hr
    have e1 : Lib.hasPrefix s.data.toList [47] = true := by rw [hr]; exact slash_yes r
    have hsz : s.size = r.length + 1 := by rw [← len, hr]; rfl
    simp only [e1] at HC
    rw [hr] at HR
    rw [hr, norm_slash]
    clear hr e1
    cases hq : repl spell (47 :: r) with
    | none =>
      rw [hq] at HR
      rw [Option.map_none]
      unfold ans at HR ⊢
      clear hq
      go_enter Tryd.func9, Tryd.ntmps9
      go_wp2_with (first
        | (go_at_call 18; with_reducible refine (HC.out _).mono ?_; rintro e w1 ⟨rfl, hw⟩; rw [hw]; clear hw)
        | (go_at_call 19; with_reducible refine (HR.out _).mono ?_; rintro e w1 ⟨rfl, hb⟩))
      go_ret2
      exact ⟨rfl, hb⟩
    | some y =>
      rw [hq] at HR
      rw [Option.map_some]
      have hyl := repl_len spell spell_le _ y hq
      rw [List.length_cons] at hyl
      have hsl := segs_len y
      have HJ := Lib.hid (dots_bound y (by omega))
      have HS := Lib.hid (fun w => segments_any (ba y) w (by rw [ba_size]; omega))
      have e3 : segsB (ba y) = (segs y).map ba := rfl
      have hml : ((segs y).map ba).length ≤ 1000000000 := by rw [List.length_map]; omega
      have hdl : ((dots (segs y)).map ba).length ≤ 1000000000 := by have := dots_len (segs y); rw [List.length_map]; omega
      have HD := Lib.hid (fun a n c w hv hn => dots_any a n c ((segs y).map ba) w hv hn)
      have e4 : dotsB ((segs y).map ba) = (dots (segs y)).map ba := by unfold dotsB; rw [listL_map]
      have HN := Lib.hid (fun a n c w hv hn => join_any a n c ((dots (segs y)).map ba) w hv hn (by rw [listL_map]; exact HJ.out))
      have e5 : joinB ((dots (segs y)).map ba) = ba (join (dots (segs y))) := by unfold joinB; rw [listL_map]
      simp only [e3] at HS
      simp only [e4] at HD
      simp only [e5] at HN
      have e6 : ans (some (join (dots (segs y)))) = .tuple #[.string (ba (join (dots (segs y)))), .bool true] := rfl
      rw [e6]
      unfold ans at HR
      clear hq e3 e4 e5 e6 HJ
      generalize (segs y).map ba = S at *
      generalize (dots (segs y)).map ba = D at *
      generalize ba (join (dots (segs y))) = J at *
      go_enter Tryd.func9, Tryd.ntmps9
      go_wp2_with (first
        | (go_at_call 18; with_reducible refine (HC.out _).mono ?_; rintro e w1 ⟨rfl, hw⟩; rw [hw]; clear hw)
        | (go_at_call 21; with_reducible refine (HN.out _ _ _ _ g3.out hm3).mono ?_; rintro e w4 ⟨rfl, hb⟩
           have b4 := Lib.hid (Base.below_step b3.out hb))
        | (go_at_call 16; with_reducible refine (HD.out _ _ _ _ g2.out hm2).mono ?_; rintro e w3 ⟨a3, n3, c3, rfl, hn3, hS3, hb⟩
           have g3 := Lib.hid hS3
           have hm3 : n3 ≤ 1000000000 := by omega
           have b3 := Lib.hid (Base.below_step b2.out hb)
           clear hS3 hb hn3)
        | (go_at_call 14; with_reducible refine (HS.out _).mono ?_; rintro e w2 ⟨a2, n2, c2, rfl, hn2, hS2, hb⟩
           have g2 := Lib.hid hS2
           have hm2 : n2 ≤ 1000000000 := by omega
           have b2 := Lib.hid (Base.below_step b1.out hb)
           clear hS2 hb hn2)
        | (go_at_call 19; with_reducible refine (HR.out _).mono ?_; rintro e w1 ⟨rfl, hb⟩
           have b1 := Lib.hid hb
           clear hb))
      go_ret2
      exact ⟨rfl, b4.out⟩
  · have e1 : Lib.hasPrefix s.data.toList [47] = false := slash_no hr
    simp only [e1] at HC
    rw [norm_no hr]
    clear e1 hr
    unfold ans
    go_enter Tryd.func9, Tryd.ntmps9
    go_wp2_with (first
      | (go_at_call 18; with_reducible refine (HC.out _).mono ?_; rintro e w1 ⟨rfl, hw⟩; rw [hw]; clear hw))
    go_ret2
    exact ⟨rfl, Below.refl _ _⟩
end code
end Go.Proofs.YtojjhknejkhdhaaDoor.Pct
