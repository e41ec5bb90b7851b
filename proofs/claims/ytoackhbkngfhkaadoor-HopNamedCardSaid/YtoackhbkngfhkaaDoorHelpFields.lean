/-
  The laws' help Fields: which slices of fields may be asked.
-/
import Derived.Test.YtoackhbkngfhkaaDoorTextWords
import Derived.WalkKit
import Derived.Deep.QuietTactic
import Derived.BigQuiet
namespace Go.Proofs.YtoackhbkngfhkaaDoor.Hp
open Go.RowKit Base Txt

def small (f : Fld) : Bool := decide (f.1.size + f.2.size ≤ 120)
def fieldsOk (fs : List Fld) : Bool := decide (fs.length ≤ 20) && fs.all small
theorem fieldsOk_at {fs : List Fld} (h : fieldsOk fs = true) : fs.length ≤ 20 ∧ ∀ f ∈ fs, f.1.size + f.2.size ≤ 120 := by
  simpa [fieldsOk, small] using h
section code
set_option maxHeartbeats 4000000
set_option maxRecDepth 100000
attribute [local go_sem] Base.some_undef
theorem fields_any (a : Option Addr) (n cap : Nat) (fs : List Fld) (w : World) (hv : Flds w a n fs) (hn : n ≤ maxLen) (hz : ∀ f ∈ fs, f.1.size ≤ 140737488351232 ∧ f.2.size ≤ 140737488351232) :
    Calls Tryd.prog 7 #[.slice a n cap] w fun e w' => e = .returned (.bool (fieldsOk fs)) ∧ ∃ m, w' = w.drewN m := by
  unfold maxLen at hn
  have HV := Lib.hid hv
  have HL := Lib.hid hv.1
  have HZ := Lib.hid hz
  have hl := hv.1
  clear hv hz
  rcases Nat.lt_or_ge 20 n with c1 | c1
  · have d1 : (20 : Int) < (n : Int) := by omega
    have e : fieldsOk fs = false := by unfold fieldsOk; rw [hl, decide_eq_false (by omega)]; rfl
    rw [e]
    clear e hl
    go_enter Tryd.func7, Tryd.ntmps7
    go_wp2
    go_ret
    exact ⟨rfl, 0, rfl⟩
  have d1 : ¬ (20 : Int) < (n : Int) := by omega
  have e : fieldsOk fs = fs.all small := by unfold fieldsOk; rw [hl, decide_eq_true c1]; rfl
  rw [e]
  obtain ⟨R, hR⟩ : ∃ R, fs.all small = R := ⟨_, rfl⟩
  rw [hR]
  have HR := Lib.hid hR
  clear hR e hl
  go_enter Tryd.func7, Tryd.ntmps7
  go_wp2
  go_loopw [3] (fun i wr => ∃ k q : Nat, k ≤ n ∧ i = .int .i64 k ∧ wr = w.drewN q ∧ Hid ((fs.take k).all small = true)) (fun i _ => n - (intOf i).toNat)
  case atStart => exact ⟨0, 0, Nat.zero_le _, rfl, rfl, Lib.hid rfl⟩
  case round =>
    obtain ⟨k, q, hk, rfl, rfl, HS⟩ := hrel
    rcases Nat.lt_or_ge k n with hlt | hge
    · obtain ⟨bl, off, rfl, hbl, hc⟩ := HV.out.2 (by omega)
      obtain ⟨hc0, hc1⟩ := hc k hlt
      have hkl : k < fs.length := by rw [HL.out]; exact hlt
      have hin : fs[k]?.getD dflt ∈ fs := by rw [List.getElem?_eq_getElem hkl]; exact List.getElem_mem hkl
      obtain ⟨y0, y1⟩ := HZ.out _ hin
      have HN := Lib.hid (flds_snoc fs k hkl)
      have HI := Lib.hid hin
      clear hc hin hkl
      generalize fs[k]?.getD dflt = f at *
      obtain ⟨f0, f1⟩ := f
      simp only at hc0 hc1 y0 y1
      have i1 : (k : Int) < (n : Int) := by omega
      have w1 : IntKind.i64.wrap ((f0.size : Int) + (f1.size : Int)) = ((f0.size + f1.size : Nat) : Int) := by rw [wrap_in _ (by omega) (by omega)]; omega
      rcases Nat.lt_or_ge 120 (f0.size + f1.size) with c2 | c2
      · have d2 : (120 : Int) < ((f0.size + f1.size : Nat) : Int) := by omega
        have hF := Lib.hid (show R = false by
          rw [← HR.out]
          cases h : fs.all small with
          | false => rfl
          | true =>
            have := (List.all_eq_true.1 h) _ HI.out
            simp only [small, decide_eq_true_eq] at this
            omega)
        clear c2 y0 y1
        go_wp2_with fail
        go_quiet (fail)
        rename_i nq
        go_wp2
        go_ret
        refine ⟨by first | rfl | (rw [hF.out]; rfl), q + nq, ?_⟩
        first | rfl | rw [World.drewN_drewN]
      · have d2 : ¬ (120 : Int) < ((f0.size + f1.size : Nat) : Int) := by omega
        have HS2 := Lib.hid (show (fs.take (k + 1)).all small = true by
          rw [HN.out, List.all_append, HS.out]
          simp only [List.all_cons, List.all_nil, Bool.and_true, Bool.true_and, small, decide_eq_true_eq]
          exact c2)
        clear c2 y0 y1
        go_wp2_with fail
        go_quiet (fail)
        rename_i nq
        go_wp2
        go_roundw
        case rel => first | exact ⟨k + 1, q + nq, by omega, by go_num, (World.drewN_drewN _ _ _).symm ▸ rfl, HS2⟩ | exact ⟨k + 1, q + nq, by omega, by go_num, by rw [World.drewN_drewN], HS2⟩ | exact ⟨k + 1, q + nq, by omega, by go_num, rfl, HS2⟩
        case measure => simp [intOf]; omega
    · obtain rfl : k = n := by omega
      have hput : fs.take k = fs := List.take_of_length_le (by rw [HL.out]; exact Nat.le_refl _)
      have HF := Lib.hid (show R = true by rw [← HR.out]; rw [hput] at HS; exact HS.out)
      clear hput HS
      go_wp2
      go_ret
      exact ⟨by first | rfl | (rw [HF.out]; rfl), q, rfl⟩
end code
end Go.Proofs.YtoackhbkngfhkaaDoor.Hp
