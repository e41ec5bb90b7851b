/-
  Layer 2 (number): the statements' helps: what is known, texts of digits, the document's own answers.
-/
import Derived.Test.YtnjlloiifdkcgaaDoorNumRef
namespace Go.Proofs.YtnjlloiifdkcgaaDoor.Num
open Go.RowKit Base Oct

theorem known_a : readOf 10 9 [48, 48, 55] = (7, 0) := by decide +kernel
theorem known_b : readOf 10 9 [49, 48] = (0, 23) := by decide +kernel
theorem known_c : readOf 10 99 [49, 97] = (0, 22) := by decide +kernel
theorem known_d : readOf 16 255 [102, 70] = (255, 0) := by decide +kernel
theorem known_e : spell 10 (120 : Int).toNat = [49, 50, 48] := by
  rw [spell_ge (by omega) (by decide), spell_ge (by omega) (by decide), spell_lt (by decide)]; decide +kernel
theorem known_f : spell 16 (255 : Int).toNat = [102, 102] := by
  rw [spell_ge (by omega) (by decide), spell_lt (by decide)]; decide +kernel

section code
set_option maxHeartbeats 1000000
theorem rdec_any (most : Int) (hM : most ≤ 9223372036854775807) (s : ByteArray) (w : World) (hs : s.size ≤ maxLen) :
    Calls Tryd.prog 12 #[.string s, .int .i64 most] w fun e w' => e = .returned (.tuple #[.int .i64 (readOf 10 most s.data.toList).1, .int .i64 (readOf 10 most s.data.toList).2]) ∧ w' = w := by
  have h := Lib.hid (fun w => rnumber_any 10 (by omega) most hM s w hs)
  generalize readOf 10 most s.data.toList = R at h ⊢
  go_enter Tryd.func12, Tryd.ntmps12
  go_wp2_with (go_at_call 19; with_reducible refine (h.out _).mono ?_; rintro e w1 ⟨rfl, rfl⟩)
  go_ret2
  exact ⟨rfl, rfl⟩
theorem rhexN_any (most : Int) (hM : most ≤ 9223372036854775807) (s : ByteArray) (w : World) (hs : s.size ≤ maxLen) :
    Calls Tryd.prog 14 #[.string s, .int .i64 most] w fun e w' => e = .returned (.tuple #[.int .i64 (readOf 16 most s.data.toList).1, .int .i64 (readOf 16 most s.data.toList).2]) ∧ w' = w := by
  have h := Lib.hid (fun w => rnumber_any 16 (by omega) most hM s w hs)
  generalize readOf 16 most s.data.toList = R at h ⊢
  go_enter Tryd.func14, Tryd.ntmps14
  go_wp2_with (go_at_call 19; with_reducible refine (h.out _).mono ?_; rintro e w1 ⟨rfl, rfl⟩)
  go_ret2
  exact ⟨rfl, rfl⟩
theorem known_any (w : World) : Calls Tryd.prog 7 #[] w fun e w' => e = .returned (.bool true) ∧ Below w.heap.size w w' := by
  have ka : Hid (∀ w, Calls Tryd.prog 11 #[.string ⟨#[48, 48, 55]⟩, .int .i64 9] w fun e w' => e = .returned (.tuple #[.int .i64 7, .int .i64 0]) ∧ Below w.heap.size w w') := Lib.hid (fun w => by
    have h := dec_any 9 (by omega) (str [48, 48, 55]) w (by decide)
    rw [show (str [48, 48, 55]).data.toList = [48, 48, 55] from rfl, known_a] at h
    exact h)
  have kb : Hid (∀ w, Calls Tryd.prog 11 #[.string ⟨#[49, 48]⟩, .int .i64 9] w fun e w' => e = .returned (.tuple #[.int .i64 0, .int .i64 23]) ∧ Below w.heap.size w w') := Lib.hid (fun w => by
    have h := dec_any 9 (by omega) (str [49, 48]) w (by decide)
    rw [show (str [49, 48]).data.toList = [49, 48] from rfl, known_b] at h
    exact h)
  have kc : Hid (∀ w, Calls Tryd.prog 11 #[.string ⟨#[49, 97]⟩, .int .i64 99] w fun e w' => e = .returned (.tuple #[.int .i64 0, .int .i64 22]) ∧ Below w.heap.size w w') := Lib.hid (fun w => by
    have h := dec_any 99 (by omega) (str [49, 97]) w (by decide)
    rw [show (str [49, 97]).data.toList = [49, 97] from rfl, known_c] at h
    exact h)
  have kd : Hid (∀ w, Calls Tryd.prog 13 #[.string ⟨#[102, 70]⟩, .int .i64 255] w fun e w' => e = .returned (.tuple #[.int .i64 255, .int .i64 0]) ∧ Below w.heap.size w w') := Lib.hid (fun w => by
    have h := hexN_any 255 (by omega) (str [102, 70]) w (by decide)
    rw [show (str [102, 70]).data.toList = [102, 70] from rfl, known_d] at h
    exact h)
  have ke : Hid (∀ w, Calls Tryd.prog 15 #[.int .i64 120] w fun e w' => e = .returned (.string ⟨#[49, 50, 48]⟩) ∧ ∃ m, w' = w.drewN m) := Lib.hid (fun w => by
    have h := put_any 120 w (by omega)
    rw [known_e] at h
    exact h)
  have kf : Hid (∀ w, Calls Tryd.prog 16 #[.int .i64 255] w fun e w' => e = .returned (.string ⟨#[102, 102]⟩) ∧ ∃ m, w' = w.drewN m) := Lib.hid (fun w => by
    have h := putHex_any 255 w (by omega)
    rw [known_f] at h
    exact h)
  go_enter Tryd.func7, Tryd.ntmps7
  go_wp2_with (first
    | (go_at_call 11; with_reducible refine (ka.out _).mono ?_; rintro e w1 ⟨rfl, h1⟩)
    | (go_at_call 11; with_reducible refine (kb.out _).mono ?_; rintro e w2 ⟨rfl, h2⟩)
    | (go_at_call 11; with_reducible refine (kc.out _).mono ?_; rintro e w3 ⟨rfl, h3⟩)
    | (go_at_call 13; with_reducible refine (kd.out _).mono ?_; rintro e w4 ⟨rfl, h4⟩)
    | (go_at_call 15; with_reducible refine (ke.out _).mono ?_; rintro e w5 ⟨rfl, m5, rfl⟩)
    | (go_at_call 16; with_reducible refine (kf.out _).mono ?_; rintro e w6 ⟨rfl, m6, rfl⟩))
  go_ret
  exact ⟨rfl, by repeat (first | exact Below.refl _ _ | assumption | with_reducible refine Base.below_drewN ?_ _ | (refine Base.below_step ?_ (by assumption)))⟩
end code
end Go.Proofs.YtnjlloiifdkcgaaDoor.Num
