/-
  Layer 2 (number): the statements' helps: what is known, texts of digits, the document's own answers.
-/
import Derived.Test.YtlignmlkoahbmaaGreatDoorNumRef
namespace Go.Proofs.YtlignmlkoahbmaaGreatDoor.Num
open Go.RowKit Base Oct

theorem known_a : readOf 10 9 [48, 48, 55] = (7, 0) := by decide +kernel
theorem known_b : readOf 10 9 [49, 48] = (0, 23) := by decide +kernel
theorem known_c : readOf 10 99 [49, 97] = (0, 22) := by decide +kernel
theorem known_d : readOf 16 255 [102, 70] = (255, 0) := by decide +kernel
theorem known_e : spell 10 (120 : Int).toNat = [49, 50, 48] := by
  rw [spell_ge (by omega) (by decide), spell_ge (by omega) (by decide), spell_lt (by decide)]; decide +kernel
theorem known_f : spell 16 (255 : Int).toNat = [102, 102] := by
  rw [spell_ge (by omega) (by decide), spell_lt (by decide)]; decide +kernel

section code
set_option maxHeartbeats 1000000
theorem rdec_any (most : Int) (hM : most ≤ 9223372036854775807) (s : ByteArray) (w : World) (hs : s.size ≤ maxLen) :
    Calls Tryz.prog 63 #[.string s, .int .i64 most] w fun e w' => e = .returned (.tuple #[.int .i64 (readOf 10 most s.data.toList).1, .int .i64 (readOf 10 most s.data.toList).2]) ∧ w' = w := by
  have h := Lib.hid (fun w => rnumber_any 10 (by omega) most hM s w hs)
  generalize readOf 10 most s.data.toList = R at h ⊢
  go_enter Tryz.func63, Tryz.ntmps63
  go_wp2_with (go_at_call 80; with_reducible refine (h.out _).mono ?_; rintro e w1 ⟨rfl, rfl⟩)
  go_ret2
  exact ⟨rfl, rfl⟩
end code
end Go.Proofs.YtlignmlkoahbmaaGreatDoor.Num
