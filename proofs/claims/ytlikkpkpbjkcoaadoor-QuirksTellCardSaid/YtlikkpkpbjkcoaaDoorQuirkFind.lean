/-
  Layer 5 (quirks): contracts, further: the search by name; the statements' own profiles and bounds of few numbers.
-/
import Derived.Test.YtlikkpkpbjkcoaaDoorQuirkLists
import Derived.Test.YtlikkpkpbjkcoaaDoorLists
namespace Go.Proofs.YtlikkpkpbjkcoaaDoor.Qk
open Go.RowKit Base

def foundAt (s : ByteArray) : Int := match findOf s with | some k => (k : Int) | none => 0
def foundIs (s : ByteArray) : Bool := (findOf s).isSome
theorem found_at {s : ByteArray} {k : Nat} (hk : k < 30) (h : nm k = s) : foundAt s = k ∧ foundIs s = true := by
  have := find_first hk h
  unfold foundAt foundIs
  rw [this]
  exact ⟨rfl, rfl⟩
theorem found_no {s : ByteArray} (h : ∀ k, k < 30 → nm k ≠ s) : foundAt s = 0 ∧ foundIs s = false := by
  have : findOf s = none := by
    cases hf : findOf s with
    | none => rfl
    | some k => exact absurd (find_lt hf).2 (h k (find_lt hf).1)
  unfold foundAt foundIs
  rw [this]
  exact ⟨rfl, rfl⟩

section code
set_option maxHeartbeats 1000000
theorem find_any (s : ByteArray) (w : World) (hT : Tab w) : Calls Tryd.prog 16 #[.string s] w fun e w' => e = .returned (.tuple #[.int .i64 (foundAt s), .bool (foundIs s)]) ∧ w' = w := by
  obtain ⟨cs, ty, fr, hh, hsz, hcs⟩ := hT.row
  obtain ⟨i0, hi, _⟩ := info_parts string_info
  have hx : ∀ k : Nat, k < 30 → ∀ wx, (Instr.index 47 (.agg cs) (.int .i64 (k : Int))).run Tryd.prog wx = .ok (.string (nm k)) wx := fun k hk wx =>
    Table.run_index_text Tryd.underlying47 Tryd.underlying9 hi (by kernel_rfl) .i64 k hk _ (hcs k hk) wx
  have HX := Lib.hid hx
  have HF := Lib.hid (fun k hk h => @found_at s k hk h)
  have HN := Lib.hid (@found_no s)
  have HI := Lib.hid (show (Tryd.prog.info? 47).map (·.size) = some cs.size from by rw [hsz]; kernel_rfl)
  clear hx hcs hi hsz
  go_enter Tryd.func16, Tryd.ntmps16
  go_wp2_with (refine wpList_load_row rfl 47 _ rfl 0 rfl ty _ fr _ hh Tryd.underlying47 rfl HI.out ?_)
  clear hh
  go_loopw [7] (fun i wr => ∃ k : Nat, k ≤ 30 ∧ i = .int .i64 k ∧ wr = w ∧ Hid (∀ j, j < k → nm j ≠ s)) (fun i _ => 30 - (intOf i).toNat)
  case atStart => exact ⟨0, Nat.zero_le _, rfl, rfl, Lib.hid (fun j h => by omega)⟩
  case round =>
    obtain ⟨k, hk, rfl, hwr, hno⟩ := hrel
    subst hwr
    rcases Nat.lt_or_ge k 30 with hlt | hge
    · have hk30 : (k : Int) < 30 := by omega
      have hix := HX.out k hlt
      by_cases he : nm k = s
      · obtain ⟨f1, f2⟩ := HF.out k hlt he
        rw [he] at hix
        have F1 := Lib.hid f1; have F2 := Lib.hid f2
        clear he f1 f2
        go_wp2
        go_ret2
        exact ⟨by rw [F1.out, F2.out]; rfl, by first | rfl | trivial⟩
      · have hne := Ls.beq_text he
        have H2 : Hid (∀ j, j < k + 1 → nm j ≠ s) := Lib.hid (fun j hj => by
          rcases Nat.lt_or_ge j k with h | h
          · exact hno.out j h
          · obtain rfl : j = k := by omega
            exact he)
        clear he
        generalize nm k = x at *
        go_wp2
        go_roundw
        case rel => exact ⟨k + 1, by omega, by go_num, by first | rfl | trivial, H2⟩
        case measure => simp [intOf]; omega
    · obtain rfl : k = 30 := by omega
      obtain ⟨f1, f2⟩ := HN.out hno.out
      have F1 := Lib.hid f1; have F2 := Lib.hid f2
      clear f1 f2
      go_wp2
      go_ret2
      exact ⟨by rw [F1.out, F2.out]; rfl, by first | rfl | trivial⟩
theorem rfind_any (s : ByteArray) (w : World) : Calls Tryd.prog 17 #[.string s] w fun e w' => e = .returned (.tuple #[.int .i64 (foundAt s), .bool (foundIs s)]) ∧ Below w.heap.size w w' := by
  have HF := Lib.hid (fun k hk h => @found_at s k hk h)
  have HN := Lib.hid (@found_no s)
  have H := Lib.hid (rnames_any w)
  go_enter Tryd.func17, Tryd.ntmps17
  go_wp2_with (go_at_call 27; with_reducible refine H.out.mono ?_; rintro e w1 ⟨rfl, ⟨_, hn⟩, hb⟩)
  have HX := Lib.hid hn
  have HB := Lib.hid hb
  clear hn hb
  generalize hg : w.heap.size = g at HX ⊢
  have HG := Lib.hid hg
  clear hg
  go_loopw [5] (fun i wr => ∃ k : Nat, k ≤ 30 ∧ i = .int .i64 k ∧ wr = w1 ∧ Hid (∀ j, j < k → nm j ≠ s)) (fun i _ => 30 - (intOf i).toNat)
  case atStart => exact ⟨0, Nat.zero_le _, rfl, rfl, Lib.hid (fun j h => by omega)⟩
  case round =>
    obtain ⟨k, hk, rfl, hwr, hno⟩ := hrel
    subst hwr
    rcases Nat.lt_or_ge k 30 with hlt | hge
    · have hk30 : (k : Int) < 30 := by omega
      have hix := HX.out k hlt
      by_cases he : nm k = s
      · obtain ⟨f1, f2⟩ := HF.out k hlt he
        rw [he] at hix
        have F1 := Lib.hid f1; have F2 := Lib.hid f2
        clear he f1 f2
        go_wp2
        go_ret2
        exact ⟨by rw [F1.out, F2.out]; rfl, by first | exact HB.out | (rw [HG.out] at HB; exact HB.out)⟩
      · have hne := Ls.beq_text he
        have H2 : Hid (∀ j, j < k + 1 → nm j ≠ s) := Lib.hid (fun j hj => by
          rcases Nat.lt_or_ge j k with h | h
          · exact hno.out j h
          · obtain rfl : j = k := by omega
            exact he)
        clear he
        generalize nm k = x at *
        go_wp2
        go_roundw
        case rel => exact ⟨k + 1, by omega, by go_num, by first | rfl | trivial, H2⟩
        case measure => simp [intOf]; omega
    · obtain rfl : k = 30 := by omega
      obtain ⟨f1, f2⟩ := HN.out hno.out
      have F1 := Lib.hid f1; have F2 := Lib.hid f2
      clear f1 f2
      go_wp2
      go_ret2
      exact ⟨by rw [F1.out, F2.out]; rfl, by first | exact HB.out | (rw [HG.out] at HB; exact HB.out)⟩
end code
end Go.Proofs.YtlikkpkpbjkcoaaDoor.Qk
