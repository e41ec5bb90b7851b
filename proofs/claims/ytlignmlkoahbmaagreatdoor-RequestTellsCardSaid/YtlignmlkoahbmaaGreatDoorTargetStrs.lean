/-
  What strings.Cut, strings.IndexAny answer where the target's code calls them: at a separator of one byte, and at the two bytes / and ?, of every text, in UTF-8 or not.
-/
import Derived.Test.YtlignmlkoahbmaaGreatDoorShelf
import Derived.Test.YtlignmlkoahbmaaGreatDoorTargetWords
import Derived.Test.YtlignmlkoahbmaaGreatDoorTextTrim
import Derived.WalkKit
import Derived.WalkMore
import Derived.Lib.IndexAny
import Derived.Lib.IndexBytes
import Derived.Lib.CutLaws
import Derived.Lib.QuoteLoop
import Derived.Lib.RuneCount
import Derived.Laws.RangeAny
import Derived.Laws.Runes
import Derived.Deep.LoopGhost
import Derived.Deep.QuietTactic
import Derived.BigQuiet
namespace Go.Proofs.YtlignmlkoahbmaaGreatDoor.Tgt
open Go.RowKit Base Oct Num Txt

def ends2 : ByteArray := ⟨#[47, 63]⟩

theorem encode_two (r : Nat) (h1 : 128 ≤ r) (h2 : r < 2048) : ∃ a b : UInt8, Utf8.encode (r : Int) = ⟨#[a, b]⟩ ∧ 128 ≤ b.toNat := by
  have hv : Utf8.valid (r : Int) = true := by rw [validRune_eq]; simp only [validRune, decide_eq_true_eq]; omega
  refine ⟨UInt8.ofNat (0xC0 + r / 64), UInt8.ofNat (0x80 + r % 64), ?_, ?_⟩
  · unfold Utf8.encode
    have e : ((r : Int)).toNat = r := by omega
    simp only [hv, if_true, e]
    rw [if_neg (by omega), if_pos (by omega)]
  · rw [UInt8.toNat_ofNat_of_lt' (by show _ < 256; omega)]; omega
theorem encode_more (r : Nat) (h2 : 2048 ≤ r) : 3 ≤ (Utf8.encode (r : Int)).size ∧ (Utf8.encode (r : Int)).size ≤ 4 := by
  have e : ((r : Int)).toNat = r := by omega
  unfold Utf8.encode
  simp only [e]
  split
  · rw [if_neg (by omega), if_neg (by omega)]
    split
    · exact ⟨by show 3 ≤ 3; omega, by show 3 ≤ 4; omega⟩
    · exact ⟨by show 3 ≤ 4; omega, by show 4 ≤ 4; omega⟩
  · rw [if_neg (by decide), if_neg (by decide), if_pos (by decide)]
    exact ⟨by show 3 ≤ 3; omega, by show 3 ≤ 4; omega⟩

section code
set_option maxHeartbeats 2000000
set_option maxRecDepth 100000
theorem indexRune_err (w : World) : Calls Tryz.prog 92 #[.string ⟨#[47, 63]⟩, .int .i32 65533] w fun e w' => e = .returned (.int .i64 (-1)) ∧ Below w.heap.size w w' := by
  go_enter Tryz.func92, Tryz.ntmps92
  go_wp2
  go_loopg [5, 6] 2 (fun g _ _ wx => ∃ i : Nat, i + g = 2 ∧ wx = w.iter ⟨#[47, 63]⟩ i)
  case atStart => exact ⟨0, rfl, rfl⟩
  case round =>
    obtain ⟨i, hig, rfl⟩ := hrel
    cases gk with
    | zero =>
      obtain rfl : i = 2 := by omega
      have hnx := fun ty => run_next_end (P := Tryz.prog) w ⟨#[47, 63]⟩ 2 ty (by decide)
      go_wp2
      go_ret
      exact ⟨rfl, (Below.refl _ _).alloc (Nat.le_refl _) _⟩
    | succ g =>
      rcases (by omega : i = 0 ∨ i = 1) with rfl | rfl
      · have hnx := fun ty => run_next_ascii (P := Tryz.prog) w ⟨#[47, 63]⟩ 0 ty (by decide) (by decide)
        rw [show ((ByteArray.mk #[47, 63])[0]'(by decide)).toNat = 47 from rfl] at hnx
        go_wp2
        go_roundg g
        case measure => omega
        case rel => exact ⟨1, by omega, rfl⟩
      · have hnx := fun ty => run_next_ascii (P := Tryz.prog) w ⟨#[47, 63]⟩ 1 ty (by decide) (by decide)
        rw [show ((ByteArray.mk #[47, 63])[1]'(by decide)).toNat = 63 from rfl] at hnx
        go_wp2
        go_roundg g
        case measure => omega
        case rel => exact ⟨2, by omega, rfl⟩

theorem indexRune_high (r : Nat) (w : World) (h1 : 128 ≤ r) (hv : Lib.validRune (r : Int) = true) :
    Calls Tryz.prog 92 #[.string ⟨#[47, 63]⟩, .int .i32 (r : Int)] w fun e w' => e = .returned (.int .i64 (-1)) ∧ Below w.heap.size w w' := by
  by_cases he : r = 65533
  · subst he; exact indexRune_err w
  have t1 : ¬ (r : Int) < 128 := by omega
  have t2 : ((r : Int) == 65533) = false := beq_eq_false_iff_ne.2 (by omega)
  rcases Nat.lt_or_ge r 2048 with hr | hr
  · obtain ⟨a, b, hE, hb⟩ := encode_two r h1 hr
    have t3 : ((63 : Int) != (b.toNat : Int)) = true := bne_iff_ne.2 (by omega)
    clear hr
    have hcv : ∀ w, (convert 21 9 (.int .i32 (r : Int))).run Tryz.prog w = .ok (.string ⟨#[a, b]⟩) w := fun w => by
      rw [run_convert_int_string w 21 9 .i32 (r : Int) (by rw [Tryz.underlying21]; rfl) Tryz.underlying9, hE]
    have m2 : IntKind.i64.wrap 2 = 2 := by decide
    have e0 : (2 : Int) ≤ ((ByteArray.mk #[47, 63]).size : Int) := by decide
    have hib := Lib.hid (fun w => (Tryz.strings_IndexByte ByteArray.empty (b.toNat : Int) w).mono (R := fun e w' => e = .returned (.int .i64 (-1)) ∧ w' = w) fun _ _ h => h)
    have e1 : ∀ h, ((ByteArray.mk #[47, 63])[1]'h).toNat = 63 := fun _ => rfl
    have e2 : ∀ h, ((ByteArray.mk #[a, b])[1]'h) = b := fun _ => rfl
    go_enter Tryz.func92, Tryz.ntmps92
    go_wp2_with (go_at_call 104; with_reducible refine (Tryz.utf8_ValidRune _ _).mono ?_; rintro e w1 ⟨rfl, hw⟩; rw [hw, hv]; clear hw)
    go_step3
    go_wp2
    go_loopw [9, 10] (fun i f wr => i = .int .i64 1 ∧ f = .int .i64 0 ∧ wr = w) (fun _ _ _ => 1)
    case atStart => exact ⟨rfl, rfl, rfl⟩
    case round =>
      obtain ⟨rfl, rfl, rfl⟩ := hrel
      go_wp2_with fail
      go_step3
      go_wp2_with fail
      go_quiet (fail)
      rename_i nq
      have hbq := Lib.hid (show Below wr.heap.size wr (wr.drewN nq) from Base.below_drewN (Below.refl _ _) nq)
      generalize wr.drewN nq = wq at *
      go_wp2_with fail
      go_quiet ((go_at_call 101; exact Calls.quiet_of_same (hib.out _)))
      rename_i nq2
      go_wp2_with fail
      rw [Exit.noGoto_ret]
      show bodyPost Tryz.prog Tryz.f92 (fun e w' => e = .returned (.int .i64 (-1)) ∧ Below wr.heap.size wr w') Exit.ret _ _
      go_ret
      exact ⟨rfl, Base.below_drewN hbq.out _⟩
  · obtain ⟨hz1, hz2⟩ := encode_more r hr
    generalize hE : Utf8.encode (r : Int) = E at *
    have hcv : ∀ w, (convert 21 9 (.int .i32 (r : Int))).run Tryz.prog w = .ok (.string E) w := fun w => by
      rw [run_convert_int_string w 21 9 .i32 (r : Int) (by rw [Tryz.underlying21]; rfl) Tryz.underlying9, hE]
    clear hE
    obtain ⟨n, hn⟩ : ∃ n : Nat, E.size = n + 1 := ⟨E.size - 1, by omega⟩
    have m1 : IntKind.i64.wrap ((E.size : Int) - 1) = (n : Int) := by rw [wrap_in _ (by omega) (by omega)]; omega
    have hn2 : n = 2 ∨ n = 3 := by omega
    clear hn hz1 hz2 hr
    rcases hn2 with rfl | rfl
    · go_enter Tryz.func92, Tryz.ntmps92
      go_wp2_with (go_at_call 104; with_reducible refine (Tryz.utf8_ValidRune _ _).mono ?_; rintro e w1 ⟨rfl, hw⟩; rw [hw, hv]; clear hw)
      go_step3
      go_wp2
      go_loopw [9, 10] (fun i f wr => i = .int .i64 2 ∧ wr = w) (fun _ _ _ => 1)
      case atStart => exact ⟨rfl, rfl⟩
      case round =>
        obtain ⟨rfl, rfl⟩ := hrel
        go_wp2_with fail
        rw [Exit.noGoto_ret]
        show bodyPost Tryz.prog Tryz.f92 (fun e w' => e = .returned (.int .i64 (-1)) ∧ Below wr.heap.size wr w') Exit.ret _ _
        go_ret
        exact ⟨rfl, Below.refl _ _⟩
    · go_enter Tryz.func92, Tryz.ntmps92
      go_wp2_with (go_at_call 104; with_reducible refine (Tryz.utf8_ValidRune _ _).mono ?_; rintro e w1 ⟨rfl, hw⟩; rw [hw, hv]; clear hw)
      go_step3
      go_wp2
      go_loopw [9, 10] (fun i f wr => i = .int .i64 3 ∧ wr = w) (fun _ _ _ => 1)
      case atStart => exact ⟨rfl, rfl⟩
      case round =>
        obtain ⟨rfl, rfl⟩ := hrel
        go_wp2_with fail
        rw [Exit.noGoto_ret]
        show bodyPost Tryz.prog Tryz.f92 (fun e w' => e = .returned (.int .i64 (-1)) ∧ Below wr.heap.size wr w') Exit.ret _ _
        go_ret
        exact ⟨rfl, Below.refl _ _⟩
end code
end Go.Proofs.YtlignmlkoahbmaaGreatDoor.Tgt
