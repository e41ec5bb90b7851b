/-
  Layer 11 (chunk): the fixed lines that each statement of layer 11 reads first.
-/
import Derived.Test.YtonedklnjkjcgaaDoorChkPut
import Derived.Lib.SlBytesConst
namespace Go.Proofs.YtonedklnjkjcgaaDoor.Chk
open Go.RowKit Base Txt

/-- Two bytes and none, in a slice that was just made. -/
theorem lines_two (w : World) (x y : UInt8) (t u : TypeId) (fr : Nat × Nat) (g1 g2 : Nat) (h1 : g1 = w.heap.size) (h2 : g2 = w.heap.size + 1) :
    Lines ((w.alloc (.cells #[.int .u8 (x.toNat : Int), .int .u8 (y.toNat : Int)] t fr)).alloc (.cells #[.slice (some ⟨g1, 0, none⟩) 2 2, .slice none 0 0] u)) (some ⟨g2, 0, none⟩) 2 [[x, y], []] := by
  subst h1
  have hsz : (w.alloc (.cells #[.int .u8 (x.toNat : Int), .int .u8 (y.toNat : Int)] t fr)).heap.size = w.heap.size + 1 := by simp
  rw [← hsz] at h2
  subst h2
  refine ⟨rfl, fun _ => ⟨_, 0, rfl, by simp, fun k hk => ?_⟩⟩
  rw [Nat.zero_add]
  rcases (by omega : k = 0 ∨ k = 1) with rfl | rfl
  · refine ⟨some ⟨w.heap.size, 0, none⟩, 2, cell_of_row _ _ 0 _ u (0, 0) (heap_alloc_new _ _), ?_⟩
    refine Nums.below (w := w.alloc (.cells #[.int .u8 (x.toNat : Int), .int .u8 (y.toNat : Int)] t fr)) ⟨rfl, fun _ => ⟨w.heap.size, 0, rfl, by simp, fun k hk => ?_⟩⟩ ((Below.refl _ _).alloc (Nat.le_refl _) _)
    rw [Nat.zero_add]
    have hk2 : k < 2 := hk
    rcases (by omega : k = 0 ∨ k = 1) with rfl | rfl
    · exact cell_of_row _ _ 0 _ t fr (heap_alloc_new _ _)
    · exact cell_of_row _ _ 1 _ t fr (heap_alloc_new _ _)
  · exact ⟨none, 0, cell_of_row _ _ 1 _ u (0, 0) (heap_alloc_new _ _), Nums.nil _ _ _⟩

theorem lines_ab (w : World) (t u : TypeId) (fr : Nat × Nat) (g1 g2 : Nat) (h1 : g1 = w.heap.size) (h2 : g2 = w.heap.size + 1) :
    Lines ((w.alloc (.cells #[.int .u8 97, .int .u8 98] t fr)).alloc (.cells #[.slice (some ⟨g1, 0, none⟩) 2 2, .slice none 0 0] u)) (some ⟨g2, 0, none⟩) 2 [[97, 98], []] := lines_two w 97 98 t u fr g1 g2 h1 h2

section code
set_option maxHeartbeats 8000000
set_option maxRecDepth 100000
attribute [local go_sem] Base.some_undef
theorem known_any (w : World) : Calls Tryd.prog 7 #[] w fun e w' => e = .returned (.bool true) ∧ Below w.heap.size w w' := by
  have K1 : Hid (∀ w, Calls Tryd.prog 13 #[.string ⟨#[97, 59, 98]⟩, .int .u32 0, Bnd.bnd 1024 32 8192 65536 32 8 4 20 true true] w fun e w' => e = .returned (.tuple #[.int .i64 10, .int .i64 0]) ∧ Below w.heap.size w w') := Lib.hid fun w => by
    have := size_any ⟨#[97, 59, 98]⟩ 0 (by decide) 1024 32 8192 65536 32 8 4 20 true true (by decide) w (by decide)
    rw [show sizeV (Qk.has 0 27) (Qk.has 0 28) 32 65536 (⟨#[97, 59, 98]⟩ : ByteArray).data.toList = (10, 0) from k1] at this
    exact this
  have K2 : Hid (∀ w, Calls Tryd.prog 13 #[.string ⟨#[48, 120, 97]⟩, .int .u32 0, Bnd.bnd 1024 32 8192 65536 32 8 4 20 true true] w fun e w' => e = .returned (.tuple #[.int .i64 0, .int .i64 400]) ∧ Below w.heap.size w w') := Lib.hid fun w => by
    have := size_any ⟨#[48, 120, 97]⟩ 0 (by decide) 1024 32 8192 65536 32 8 4 20 true true (by decide) w (by decide)
    rw [show sizeV (Qk.has 0 27) (Qk.has 0 28) 32 65536 (⟨#[48, 120, 97]⟩ : ByteArray).data.toList = (0, 400) from k2] at this
    exact this
  have K3 : Hid (∀ w, Calls Tryd.prog 13 #[.string ⟨#[48, 120, 97]⟩, .int .u32 134217728, Bnd.bnd 1024 32 8192 65536 32 8 4 20 true true] w fun e w' => e = .returned (.tuple #[.int .i64 10, .int .i64 0]) ∧ Below w.heap.size w w') := Lib.hid fun w => by
    have := size_any ⟨#[48, 120, 97]⟩ 134217728 (by decide) 1024 32 8192 65536 32 8 4 20 true true (by decide) w (by decide)
    rw [show sizeV (Qk.has 134217728 27) (Qk.has 134217728 28) 32 65536 (⟨#[48, 120, 97]⟩ : ByteArray).data.toList = (10, 0) from k3] at this
    exact this
  have K4 : Hid (∀ (w : World) (a : Option Addr), Lines w a 2 [[97, 98], []] → Calls Tryd.prog 15 #[.slice a 2 2] w fun e w' => ∃ A c, e = .returned (.slice A 10 c) ∧ (convert 22 9 (.slice A 10 c)).run Tryd.prog w' = .ok (.string ⟨#[50, 13, 10, 97, 98, 13, 10, 48, 13, 10]⟩) w' ∧ Below w.heap.size w w') := Lib.hid fun w a h => by
    have := put_any a 2 2 [[97, 98], []] w h (by decide) (by rw [k4]; decide)
    rw [k4] at this
    refine this.mono ?_
    rintro e w' ⟨A, c, rfl, hN, hb⟩
    exact ⟨A, c, rfl, Txt.conv_str w' A 10 c _ hN, hb⟩
  have hcb : ∀ w : World, (convert 22 22 (.slice (some ⟨w.heap.size, 0, none⟩) 2 2)).run Tryd.prog (w.alloc (.cells #[.int .u8 97, .int .u8 98] 5)) = .ok (.slice (some ⟨w.heap.size, 0, none⟩) 2 2) (w.alloc (.cells #[.int .u8 97, .int .u8 98] 5 (2, 3))) := fun w =>
    Lib.run_convert_bytes_const w 22 5 #[.int .u8 97, .int .u8 98] 2 2 Tryd.underlying22 Tryd.underlying5
  go_enter Tryd.func7, Tryd.ntmps7
  go_wp2_with (first
    | (go_at_call 15; (with_reducible refine (K4.out _ _ (lines_ab _ _ _ _ _ _ ?_ ?_)).mono ?_); (· simp); (· simp); rintro e w5 ⟨A, c, rfl, hcv, hb⟩
       have HB5 := Lib.hid (((HA.out.alloc _).alloc _).step hb)
       clear hb)
    | (go_at_call 13; (with_reducible refine (K3.out _).mono ?_); rintro e w4 ⟨rfl, hb⟩
       replace HA := Lib.hid (HA.out.step hb)
       clear hb q0 q1 q2 q3 q4 q5 q6 q7 q8 q9)
    | (go_at_call 13; (with_reducible refine (K2.out _).mono ?_); rintro e w3 ⟨rfl, hb⟩
       replace HA := Lib.hid (HA.out.step hb)
       clear q0 q1 q2 q3 q4 q5 q6 q7 q8 q9
       obtain ⟨⟨q0, q1, q2, q3, q4, q5, q6, q7, q8, q9⟩, hlt, hbk⟩ := HA.out
       clear hb hlt hbk)
    | (go_at_call 13; (with_reducible refine (K1.out _).mono ?_); rintro e w2 ⟨rfl, hb⟩
       have HA := Lib.hid ((BB.new HB1.out 29 1024 32 8192 65536 32 8 4 20 true true).step hb)
       obtain ⟨⟨q0, q1, q2, q3, q4, q5, q6, q7, q8, q9⟩, hlt, hbk⟩ := HA.out
       clear hb hlt hbk)
    | (go_at_call 17; (with_reducible refine (Bnd.rusual_any _).mono ?_); rintro e w1 ⟨rfl, hb⟩
       have HB1 := Lib.hid hb
       clear hb))
  go_ret
  exact ⟨rfl, HB5.out.b⟩
end code
end Go.Proofs.YtonedklnjkjcgaaDoor.Chk
