/-
  Layer 9 (field): the fixed lines that each statement of layer 9 reads first.
-/
import Derived.Test.YtmbjnolikofaoaaFieldRight
import Derived.Test.YtmbjnolikofaoaaFieldJoin
import Derived.Test.YtmbjnolikofaoaaFieldPut
namespace Go.Proofs.Ytmbjnolikofaoaa.Fd
open Go.RowKit Base Txt Tgt

/-- A field's block that the call made, carried through what the call does. -/
structure At1 (w0 : World) (g : Nat) (n v : ByteArray) (w : World) : Prop where
  f : Fb w g n v
  lt : g < w.heap.size
  b : Below w0.heap.size w0 w
  ge : w0.heap.size ≤ g
theorem At1.new {w0 w : World} (hb : Below w0.heap.size w0 w) (t : TypeId) (n v : ByteArray) : At1 w0 w.heap.size n v (w.alloc (.cells #[.string n, .string v] t)) :=
  ⟨Fb.new w t n v, by simp, hb.alloc hb.size _, hb.size⟩
theorem At1.step {w0 w w' : World} {g : Nat} {n v : ByteArray} (h : At1 w0 g n v w) (hb : Below w.heap.size w w') : At1 w0 g n v w' :=
  ⟨h.f.below h.lt hb, Nat.lt_of_lt_of_le h.lt hb.size, Base.below_step h.b hb, h.ge⟩
theorem At1.alloc {w0 w : World} {g : Nat} {n v : ByteArray} (h : At1 w0 g n v w) (o : Obj) : At1 w0 g n v (w.alloc o) := h.step ((Below.refl _ _).alloc (Nat.le_refl _) _)
theorem At1.old {w0 w : World} {g : Nat} {n v : ByteArray} (h : At1 w0 g n v w) : ∀ o, (w.alloc o).cell? ⟨g, 0, none⟩ = some (.string n) ∧ (w.alloc o).cell? ⟨g, 1, none⟩ = some (.string v) := fun o => ⟨(h.alloc o).f.c0, (h.alloc o).f.c1⟩
theorem Flds.one (w : World) (t : TypeId) (n v : ByteArray) (g : Nat) (hg : g = w.heap.size) : Flds (w.alloc (.cells #[.string n, .string v] t)) (some ⟨g, 0, none⟩) 1 [(n, v)] := by
  subst hg
  have := Fb.new w t n v
  refine ⟨rfl, fun _ => ⟨w.heap.size, 0, rfl, by simp, fun k hk => ?_⟩⟩
  obtain rfl : k = 0 := by omega
  exact ⟨this.c0, this.c1⟩

theorem k1 : parse c0 [65, 58, 32, 32, 98, 32] = some (some ([65], [98])) := by decide +kernel
theorem k2 : parse c0 [65, 32, 58, 32, 98] = none := by decide +kernel
theorem k3 : parse (clOf 512) [65, 32, 58, 32, 98] = some (some ([65], [98])) := by decide +kernel
theorem k4 : goes 8192 [32, 120] = true := by decide +kernel
theorem k5 : goes 0 [32, 120] = false := by decide +kernel
theorem k6 : right [65] [98] = true := by decide +kernel

theorem value_of (x y : ByteArray) (w : World) : (Instr.field 25 (.agg #[.string x, .string y]) 1).run Try.prog w = .ok (.string y) w := by kernel_rfl
section code
set_option maxHeartbeats 4000000
set_option maxRecDepth 100000
attribute [local go_sem] Base.some_undef
theorem known_any (w : World) : Calls Try.prog 7 #[] w fun e w' => e = .returned (.bool true) ∧ Below w.heap.size w w' := by
  have H1 : Hid (∀ w, Calls Try.prog 13 #[.string ⟨#[65, 58, 32, 32, 98, 32]⟩, .int .u32 0] w fun e w' => e = .returned (.tuple #[fv ⟨#[65]⟩ ⟨#[98]⟩, .bool true, .int .i64 0]) ∧ Below w.heap.size w w') := Lib.hid fun w => by
    have := parse0_any ⟨#[65, 58, 32, 32, 98, 32]⟩ w (by decide)
    rw [show (ByteArray.mk #[65, 58, 32, 32, 98, 32]).data.toList = [65, 58, 32, 32, 98, 32] from rfl, k1] at this
    exact this
  have H2 : Hid (∀ w, Calls Try.prog 13 #[.string ⟨#[65, 32, 58, 32, 98]⟩, .int .u32 0] w fun e w' => e = .returned (.tuple #[fv E0 E0, .bool false, .int .i64 400]) ∧ Below w.heap.size w w') := Lib.hid fun w => by
    have := parse0_any ⟨#[65, 32, 58, 32, 98]⟩ w (by decide)
    rw [show (ByteArray.mk #[65, 32, 58, 32, 98]).data.toList = [65, 32, 58, 32, 98] from rfl, k2] at this
    exact this
  have H3 : Hid (∀ w, Calls Try.prog 13 #[.string ⟨#[65, 32, 58, 32, 98]⟩, .int .u32 512] w fun e w' => e = .returned (.tuple #[fv ⟨#[65]⟩ ⟨#[98]⟩, .bool true, .int .i64 0]) ∧ Below w.heap.size w w') := Lib.hid fun w => by
    have := parse_any ⟨#[65, 32, 58, 32, 98]⟩ 512 (by decide) w (by decide)
    rw [show (ByteArray.mk #[65, 32, 58, 32, 98]).data.toList = [65, 32, 58, 32, 98] from rfl, k3] at this
    exact this
  have H4 : Hid (∀ w, Calls Try.prog 15 #[.string ⟨#[32, 120]⟩, .int .u32 8192] w fun e w' => e = .returned (.bool true) ∧ w' = w) := Lib.hid fun w => by
    have := goes_any ⟨#[32, 120]⟩ 8192 (by decide) w
    rw [show (ByteArray.mk #[32, 120]).data.toList = [32, 120] from rfl, k4] at this
    exact this
  have H5 : Hid (∀ w, Calls Try.prog 15 #[.string ⟨#[32, 120]⟩, .int .u32 0] w fun e w' => e = .returned (.bool false) ∧ w' = w) := Lib.hid fun w => by
    have := goes_any ⟨#[32, 120]⟩ 0 (by decide) w
    rw [show (ByteArray.mk #[32, 120]).data.toList = [32, 120] from rfl, k5] at this
    exact this
  have H6 : Hid (∀ w, Calls Try.prog 17 #[fv ⟨#[65]⟩ ⟨#[98]⟩, .string ⟨#[32, 99]⟩] w fun e w' => e = .returned (.agg #[.string ⟨#[65]⟩, .string ⟨#[98, 32, 99]⟩]) ∧ Below w.heap.size w w') := Lib.hid fun w => by
    have := join_any ⟨#[65]⟩ ⟨#[98]⟩ ⟨#[32, 99]⟩ w (by decide) (by decide)
    rw [show ba (joined (ByteArray.mk #[98]).data.toList (ByteArray.mk #[32, 99]).data.toList) = ⟨#[98, 32, 99]⟩ by decide +kernel] at this
    exact this
  have H7 : Hid (∀ w, Calls Try.prog 19 #[fv ⟨#[65]⟩ ⟨#[98]⟩] w fun e w' => e = .returned (.bool true) ∧ Below w.heap.size w w') := Lib.hid fun w => by
    have := right_any ⟨#[65]⟩ ⟨#[98]⟩ w (by decide)
    rw [show right (ByteArray.mk #[65]).data.toList (ByteArray.mk #[98]).data.toList = true from k6] at this
    exact this
  have H8 : Hid (∀ a w, Flds w a 1 [((⟨#[65]⟩ : ByteArray), (⟨#[98]⟩ : ByteArray))] → Calls Try.prog 21 #[.slice a 1 1] w fun e w' => e = .returned (.string ⟨#[65, 58, 32, 98, 13, 10]⟩) ∧ Below w.heap.size w w') := Lib.hid fun a w hv => by
    have := put_any a 1 1 [((⟨#[65]⟩ : ByteArray), (⟨#[98]⟩ : ByteArray))] w hv (by decide) (by decide)
    rw [show ba (put [((⟨#[65]⟩ : ByteArray), (⟨#[98]⟩ : ByteArray))]) = ⟨#[65, 58, 32, 98, 13, 10]⟩ by decide +kernel] at this
    exact this
  have hval := fun w => value_of ⟨#[65]⟩ ⟨#[98, 32, 99]⟩ w
  go_enter Try.func7, Try.ntmps7
  go_wp2_with (first
    | (go_at_call 21; (with_reducible refine (H8.out _ _ (Flds.one _ _ _ _ _ rfl)).mono ?_); rintro e w7 ⟨rfl, hb⟩
       replace A1 := Lib.hid ((A1.out.alloc _).step hb)
       clear hb)
    | (go_at_call 19; (with_reducible refine (H7.out _).mono ?_); rintro e w6 ⟨rfl, hb⟩
       clear c0 c1 z0 z1
       replace A1 := Lib.hid (A1.out.step hb)
       obtain ⟨c0, c1, z0, z1⟩ := A1.out.f
       clear hb)
    | (go_at_call 17; (with_reducible refine (H6.out _).mono ?_); rintro e w5 ⟨rfl, hb⟩
       clear q0 q1
       replace A1 := Lib.hid ((A1.out.alloc _).step hb)
       obtain ⟨c0, c1, z0, z1⟩ := A1.out.f
       clear hb)
    | (go_at_call 15; (with_reducible refine (H4.out _).mono ?_); rintro e w4 ⟨rfl, hw⟩; rw [hw]; clear hw)
    | (go_at_call 15; (with_reducible refine (H5.out _).mono ?_); rintro e w4 ⟨rfl, hw⟩; rw [hw]; clear hw)
    | (go_at_call 13; (with_reducible refine (H3.out _).mono ?_); rintro e w3 ⟨rfl, hb⟩
       replace A1 := Lib.hid ((A1.out.alloc _).step hb)
       have q0 := fun o => (A1.out.old o).1
       have q1 := fun o => (A1.out.old o).2
       clear hb)
    | (go_at_call 13; (with_reducible refine (H2.out _).mono ?_); rintro e w2 ⟨rfl, hb⟩
       have A1 := Lib.hid ((At1.new HB1.out 25 ⟨#[65]⟩ ⟨#[98]⟩).step hb)
       clear hb)
    | (go_at_call 13; (with_reducible refine (H1.out _).mono ?_); rintro e w1 ⟨rfl, hb⟩
       have HB1 := Lib.hid hb
       clear hb))
  go_ret
  exact ⟨rfl, A1.out.b⟩
end code
end Go.Proofs.Ytmbjnolikofaoaa.Fd
