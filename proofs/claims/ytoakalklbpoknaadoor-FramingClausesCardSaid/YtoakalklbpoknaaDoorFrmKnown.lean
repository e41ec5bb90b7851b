/-
  Layer 10 (framing): the fixed heads that each statement of layer 10 reads first.
-/
import Derived.Test.YtoakalklbpoknaaDoorFrmAll
namespace Go.Proofs.YtoakalklbpoknaaDoor.Frm
open Go.RowKit Base Txt

/-- A block of bounds that the call made, carried through what the call does. -/
structure BB (x0 x1 x2 x3 x4 x5 x6 x7 : Int) (ch od : Bool) (w0 : World) (g : Nat) (w : World) : Prop where
  f : Bnd.At w g x0 x1 x2 x3 x4 x5 x6 x7 ch od
  lt : g < w.heap.size
  b : Below w0.heap.size w0 w
section
variable {x0 x1 x2 x3 x4 x5 x6 x7 : Int} {ch od : Bool} {w0 w w' : World} {g : Nat}
theorem BB.new (hb : Below w0.heap.size w0 w) (t : TypeId) (x0 x1 x2 x3 x4 x5 x6 x7 : Int) (ch od : Bool) :
    BB x0 x1 x2 x3 x4 x5 x6 x7 ch od w0 w.heap.size (w.alloc (.cells #[.int .i64 x0, .int .i64 x1, .int .i64 x2, .int .i64 x3, .int .i64 x4, .int .i64 x5, .int .i64 x6, .int .i64 x7, .bool ch, .bool od] t)) :=
  ⟨Bnd.At.new w t x0 x1 x2 x3 x4 x5 x6 x7 ch od, by simp, hb.alloc hb.size _⟩
theorem BB.step (h : BB x0 x1 x2 x3 x4 x5 x6 x7 ch od w0 g w) (hb : Below w.heap.size w w') : BB x0 x1 x2 x3 x4 x5 x6 x7 ch od w0 g w' :=
  ⟨h.f.below h.lt hb, Nat.lt_of_lt_of_le h.lt hb.size, Base.below_step h.b hb⟩
theorem BB.alloc (h : BB x0 x1 x2 x3 x4 x5 x6 x7 ch od w0 g w) (o : Obj) : BB x0 x1 x2 x3 x4 x5 x6 x7 ch od w0 g (w.alloc o) := h.step ((Below.refl _ _).alloc (Nat.le_refl _) _)
end
/-- A framing's block that the call made. -/
structure GB (w0 : World) (g : Nat) (k l : Int) (w : World) : Prop where
  f : Gb w g k l
  lt : g < w.heap.size
theorem GB.new (w0 w : World) (t : TypeId) (k l : Int) : GB w0 w.heap.size k l (w.alloc (.cells #[.int .i64 k, .int .i64 l] t)) := ⟨Gb.new w t k l, by simp⟩
theorem GB.step {w0 w w' : World} {g : Nat} {k l : Int} (h : GB w0 g k l w) (hb : Below w.heap.size w w') : GB w0 g k l w' := ⟨h.f.below h.lt hb, Nat.lt_of_lt_of_le h.lt hb.size⟩
theorem GB.alloc {w0 w : World} {g : Nat} {k l : Int} (h : GB w0 g k l w) (o : Obj) : GB w0 g k l (w.alloc o) := h.step ((Below.refl _ _).alloc (Nat.le_refl _) _)
/-- A literal slice of fields. -/
theorem Flds.made (w : World) (t : TypeId) (fs : List Fld) (n : Nat) (hn : fs.length = n) (cs : Array Value) (hc : cs = (cells fs).toArray) (g : Nat) (hg : g = w.heap.size) : Flds (w.alloc (.cells cs t)) (some ⟨g, 0, none⟩) n fs := by
  subst hg
  refine Flds.of_cells hn (by simp) fun j hj => ?_
  refine (cell_of_row (w.alloc _) w.heap.size j _ t (0, 0) (heap_alloc_new w _)).trans ?_
  rw [hc, List.getElem?_toArray]

theorem kv1 : decideV (clOf 0) true 65536 1 [(⟨#[104, 111, 115, 116]⟩, ⟨#[97]⟩), (⟨#[99, 111, 110, 116, 101, 110, 116, 45, 108, 101, 110, 103, 116, 104]⟩, ⟨#[53]⟩)] = (1, 5, 0) := by decide +kernel
theorem kv2 : decideV (clOf 0) true 65536 1 [(⟨#[72, 111, 115, 116]⟩, ⟨#[97]⟩), (⟨#[84, 114, 97, 110, 115, 102, 101, 114, 45, 69, 110, 99, 111, 100, 105, 110, 103]⟩, ⟨#[67, 104, 117, 110, 107, 101, 100]⟩)] = (2, 0, 0) := by decide +kernel
theorem kv3 : lengthV (Qk.has 0 23) (Qk.has 0 24) (Qk.has 0 25) (Qk.has 0 26) 9 [⟨#[49, 48]⟩] = (0, 413) := by decide +kernel
theorem kv4 : coding (Qk.has 0 17) (Qk.has 0 18) [⟨#[99, 104, 117, 110, 107, 101, 100]⟩] = true := by decide +kernel
theorem kv5 : coding (Qk.has 0 17) (Qk.has 0 18) [⟨#[103, 122, 105, 112, 44, 32, 99, 104, 117, 110, 107, 101, 100]⟩] = false := by decide +kernel
theorem kv6 : hostsV (Qk.has 0 15) (Qk.has 0 16) 1 (find [] hostN) = 400 := by decide +kernel

section code
set_option maxHeartbeats 8000000
set_option maxRecDepth 100000
attribute [local go_sem] Base.some_undef
theorem known_any (w : World) : Calls Tryd.prog 8 #[] w fun e w' => e = .returned (.bool true) ∧ Below w.heap.size w w' := by
  have K1 : Hid (∀ (w : World) (g : Nat) (hg : g = w.heap.size), Calls Tryd.prog 14 #[.int .u32 0, Bnd.bnd 1024 32 8192 65536 32 8 4 20 true true, .int .i64 1, .slice (some ⟨g, 0, none⟩) 2 2] (w.alloc (.cells #[.string ⟨#[104, 111, 115, 116]⟩, .string ⟨#[97]⟩, .string ⟨#[99, 111, 110, 116, 101, 110, 116, 45, 108, 101, 110, 103, 116, 104]⟩, .string ⟨#[53]⟩] 34)) fun e w' =>
      e = .returned (.tuple #[fr 1 5, .int .i64 0]) ∧ Below (w.alloc (.cells #[.string ⟨#[104, 111, 115, 116]⟩, .string ⟨#[97]⟩, .string ⟨#[99, 111, 110, 116, 101, 110, 116, 45, 108, 101, 110, 103, 116, 104]⟩, .string ⟨#[53]⟩] 34)).heap.size (w.alloc (.cells #[.string ⟨#[104, 111, 115, 116]⟩, .string ⟨#[97]⟩, .string ⟨#[99, 111, 110, 116, 101, 110, 116, 45, 108, 101, 110, 103, 116, 104]⟩, .string ⟨#[53]⟩] 34)) w') := Lib.hid fun w g hg => by
    have := decide_any 0 (by decide) 1024 32 8192 65536 32 8 4 20 true true (by decide) 1 (some ⟨g, 0, none⟩) 2 2 [(⟨#[104, 111, 115, 116]⟩, ⟨#[97]⟩), (⟨#[99, 111, 110, 116, 101, 110, 116, 45, 108, 101, 110, 103, 116, 104]⟩, ⟨#[53]⟩)] _ (Flds.made w 34 _ 2 rfl _ rfl g hg) (by decide) (by decide)
    rw [kv1] at this
    exact this
  have K2 : Hid (∀ (w : World) (g : Nat) (hg : g = w.heap.size), Calls Tryd.prog 14 #[.int .u32 0, Bnd.bnd 1024 32 8192 65536 32 8 4 20 true true, .int .i64 1, .slice (some ⟨g, 0, none⟩) 2 2] (w.alloc (.cells #[.string ⟨#[72, 111, 115, 116]⟩, .string ⟨#[97]⟩, .string ⟨#[84, 114, 97, 110, 115, 102, 101, 114, 45, 69, 110, 99, 111, 100, 105, 110, 103]⟩, .string ⟨#[67, 104, 117, 110, 107, 101, 100]⟩] 34)) fun e w' =>
      e = .returned (.tuple #[fr 2 0, .int .i64 0]) ∧ Below (w.alloc (.cells #[.string ⟨#[72, 111, 115, 116]⟩, .string ⟨#[97]⟩, .string ⟨#[84, 114, 97, 110, 115, 102, 101, 114, 45, 69, 110, 99, 111, 100, 105, 110, 103]⟩, .string ⟨#[67, 104, 117, 110, 107, 101, 100]⟩] 34)).heap.size (w.alloc (.cells #[.string ⟨#[72, 111, 115, 116]⟩, .string ⟨#[97]⟩, .string ⟨#[84, 114, 97, 110, 115, 102, 101, 114, 45, 69, 110, 99, 111, 100, 105, 110, 103]⟩, .string ⟨#[67, 104, 117, 110, 107, 101, 100]⟩] 34)) w') := Lib.hid fun w g hg => by
    have := decide_any 0 (by decide) 1024 32 8192 65536 32 8 4 20 true true (by decide) 1 (some ⟨g, 0, none⟩) 2 2 [(⟨#[72, 111, 115, 116]⟩, ⟨#[97]⟩), (⟨#[84, 114, 97, 110, 115, 102, 101, 114, 45, 69, 110, 99, 111, 100, 105, 110, 103]⟩, ⟨#[67, 104, 117, 110, 107, 101, 100]⟩)] _ (Flds.made w 34 _ 2 rfl _ rfl g hg) (by decide) (by decide)
    rw [kv2] at this
    exact this
  have K3 : Hid (∀ (w : World) (g : Nat) (hg : g = w.heap.size), Calls Tryd.prog 22 #[.int .u32 0, .int .i64 9, .slice (some ⟨g, 0, none⟩) 1 1] (w.alloc (.cells #[.string ⟨#[49, 48]⟩] 9)) fun e w' =>
      e = .returned (.tuple #[.int .i64 0, .int .i64 413]) ∧ Below (w.alloc (.cells #[.string ⟨#[49, 48]⟩] 9)).heap.size (w.alloc (.cells #[.string ⟨#[49, 48]⟩] 9)) w') := Lib.hid fun w g hg => by
    have := length_any 0 (by decide) 9 (by decide) (some ⟨g, 0, none⟩) 1 1 [⟨#[49, 48]⟩] _ (Strs.one w g hg 9 _) (by decide)
    rw [kv3] at this
    exact this
  have K4 : Hid (∀ (w : World) (g : Nat) (hg : g = w.heap.size), Calls Tryd.prog 20 #[.int .u32 0, .slice (some ⟨g, 0, none⟩) 1 1] (w.alloc (.cells #[.string ⟨#[99, 104, 117, 110, 107, 101, 100]⟩] 9)) fun e w' =>
      e = .returned (.bool true) ∧ Below (w.alloc (.cells #[.string ⟨#[99, 104, 117, 110, 107, 101, 100]⟩] 9)).heap.size (w.alloc (.cells #[.string ⟨#[99, 104, 117, 110, 107, 101, 100]⟩] 9)) w') := Lib.hid fun w g hg => by
    have := coding_any 0 (by decide) (some ⟨g, 0, none⟩) 1 1 [⟨#[99, 104, 117, 110, 107, 101, 100]⟩] _ (Strs.one w g hg 9 _) (by decide)
    rw [kv4] at this
    exact this
  have K5 : Hid (∀ (w : World) (g : Nat) (hg : g = w.heap.size), Calls Tryd.prog 20 #[.int .u32 0, .slice (some ⟨g, 0, none⟩) 1 1] (w.alloc (.cells #[.string ⟨#[103, 122, 105, 112, 44, 32, 99, 104, 117, 110, 107, 101, 100]⟩] 9)) fun e w' =>
      e = .returned (.bool false) ∧ Below (w.alloc (.cells #[.string ⟨#[103, 122, 105, 112, 44, 32, 99, 104, 117, 110, 107, 101, 100]⟩] 9)).heap.size (w.alloc (.cells #[.string ⟨#[103, 122, 105, 112, 44, 32, 99, 104, 117, 110, 107, 101, 100]⟩] 9)) w') := Lib.hid fun w g hg => by
    have := coding_any 0 (by decide) (some ⟨g, 0, none⟩) 1 1 [⟨#[103, 122, 105, 112, 44, 32, 99, 104, 117, 110, 107, 101, 100]⟩] _ (Strs.one w g hg 9 _) (by decide)
    rw [kv5] at this
    exact this
  have K6 : Hid (∀ (w : World), Calls Tryd.prog 16 #[.int .u32 0, .int .i64 1, .slice none 0 0] w fun e w' => e = .returned (.int .i64 400) ∧ Below w.heap.size w w') := Lib.hid fun w => by
    have := hosts_any 0 (by decide) 1 none 0 0 [] w (Flds.nil w none) (by decide) (by decide)
    rw [kv6] at this
    exact this
  go_enter Tryd.func8, Tryd.ntmps8
  go_wp2_with (first
    | (go_at_call 16; (with_reducible refine (K6.out _).mono ?_); rintro e w7 ⟨rfl, hb⟩
       replace HA := Lib.hid (HA.out.step hb)
       clear hb)
    | (go_at_call 20; (with_reducible refine (K5.out _ _ ?_).mono ?_); (· simp); rintro e w6 ⟨rfl, hb⟩
       replace HA := Lib.hid ((HA.out.alloc _).step hb)
       clear hb)
    | (go_at_call 20; (with_reducible refine (K4.out _ _ ?_).mono ?_); (· simp); rintro e w5 ⟨rfl, hb⟩
       replace HA := Lib.hid ((HA.out.alloc _).step hb)
       clear hb)
    | (go_at_call 22; (with_reducible refine (K3.out _ _ ?_).mono ?_); (· simp); rintro e w4 ⟨rfl, hb⟩
       have HG2 := Lib.hid (((HG1.out.alloc (.cells #[.int .i64 2, .int .i64 0] 40)).alloc _).step hb)
       have HG3 := Lib.hid (((GB.new w w3 40 2 0).alloc _).step hb)
       replace HA := Lib.hid (((HA.out.alloc (.cells #[.int .i64 2, .int .i64 0] 40)).alloc _).step hb)
       obtain ⟨⟨c0, c1, _, _⟩, _⟩ := HG2.out
       obtain ⟨⟨d0, d1, _, _⟩, _⟩ := HG3.out
       clear hb HG1)
    | (go_at_call 14; (with_reducible refine (K2.out _ _ ?_).mono ?_); (· simp); rintro e w3 ⟨rfl, hb⟩
       clear q0 q1 q2 q3 q4 q5 q6 q7 q8 q9
       have HG1 := Lib.hid (((GB.new w w2 40 1 5).alloc _).step hb)
       replace HA := Lib.hid (((HA.out.alloc (.cells #[.int .i64 1, .int .i64 5] 40)).alloc _).step hb)
       clear hb)
    | (go_at_call 14; (with_reducible refine (K1.out _ _ ?_).mono ?_); (· simp); rintro e w2 ⟨rfl, hb⟩
       have HA := Lib.hid (((BB.new HB1.out 30 1024 32 8192 65536 32 8 4 20 true true).alloc _).step hb)
       have q0 := fun o => (HA.out.alloc o).f.q0
       have q1 := fun o => (HA.out.alloc o).f.q1
       have q2 := fun o => (HA.out.alloc o).f.q2
       have q3 := fun o => (HA.out.alloc o).f.q3
       have q4 := fun o => (HA.out.alloc o).f.q4
       have q5 := fun o => (HA.out.alloc o).f.q5
       have q6 := fun o => (HA.out.alloc o).f.q6
       have q7 := fun o => (HA.out.alloc o).f.q7
       have q8 := fun o => (HA.out.alloc o).f.q8
       have q9 := fun o => (HA.out.alloc o).f.q9
       clear hb)
    | (go_at_call 24; (with_reducible refine (Bnd.rusual_any _).mono ?_); rintro e w1 ⟨rfl, hb⟩
       have HB1 := Lib.hid hb
       clear hb))
  go_ret
  exact ⟨rfl, HA.out.b⟩
end code
end Go.Proofs.YtoakalklbpoknaaDoor.Frm
