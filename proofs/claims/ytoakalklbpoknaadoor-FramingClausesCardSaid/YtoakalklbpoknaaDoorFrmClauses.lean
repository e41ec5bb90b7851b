/-
  Layer 10 (framing): the walk of FramingClauses: it returns true, and writes nothing that was there. (Printed by tools/gen_frmclauses.py.)
-/
import Derived.Test.YtoakalklbpoknaaDoorFrmKnown
import Derived.Test.YtoakalklbpoknaaDoorFrmTells
import Derived.Deep.RegionWith
import Derived.Deep.CutBlock
import Derived.Deep.CutRange
import Derived.Deep.DeepCutAuto
namespace Go.Proofs.YtoakalklbpoknaaDoor.Frm
open Go.RowKit Base Txt

theorem has_and (A M : Nat) (j : Int) : Qk.has (A &&& M) j = (Qk.has A j && Qk.has M j) := by
  unfold Qk.has
  rw [Nat.testBit_and]
  cases Qk.known j <;> cases A.testBit j.toNat <;> cases M.testBit j.toNat <;> rfl
theorem has_or (A M : Nat) (j : Int) : Qk.has (A ||| M) j = (Qk.has A j || Qk.has M j) := by
  unfold Qk.has
  rw [Nat.testBit_or]
  cases Qk.known j <;> cases A.testBit j.toNat <;> cases M.testBit j.toNat <;> rfl
theorem has_off (A M1 M2 : Nat) (j : Int) (h : (Qk.has M1 j && Qk.has M2 j) = false) : Qk.has ((A &&& M1) &&& M2) j = false := by
  rw [has_and, has_and, Bool.and_assoc, h, Bool.and_false]
theorem BB.grown {x0 x1 x2 x3 x4 x5 x6 x7 : Int} {ch od : Bool} {w0 w w' : World} {g : Nat} {row : Option Nat} (h : BB x0 x1 x2 x3 x4 x5 x6 x7 ch od w0 g w) (hg : w.grownBy w' row) (hne : row ≠ some g) (hrow : ∀ k, row = some k → w0.heap.size ≤ k) : BB x0 x1 x2 x3 x4 x5 x6 x7 ch od w0 g w' := by
  have hh : w'.heap[g]? = w.heap[g]? := hg.block g h.lt (fun e => hne e.symm)
  have c : ∀ k, w'.cell? ⟨g, k, none⟩ = w.cell? ⟨g, k, none⟩ := fun k => World.cell?_of_block (a := ⟨g, k, none⟩) hh
  obtain ⟨⟨q0, q1, q2, q3, q4, q5, q6, q7, q8, q9⟩, hl, hb⟩ := h
  exact ⟨⟨(c _).trans q0, (c _).trans q1, (c _).trans q2, (c _).trans q3, (c _).trans q4, (c _).trans q5, (c _).trans q6, (c _).trans q7, (c _).trans q8, (c _).trans q9⟩, Nat.lt_of_lt_of_le hl hg.size, hb.grown hg hb.size hrow⟩
theorem news_cells (w : World) (vs : List Value) (t : TypeId) : ∀ (j : Nat) (u : Value), vs[j]? = some u → (w.alloc (.cells vs.toArray t)).cell? (Addr.add ⟨w.heap.size, 0, none⟩ j) = some u := by
  intro j u hu
  have e2 : Addr.add ⟨w.heap.size, 0, none⟩ j = ⟨w.heap.size, j, none⟩ := by
    unfold Addr.add
    by_cases h : j = 0 <;> simp [h]
  rw [e2]
  refine (cell_of_row (w.alloc _) w.heap.size j _ t (0, 0) (heap_alloc_new w _)).trans ?_
  rw [List.getElem?_toArray, hu]
theorem val15 (nh mh tb tl ti td tw lw lp lc lf ll : Bool) : (nh = false → decideV ⟨nh, mh, tb, tl, ti, td, tw, lw, lp, lc, lf, ll⟩ true 65536 1 [] = (0, 0, 400)) ∧ (nh = true → decideV ⟨nh, mh, tb, tl, ti, td, tw, lw, lp, lc, lf, ll⟩ true 65536 1 [] = (1, 0, 0)) := by
  refine ⟨fun h => ?_, fun h => ?_⟩
  · subst h
    cases mh <;> kernel_rfl
  · subst h
    cases mh <;> kernel_rfl
theorem val16 (nh mh tb tl ti td tw lw lp lc lf ll : Bool) : (mh = false → decideV ⟨nh, mh, tb, tl, ti, td, tw, lw, lp, lc, lf, ll⟩ true 65536 1 [(⟨#[72, 111, 115, 116]⟩, ⟨#[97]⟩), (⟨#[104, 111, 115, 116]⟩, ⟨#[98]⟩)] = (0, 0, 400)) ∧ (mh = true → decideV ⟨nh, mh, tb, tl, ti, td, tw, lw, lp, lc, lf, ll⟩ true 65536 1 [(⟨#[72, 111, 115, 116]⟩, ⟨#[97]⟩), (⟨#[104, 111, 115, 116]⟩, ⟨#[98]⟩)] = (1, 0, 0)) := by
  refine ⟨fun h => ?_, fun h => ?_⟩
  · subst h
    kernel_rfl
  · subst h
    kernel_rfl
theorem val23 (nh mh tb tl ti td tw lw lp lc lf ll : Bool) : (lp = false → decideV ⟨nh, mh, tb, tl, ti, td, tw, lw, lp, lc, lf, ll⟩ true 65536 1 [(⟨#[72, 111, 115, 116]⟩, ⟨#[97]⟩), (⟨#[67, 111, 110, 116, 101, 110, 116, 45, 76, 101, 110, 103, 116, 104]⟩, ⟨#[43, 51]⟩)] = (0, 0, 400)) ∧ (lp = true → decideV ⟨nh, mh, tb, tl, ti, td, tw, lw, lp, lc, lf, ll⟩ true 65536 1 [(⟨#[72, 111, 115, 116]⟩, ⟨#[97]⟩), (⟨#[67, 111, 110, 116, 101, 110, 116, 45, 76, 101, 110, 103, 116, 104]⟩, ⟨#[43, 51]⟩)] = (1, 3, 0)) := by
  refine ⟨fun h => ?_, fun h => ?_⟩
  · subst h
    cases lc <;> kernel_rfl
  · subst h
    cases lc <;> kernel_rfl
theorem val24 (nh mh tb tl ti td tw lw lp lc lf ll : Bool) (hlf : lf = false) (hll : ll = false) : (lc = false → decideV ⟨nh, mh, tb, tl, ti, td, tw, lw, lp, lc, lf, ll⟩ true 65536 1 [(⟨#[72, 111, 115, 116]⟩, ⟨#[97]⟩), (⟨#[67, 111, 110, 116, 101, 110, 116, 45, 76, 101, 110, 103, 116, 104]⟩, ⟨#[51]⟩), (⟨#[67, 111, 110, 116, 101, 110, 116, 45, 76, 101, 110, 103, 116, 104]⟩, ⟨#[51]⟩)] = (0, 0, 400)) ∧ (lc = true → decideV ⟨nh, mh, tb, tl, ti, td, tw, lw, lp, lc, lf, ll⟩ true 65536 1 [(⟨#[72, 111, 115, 116]⟩, ⟨#[97]⟩), (⟨#[67, 111, 110, 116, 101, 110, 116, 45, 76, 101, 110, 103, 116, 104]⟩, ⟨#[51]⟩), (⟨#[67, 111, 110, 116, 101, 110, 116, 45, 76, 101, 110, 103, 116, 104]⟩, ⟨#[51]⟩)] = (1, 3, 0)) := by
  subst hlf
  subst hll
  refine ⟨fun h => ?_, fun h => ?_⟩
  · subst h
    cases lp <;> kernel_rfl
  · subst h
    cases lp <;> kernel_rfl
theorem val19 (nh mh tb tl ti td tw lw lp lc lf ll : Bool) : (ti = false → decideV ⟨nh, mh, tb, tl, ti, td, tw, lw, lp, lc, lf, ll⟩ true 65536 1 [(⟨#[72, 111, 115, 116]⟩, ⟨#[97]⟩), (⟨#[84, 114, 97, 110, 115, 102, 101, 114, 45, 69, 110, 99, 111, 100, 105, 110, 103]⟩, ⟨#[98, 114]⟩)] = (0, 0, 501)) ∧ (ti = true → decideV ⟨nh, mh, tb, tl, ti, td, tw, lw, lp, lc, lf, ll⟩ true 65536 1 [(⟨#[72, 111, 115, 116]⟩, ⟨#[97]⟩), (⟨#[84, 114, 97, 110, 115, 102, 101, 114, 45, 69, 110, 99, 111, 100, 105, 110, 103]⟩, ⟨#[98, 114]⟩)] = (1, 0, 0)) := by
  refine ⟨fun h => ?_, fun h => ?_⟩
  · subst h
    cases tb <;> kernel_rfl
  · subst h
    cases tb <;> kernel_rfl
theorem val18 (nh mh tb tl ti td tw lw lp lc lf ll : Bool) (hti : ti = false) : (tl = false → decideV ⟨nh, mh, tb, tl, ti, td, tw, lw, lp, lc, lf, ll⟩ true 65536 1 [(⟨#[72, 111, 115, 116]⟩, ⟨#[97]⟩), (⟨#[84, 114, 97, 110, 115, 102, 101, 114, 45, 69, 110, 99, 111, 100, 105, 110, 103]⟩, ⟨#[98, 114, 44, 32, 99, 104, 117, 110, 107, 101, 100]⟩)] = (0, 0, 501)) ∧ (tl = true → decideV ⟨nh, mh, tb, tl, ti, td, tw, lw, lp, lc, lf, ll⟩ true 65536 1 [(⟨#[72, 111, 115, 116]⟩, ⟨#[97]⟩), (⟨#[84, 114, 97, 110, 115, 102, 101, 114, 45, 69, 110, 99, 111, 100, 105, 110, 103]⟩, ⟨#[98, 114, 44, 32, 99, 104, 117, 110, 107, 101, 100]⟩)] = (2, 0, 0)) := by
  subst hti
  refine ⟨fun h => ?_, fun h => ?_⟩
  · subst h
    cases tb <;> kernel_rfl
  · subst h
    cases tb <;> kernel_rfl
theorem val20 (nh mh tb tl ti td tw lw lp lc lf ll : Bool) : (td = false → decideV ⟨nh, mh, tb, tl, ti, td, tw, lw, lp, lc, lf, ll⟩ true 65536 0 [(⟨#[72, 111, 115, 116]⟩, ⟨#[97]⟩), (⟨#[84, 114, 97, 110, 115, 102, 101, 114, 45, 69, 110, 99, 111, 100, 105, 110, 103]⟩, ⟨#[99, 104, 117, 110, 107, 101, 100]⟩)] = (0, 0, 400)) ∧ (td = true → decideV ⟨nh, mh, tb, tl, ti, td, tw, lw, lp, lc, lf, ll⟩ true 65536 0 [(⟨#[72, 111, 115, 116]⟩, ⟨#[97]⟩), (⟨#[84, 114, 97, 110, 115, 102, 101, 114, 45, 69, 110, 99, 111, 100, 105, 110, 103]⟩, ⟨#[99, 104, 117, 110, 107, 101, 100]⟩)] = (2, 0, 0)) := by
  refine ⟨fun h => ?_, fun h => ?_⟩
  · subst h
    cases tb <;> kernel_rfl
  · subst h
    cases tb <;> kernel_rfl

section code
set_option maxHeartbeats 16000000
set_option maxRecDepth 100000
attribute [local go_sem] Base.some_undef
theorem clauses0 (c : Int) (A a : Nat) (w : World) (hcm : c.tmod 7 = 0) (hm : bits .and .u32 (a : Int) 1073741823 = (A : Int)) (hA : A < 1073741824) :
    Calls Tryd.prog 5 #[.int .u8 c, .int .u32 a] w fun e w' => e = .returned (.bool true) ∧ Below w.heap.size w w' := by
  have hP0 : A &&& 4294934527 < 4294967296 := Nat.lt_of_le_of_lt Nat.and_le_left (by omega)
  have hP : (A &&& 4294934527) &&& 4294967295 < 4294967296 := Nat.lt_of_le_of_lt Nat.and_le_left hP0
  have hQ : ((A &&& 4294934527) &&& 4294967295) ||| 32768 < 4294967296 := Nat.or_lt_two_pow (n := 32) hP (by decide)
  have N1 : bits .andNot .u32 (A : Int) 32768 = ((A &&& 4294934527 : Nat) : Int) := u32_andNot_nat A 32768 (by omega) (by decide)
  have N3 : bits .andNot .u32 ((A &&& 4294934527 : Nat) : Int) 0 = (((A &&& 4294934527) &&& 4294967295 : Nat) : Int) := u32_andNot_nat (A &&& 4294934527) 0 hP0 (by decide)
  have N2 : bits .or .u32 (((A &&& 4294934527) &&& 4294967295 : Nat) : Int) 32768 = ((((A &&& 4294934527) &&& 4294967295) ||| 32768 : Nat) : Int) := u32_or_nat ((A &&& 4294934527) &&& 4294967295) 32768 hP (by decide)
  have E1 : decideV (clOf ((A &&& 4294934527) &&& 4294967295)) true 65536 1 [] = (0, 0, 400) := (val15 (Qk.has ((A &&& 4294934527) &&& 4294967295) 15) (Qk.has ((A &&& 4294934527) &&& 4294967295) 16) (Qk.has ((A &&& 4294934527) &&& 4294967295) 17) (Qk.has ((A &&& 4294934527) &&& 4294967295) 18) (Qk.has ((A &&& 4294934527) &&& 4294967295) 19) (Qk.has ((A &&& 4294934527) &&& 4294967295) 20) (Qk.has ((A &&& 4294934527) &&& 4294967295) 21) (Qk.has ((A &&& 4294934527) &&& 4294967295) 22) (Qk.has ((A &&& 4294934527) &&& 4294967295) 23) (Qk.has ((A &&& 4294934527) &&& 4294967295) 24) (Qk.has ((A &&& 4294934527) &&& 4294967295) 25) (Qk.has ((A &&& 4294934527) &&& 4294967295) 26)).1 (has_off _ _ _ _ (by decide +kernel))
  have E2 : decideV (clOf (((A &&& 4294934527) &&& 4294967295) ||| 32768)) true 65536 1 [] = (1, 0, 0) := (val15 (Qk.has (((A &&& 4294934527) &&& 4294967295) ||| 32768) 15) (Qk.has (((A &&& 4294934527) &&& 4294967295) ||| 32768) 16) (Qk.has (((A &&& 4294934527) &&& 4294967295) ||| 32768) 17) (Qk.has (((A &&& 4294934527) &&& 4294967295) ||| 32768) 18) (Qk.has (((A &&& 4294934527) &&& 4294967295) ||| 32768) 19) (Qk.has (((A &&& 4294934527) &&& 4294967295) ||| 32768) 20) (Qk.has (((A &&& 4294934527) &&& 4294967295) ||| 32768) 21) (Qk.has (((A &&& 4294934527) &&& 4294967295) ||| 32768) 22) (Qk.has (((A &&& 4294934527) &&& 4294967295) ||| 32768) 23) (Qk.has (((A &&& 4294934527) &&& 4294967295) ||| 32768) 24) (Qk.has (((A &&& 4294934527) &&& 4294967295) ||| 32768) 25) (Qk.has (((A &&& 4294934527) &&& 4294967295) ||| 32768) 26)).2 (by rw [has_or, show Qk.has 32768 15 = true from by decide +kernel, Bool.or_true])
  have D1 := Lib.hid (fun (A5 : Option Addr) (c5 : Nat) (w' : World) (hf : Flds w' A5 0 []) => decide_any ((A &&& 4294934527) &&& 4294967295) hP 1024 32 8192 65536 32 8 4 20 true true (by decide) 1 A5 0 c5 [] w' hf (by decide) (by decide))
  have D2 := Lib.hid (fun (A5 : Option Addr) (c5 : Nat) (w' : World) (hf : Flds w' A5 0 []) => decide_any (((A &&& 4294934527) &&& 4294967295) ||| 32768) hQ 1024 32 8192 65536 32 8 4 20 true true (by decide) 1 A5 0 c5 [] w' hf (by decide) (by decide))
  rw [E1] at D1
  rw [E2] at D2
  clear E1 E2 hP hQ hP0 hA
  generalize ((A &&& 4294934527) &&& 4294967295) ||| 32768 = Q at *
  generalize (A &&& 4294934527) &&& 4294967295 = P at *
  generalize A &&& 4294934527 = P0 at *
  have hwr : IntKind.u32.wrap 32768 = 32768 := by decide
  obtain ⟨i0, hi, hz0, hz1, hz2⟩ := info_parts field_info
  have G1 := Lib.hid hi; have G2 := Lib.hid hz0; have G3 := Lib.hid hz1; have G4 := Lib.hid hz2
  clear hi hz0 hz1 hz2
  go_enter Tryd.func5, Tryd.ntmps5
  go_upto_region 8 with (first
    | (go_at_call 24; (with_reducible refine (Bnd.rusual_any _).mono ?_); rintro e w2 ⟨rfl, hb⟩
       have HB2 := Lib.hid (Base.below_step HB1.out hb)
       clear hb)
    | (go_at_call 8; (with_reducible refine (known_any _).mono ?_); rintro e w1 ⟨rfl, hb⟩
       have HB1 := Lib.hid hb
       clear hb))
  have HBB := Lib.hid (((BB.new HB2.out 30 1024 32 8192 65536 32 8 4 20 true true).alloc (.cells #[.int .i64 15, .int .i64 16, .int .i64 23, .int .i64 24, .int .i64 19, .int .i64 18, .int .i64 20] 3)).alloc (.cells #[.string ⟨#[72, 111, 115, 116]⟩, .string ⟨#[97]⟩] 34))
  have HO : Hid ((((w2.alloc (.cells #[.int .i64 1024, .int .i64 32, .int .i64 8192, .int .i64 65536, .int .i64 32, .int .i64 8, .int .i64 4, .int .i64 20, .bool true, .bool true] 30)).alloc (.cells #[.int .i64 15, .int .i64 16, .int .i64 23, .int .i64 24, .int .i64 19, .int .i64 18, .int .i64 20] 3)).alloc (.cells #[.string ⟨#[72, 111, 115, 116]⟩, .string ⟨#[97]⟩] 34)).ownsRow (w2.heap.size + 1 + 1) 34 2 (.slice (some ⟨w2.heap.size + 1 + 1, 0, none⟩) 1 1) 1 [.string ⟨#[72, 111, 115, 116]⟩, .string ⟨#[97]⟩]) := by
    have h := World.ownsRow_lit (base := w2.heap.size + 1 + 1) (e := 34) (size := 2) ((w2.alloc (.cells #[.int .i64 1024, .int .i64 32, .int .i64 8192, .int .i64 65536, .int .i64 32, .int .i64 8, .int .i64 4, .int .i64 20, .bool true, .bool true] 30)).alloc (.cells #[.int .i64 15, .int .i64 16, .int .i64 23, .int .i64 24, .int .i64 19, .int .i64 18, .int .i64 20] 3)) #[.string ⟨#[72, 111, 115, 116]⟩, .string ⟨#[97]⟩] 1 (by simp) (by decide) rfl
    rw [show ((w2.alloc (.cells #[.int .i64 1024, .int .i64 32, .int .i64 8192, .int .i64 65536, .int .i64 32, .int .i64 8, .int .i64 4, .int .i64 20, .bool true, .bool true] 30)).alloc (.cells #[.int .i64 15, .int .i64 16, .int .i64 23, .int .i64 24, .int .i64 19, .int .i64 18, .int .i64 20] 3)).heap.size = w2.heap.size + 1 + 1 by simp] at h
    exact Lib.hid h
  have hsz : w2.heap.size + 1 + 1 + 1 ≤ (((w2.alloc (.cells #[.int .i64 1024, .int .i64 32, .int .i64 8192, .int .i64 65536, .int .i64 32, .int .i64 8, .int .i64 4, .int .i64 20, .bool true, .bool true] 30)).alloc (.cells #[.int .i64 15, .int .i64 16, .int .i64 23, .int .i64 24, .int .i64 19, .int .i64 18, .int .i64 20] 3)).alloc (.cells #[.string ⟨#[72, 111, 115, 116]⟩, .string ⟨#[97]⟩] 34)).heap.size := by simp
  have HGW := Lib.hid (show w.heap.size ≤ w2.heap.size from HB2.out.size)
  generalize ((w2.alloc (.cells #[.int .i64 1024, .int .i64 32, .int .i64 8192, .int .i64 65536, .int .i64 32, .int .i64 8, .int .i64 4, .int .i64 20, .bool true, .bool true] 30)).alloc (.cells #[.int .i64 15, .int .i64 16, .int .i64 23, .int .i64 24, .int .i64 19, .int .i64 18, .int .i64 20] 3)).alloc (.cells #[.string ⟨#[72, 111, 115, 116]⟩, .string ⟨#[97]⟩] 34) = W at *
  generalize w2.heap.size = g at *
  have HW := Lib.hid hsz
  clear hsz HB1 HB2
  have HF := Lib.hid (Flds.nil W none)
  obtain ⟨⟨q0, q1, q2, q3, q4, q5, q6, q7, q8, q9⟩, hlt, hbk⟩ := HBB.out
  clear hlt hbk HO
  go_upto_region 27 with (go_at_call 14; (with_reducible refine (D1.out none 0 _ HF.out).mono ?_); rintro e w6 ⟨rfl, hb⟩
                          clear q0 q1 q2 q3 q4 q5 q6 q7 q8 q9
                          have HBB6 := Lib.hid ((HBB.out.step hb).alloc (.cells #[.int .i64 0, .int .i64 0] 40))
                          have HF6 := Lib.hid (Flds.nil (w6.alloc (.cells #[.int .i64 0, .int .i64 0] 40)) none)
                          clear hb)
  have D3 := Lib.hid (fun w' (hb : Below (w6.alloc (.cells #[.int .i64 0, .int .i64 0] 40)).heap.size (w6.alloc (.cells #[.int .i64 0, .int .i64 0] 40)) w') => D2.out none 0 w' (HF6.out.below hb))
  obtain ⟨⟨q0, q1, q2, q3, q4, q5, q6, q7, q8, q9⟩, hlt, hbk⟩ := HBB6.out
  have HBk := Lib.hid hbk
  clear hbk D1 D2 HBB6 HF6 G1 G2 G3 G4
  generalize w6.alloc (.cells #[.int .i64 0, .int .i64 0] 40) = V at *
  generalize w6.heap.size = gz at *
  go_cut [13, 14] from 81 to 90 (fun p e wx => ∃ gg : Nat, p = .pointer (some ⟨gg, 0, none⟩) ∧ e = .int .i64 0 ∧ Hid (Gb wx gg 1 0) ∧ Hid (Below w.heap.size w wx))
  case first =>
    go_region_with (first
      | (go_at_call 14; (with_reducible refine (D3.out (V.alloc (.cells #[.int .i64 0, .int .i64 0] 40)).drew ((Below.refl _ _).alloc (Nat.le_refl _) _).drew).mono ?_); rintro e w9 ⟨rfl, hb⟩
         have HG9 := Lib.hid ((((Gb.new V 40 0 0).below (by simp) ((Below.refl _ _).drew)).below (by simp) hb))
         obtain ⟨c0, c1, z0, z1⟩ := HG9.out
         have HB9 := Lib.hid (Base.below_step (HBk.out.alloc HBk.out.size (.cells #[.int .i64 0, .int .i64 0] 40)).drew hb)
         clear hb)
      | (go_at_call 14; (with_reducible refine (D3.out V.drew (Below.refl _ _).drew).mono ?_); rintro e w9 ⟨rfl, hb⟩
         have HB9 := Lib.hid (Base.below_step HBk.out.drew hb)
         clear hb))
    all_goals
      go_wp2_with fail
      go_meet
      case rel => first
        | exact ⟨_, rfl, rfl, Lib.hid (Gb.new w9 40 1 0), Lib.hid (HB9.out.alloc HB9.out.size _)⟩
        | (obtain ⟨W9, hW9, hG9, hbW⟩ := Gb.put HG9.out HB9.out HBk.out.size 1 0
           exact ⟨_, rfl, rfl, Lib.hid (hW9 ▸ hG9), Lib.hid (hW9 ▸ hbW)⟩)
  case rest =>
    obtain ⟨gg, rfl, rfl, HGf, HBf⟩ := hcut
    obtain ⟨c0, c1, _, _⟩ := HGf.out
    go_wp2_with fail
    go_ret
    exact ⟨rfl, HBf.out⟩
theorem clauses1 (c : Int) (A a : Nat) (w : World) (hcm : c.tmod 7 = 1) (hm : bits .and .u32 (a : Int) 1073741823 = (A : Int)) (hA : A < 1073741824) :
    Calls Tryd.prog 5 #[.int .u8 c, .int .u32 a] w fun e w' => e = .returned (.bool true) ∧ Below w.heap.size w w' := by
  have hP0 : A &&& 4294901759 < 4294967296 := Nat.lt_of_le_of_lt Nat.and_le_left (by omega)
  have hP : (A &&& 4294901759) &&& 4294967295 < 4294967296 := Nat.lt_of_le_of_lt Nat.and_le_left hP0
  have hQ : ((A &&& 4294901759) &&& 4294967295) ||| 65536 < 4294967296 := Nat.or_lt_two_pow (n := 32) hP (by decide)
  have N1 : bits .andNot .u32 (A : Int) 65536 = ((A &&& 4294901759 : Nat) : Int) := u32_andNot_nat A 65536 (by omega) (by decide)
  have N3 : bits .andNot .u32 ((A &&& 4294901759 : Nat) : Int) 0 = (((A &&& 4294901759) &&& 4294967295 : Nat) : Int) := u32_andNot_nat (A &&& 4294901759) 0 hP0 (by decide)
  have N2 : bits .or .u32 (((A &&& 4294901759) &&& 4294967295 : Nat) : Int) 65536 = ((((A &&& 4294901759) &&& 4294967295) ||| 65536 : Nat) : Int) := u32_or_nat ((A &&& 4294901759) &&& 4294967295) 65536 hP (by decide)
  have E1 : decideV (clOf ((A &&& 4294901759) &&& 4294967295)) true 65536 1 [(⟨#[72, 111, 115, 116]⟩, ⟨#[97]⟩), (⟨#[104, 111, 115, 116]⟩, ⟨#[98]⟩)] = (0, 0, 400) := (val16 (Qk.has ((A &&& 4294901759) &&& 4294967295) 15) (Qk.has ((A &&& 4294901759) &&& 4294967295) 16) (Qk.has ((A &&& 4294901759) &&& 4294967295) 17) (Qk.has ((A &&& 4294901759) &&& 4294967295) 18) (Qk.has ((A &&& 4294901759) &&& 4294967295) 19) (Qk.has ((A &&& 4294901759) &&& 4294967295) 20) (Qk.has ((A &&& 4294901759) &&& 4294967295) 21) (Qk.has ((A &&& 4294901759) &&& 4294967295) 22) (Qk.has ((A &&& 4294901759) &&& 4294967295) 23) (Qk.has ((A &&& 4294901759) &&& 4294967295) 24) (Qk.has ((A &&& 4294901759) &&& 4294967295) 25) (Qk.has ((A &&& 4294901759) &&& 4294967295) 26)).1 (has_off _ _ _ _ (by decide +kernel))
  have E2 : decideV (clOf (((A &&& 4294901759) &&& 4294967295) ||| 65536)) true 65536 1 [(⟨#[72, 111, 115, 116]⟩, ⟨#[97]⟩), (⟨#[104, 111, 115, 116]⟩, ⟨#[98]⟩)] = (1, 0, 0) := (val16 (Qk.has (((A &&& 4294901759) &&& 4294967295) ||| 65536) 15) (Qk.has (((A &&& 4294901759) &&& 4294967295) ||| 65536) 16) (Qk.has (((A &&& 4294901759) &&& 4294967295) ||| 65536) 17) (Qk.has (((A &&& 4294901759) &&& 4294967295) ||| 65536) 18) (Qk.has (((A &&& 4294901759) &&& 4294967295) ||| 65536) 19) (Qk.has (((A &&& 4294901759) &&& 4294967295) ||| 65536) 20) (Qk.has (((A &&& 4294901759) &&& 4294967295) ||| 65536) 21) (Qk.has (((A &&& 4294901759) &&& 4294967295) ||| 65536) 22) (Qk.has (((A &&& 4294901759) &&& 4294967295) ||| 65536) 23) (Qk.has (((A &&& 4294901759) &&& 4294967295) ||| 65536) 24) (Qk.has (((A &&& 4294901759) &&& 4294967295) ||| 65536) 25) (Qk.has (((A &&& 4294901759) &&& 4294967295) ||| 65536) 26)).2 (by rw [has_or, show Qk.has 65536 16 = true from by decide +kernel, Bool.or_true])
  have D1 := Lib.hid (fun (A5 : Option Addr) (c5 : Nat) (w' : World) (hf : Flds w' A5 2 [(⟨#[72, 111, 115, 116]⟩, ⟨#[97]⟩), (⟨#[104, 111, 115, 116]⟩, ⟨#[98]⟩)]) => decide_any ((A &&& 4294901759) &&& 4294967295) hP 1024 32 8192 65536 32 8 4 20 true true (by decide) 1 A5 2 c5 [(⟨#[72, 111, 115, 116]⟩, ⟨#[97]⟩), (⟨#[104, 111, 115, 116]⟩, ⟨#[98]⟩)] w' hf (by decide) (by decide))
  have D2 := Lib.hid (fun (A5 : Option Addr) (c5 : Nat) (w' : World) (hf : Flds w' A5 2 [(⟨#[72, 111, 115, 116]⟩, ⟨#[97]⟩), (⟨#[104, 111, 115, 116]⟩, ⟨#[98]⟩)]) => decide_any (((A &&& 4294901759) &&& 4294967295) ||| 65536) hQ 1024 32 8192 65536 32 8 4 20 true true (by decide) 1 A5 2 c5 [(⟨#[72, 111, 115, 116]⟩, ⟨#[97]⟩), (⟨#[104, 111, 115, 116]⟩, ⟨#[98]⟩)] w' hf (by decide) (by decide))
  rw [E1] at D1
  rw [E2] at D2
  clear E1 E2 hP hQ hP0 hA
  generalize ((A &&& 4294901759) &&& 4294967295) ||| 65536 = Q at *
  generalize (A &&& 4294901759) &&& 4294967295 = P at *
  generalize A &&& 4294901759 = P0 at *
  have hwr : IntKind.u32.wrap 65536 = 65536 := by decide
  obtain ⟨i0, hi, hz0, hz1, hz2⟩ := info_parts field_info
  have G1 := Lib.hid hi; have G2 := Lib.hid hz0; have G3 := Lib.hid hz1; have G4 := Lib.hid hz2
  clear hi hz0 hz1 hz2
  go_enter Tryd.func5, Tryd.ntmps5
  go_upto_region 8 with (first
    | (go_at_call 24; (with_reducible refine (Bnd.rusual_any _).mono ?_); rintro e w2 ⟨rfl, hb⟩
       have HB2 := Lib.hid (Base.below_step HB1.out hb)
       clear hb)
    | (go_at_call 8; (with_reducible refine (known_any _).mono ?_); rintro e w1 ⟨rfl, hb⟩
       have HB1 := Lib.hid hb
       clear hb))
  have HBB := Lib.hid (((BB.new HB2.out 30 1024 32 8192 65536 32 8 4 20 true true).alloc (.cells #[.int .i64 15, .int .i64 16, .int .i64 23, .int .i64 24, .int .i64 19, .int .i64 18, .int .i64 20] 3)).alloc (.cells #[.string ⟨#[72, 111, 115, 116]⟩, .string ⟨#[97]⟩] 34))
  have HO : Hid ((((w2.alloc (.cells #[.int .i64 1024, .int .i64 32, .int .i64 8192, .int .i64 65536, .int .i64 32, .int .i64 8, .int .i64 4, .int .i64 20, .bool true, .bool true] 30)).alloc (.cells #[.int .i64 15, .int .i64 16, .int .i64 23, .int .i64 24, .int .i64 19, .int .i64 18, .int .i64 20] 3)).alloc (.cells #[.string ⟨#[72, 111, 115, 116]⟩, .string ⟨#[97]⟩] 34)).ownsRow (w2.heap.size + 1 + 1) 34 2 (.slice (some ⟨w2.heap.size + 1 + 1, 0, none⟩) 1 1) 1 [.string ⟨#[72, 111, 115, 116]⟩, .string ⟨#[97]⟩]) := by
    have h := World.ownsRow_lit (base := w2.heap.size + 1 + 1) (e := 34) (size := 2) ((w2.alloc (.cells #[.int .i64 1024, .int .i64 32, .int .i64 8192, .int .i64 65536, .int .i64 32, .int .i64 8, .int .i64 4, .int .i64 20, .bool true, .bool true] 30)).alloc (.cells #[.int .i64 15, .int .i64 16, .int .i64 23, .int .i64 24, .int .i64 19, .int .i64 18, .int .i64 20] 3)) #[.string ⟨#[72, 111, 115, 116]⟩, .string ⟨#[97]⟩] 1 (by simp) (by decide) rfl
    rw [show ((w2.alloc (.cells #[.int .i64 1024, .int .i64 32, .int .i64 8192, .int .i64 65536, .int .i64 32, .int .i64 8, .int .i64 4, .int .i64 20, .bool true, .bool true] 30)).alloc (.cells #[.int .i64 15, .int .i64 16, .int .i64 23, .int .i64 24, .int .i64 19, .int .i64 18, .int .i64 20] 3)).heap.size = w2.heap.size + 1 + 1 by simp] at h
    exact Lib.hid h
  have hsz : w2.heap.size + 1 + 1 + 1 ≤ (((w2.alloc (.cells #[.int .i64 1024, .int .i64 32, .int .i64 8192, .int .i64 65536, .int .i64 32, .int .i64 8, .int .i64 4, .int .i64 20, .bool true, .bool true] 30)).alloc (.cells #[.int .i64 15, .int .i64 16, .int .i64 23, .int .i64 24, .int .i64 19, .int .i64 18, .int .i64 20] 3)).alloc (.cells #[.string ⟨#[72, 111, 115, 116]⟩, .string ⟨#[97]⟩] 34)).heap.size := by simp
  have HGW := Lib.hid (show w.heap.size ≤ w2.heap.size from HB2.out.size)
  generalize ((w2.alloc (.cells #[.int .i64 1024, .int .i64 32, .int .i64 8192, .int .i64 65536, .int .i64 32, .int .i64 8, .int .i64 4, .int .i64 20, .bool true, .bool true] 30)).alloc (.cells #[.int .i64 15, .int .i64 16, .int .i64 23, .int .i64 24, .int .i64 19, .int .i64 18, .int .i64 20] 3)).alloc (.cells #[.string ⟨#[72, 111, 115, 116]⟩, .string ⟨#[97]⟩] 34) = W at *
  generalize w2.heap.size = g at *
  have HW := Lib.hid hsz
  clear hsz HB1 HB2
  go_upto_region 27 with (first
    | (go_at_call 14; (with_reducible refine (D1.out A5 c5 _ HF.out).mono ?_); rintro e w6 ⟨rfl, hb⟩
       clear q0 q1 q2 q3 q4 q5 q6 q7 q8 q9
       have HBB6 := Lib.hid ((HBB5.out.step hb).alloc (.cells #[.int .i64 0, .int .i64 0] 40))
       have HF6 := Lib.hid ((HF.out.below hb).below ((Below.refl _ _).alloc (Nat.le_refl _) (.cells #[.int .i64 0, .int .i64 0] 40)))
       clear hb)
    | (at_builtin; refine wpList_append_own _ rfl _ _ 22 rfl (g + 1 + 1) 34 i0 (.agg #[.string ByteArray.empty, .string ByteArray.empty]) 2 32 Tryd.underlying22 G1.out G2.out G3.out G4.out rfl (by decide) _ 1 [.string ⟨#[72, 111, 115, 116]⟩, .string ⟨#[97]⟩] rfl (HO.out.alloc _) ⟨W.heap.size, 0, none⟩ 1 1 [.string ⟨#[104, 111, 115, 116]⟩, .string ⟨#[98]⟩] rfl rfl (news_cells W [.string ⟨#[104, 111, 115, 116]⟩, .string ⟨#[98]⟩] 34) (cells_all_one [(⟨#[104, 111, 115, 116]⟩, ⟨#[98]⟩)]) (by unfold maxLen; omega) (by omega) (by have := HW.out; simp; omega) ?_
       intro v5 w5 hown5 hgr5 _
       have hown6 : w5.ownsRow (g + 1 + 1) 34 2 v5 2 (cells [(⟨#[72, 111, 115, 116]⟩, ⟨#[97]⟩), (⟨#[104, 111, 115, 116]⟩, ⟨#[98]⟩)]) := hown5
       obtain ⟨A5, c5, rfl, hA5⟩ := Flds.of_own hown6
       have HF := Lib.hid hA5
       have HBB5 := Lib.hid ((HBB.out.alloc (.cells #[.string ⟨#[104, 111, 115, 116]⟩, .string ⟨#[98]⟩] 34)).grown hgr5 (fun e => by have h9 : g + 1 + 1 = g := Option.some.inj e; omega) (fun k hk => by have h1 : g + 1 + 1 = k := Option.some.inj hk; have h2 := HGW.out; omega))
       obtain ⟨⟨q0, q1, q2, q3, q4, q5, q6, q7, q8, q9⟩, hlt, hbk⟩ := HBB5.out
       clear hlt hbk hown5 hown6 hgr5 hA5))
  have D3 := Lib.hid (fun w' (hb : Below (w6.alloc (.cells #[.int .i64 0, .int .i64 0] 40)).heap.size (w6.alloc (.cells #[.int .i64 0, .int .i64 0] 40)) w') => D2.out A5 c5 w' (HF6.out.below hb))
  obtain ⟨⟨q0, q1, q2, q3, q4, q5, q6, q7, q8, q9⟩, hlt, hbk⟩ := HBB6.out
  have HBk := Lib.hid hbk
  clear hbk D1 D2 HBB6 HF6 G1 G2 G3 G4
  generalize w6.alloc (.cells #[.int .i64 0, .int .i64 0] 40) = V at *
  generalize w6.heap.size = gz at *
  go_cut [13, 14] from 81 to 90 (fun p e wx => ∃ gg : Nat, p = .pointer (some ⟨gg, 0, none⟩) ∧ e = .int .i64 0 ∧ Hid (Gb wx gg 1 0) ∧ Hid (Below w.heap.size w wx))
  case first =>
    go_region_with (first
      | (go_at_call 14; (with_reducible refine (D3.out (V.alloc (.cells #[.int .i64 0, .int .i64 0] 40)).drew ((Below.refl _ _).alloc (Nat.le_refl _) _).drew).mono ?_); rintro e w9 ⟨rfl, hb⟩
         have HG9 := Lib.hid ((((Gb.new V 40 0 0).below (by simp) ((Below.refl _ _).drew)).below (by simp) hb))
         obtain ⟨c0, c1, z0, z1⟩ := HG9.out
         have HB9 := Lib.hid (Base.below_step (HBk.out.alloc HBk.out.size (.cells #[.int .i64 0, .int .i64 0] 40)).drew hb)
         clear hb)
      | (go_at_call 14; (with_reducible refine (D3.out V.drew (Below.refl _ _).drew).mono ?_); rintro e w9 ⟨rfl, hb⟩
         have HB9 := Lib.hid (Base.below_step HBk.out.drew hb)
         clear hb))
    all_goals
      go_wp2_with fail
      go_meet
      case rel => first
        | exact ⟨_, rfl, rfl, Lib.hid (Gb.new w9 40 1 0), Lib.hid (HB9.out.alloc HB9.out.size _)⟩
        | (obtain ⟨W9, hW9, hG9, hbW⟩ := Gb.put HG9.out HB9.out HBk.out.size 1 0
           exact ⟨_, rfl, rfl, Lib.hid (hW9 ▸ hG9), Lib.hid (hW9 ▸ hbW)⟩)
  case rest =>
    obtain ⟨gg, rfl, rfl, HGf, HBf⟩ := hcut
    obtain ⟨c0, c1, _, _⟩ := HGf.out
    go_wp2_with fail
    go_ret
    exact ⟨rfl, HBf.out⟩
theorem clauses2 (c : Int) (A a : Nat) (w : World) (hcm : c.tmod 7 = 2) (hm : bits .and .u32 (a : Int) 1073741823 = (A : Int)) (hA : A < 1073741824) :
    Calls Tryd.prog 5 #[.int .u8 c, .int .u32 a] w fun e w' => e = .returned (.bool true) ∧ Below w.heap.size w w' := by
  have hP0 : A &&& 4286578687 < 4294967296 := Nat.lt_of_le_of_lt Nat.and_le_left (by omega)
  have hP : (A &&& 4286578687) &&& 4294967295 < 4294967296 := Nat.lt_of_le_of_lt Nat.and_le_left hP0
  have hQ : ((A &&& 4286578687) &&& 4294967295) ||| 8388608 < 4294967296 := Nat.or_lt_two_pow (n := 32) hP (by decide)
  have N1 : bits .andNot .u32 (A : Int) 8388608 = ((A &&& 4286578687 : Nat) : Int) := u32_andNot_nat A 8388608 (by omega) (by decide)
  have N3 : bits .andNot .u32 ((A &&& 4286578687 : Nat) : Int) 0 = (((A &&& 4286578687) &&& 4294967295 : Nat) : Int) := u32_andNot_nat (A &&& 4286578687) 0 hP0 (by decide)
  have N2 : bits .or .u32 (((A &&& 4286578687) &&& 4294967295 : Nat) : Int) 8388608 = ((((A &&& 4286578687) &&& 4294967295) ||| 8388608 : Nat) : Int) := u32_or_nat ((A &&& 4286578687) &&& 4294967295) 8388608 hP (by decide)
  have E1 : decideV (clOf ((A &&& 4286578687) &&& 4294967295)) true 65536 1 [(⟨#[72, 111, 115, 116]⟩, ⟨#[97]⟩), (⟨#[67, 111, 110, 116, 101, 110, 116, 45, 76, 101, 110, 103, 116, 104]⟩, ⟨#[43, 51]⟩)] = (0, 0, 400) := (val23 (Qk.has ((A &&& 4286578687) &&& 4294967295) 15) (Qk.has ((A &&& 4286578687) &&& 4294967295) 16) (Qk.has ((A &&& 4286578687) &&& 4294967295) 17) (Qk.has ((A &&& 4286578687) &&& 4294967295) 18) (Qk.has ((A &&& 4286578687) &&& 4294967295) 19) (Qk.has ((A &&& 4286578687) &&& 4294967295) 20) (Qk.has ((A &&& 4286578687) &&& 4294967295) 21) (Qk.has ((A &&& 4286578687) &&& 4294967295) 22) (Qk.has ((A &&& 4286578687) &&& 4294967295) 23) (Qk.has ((A &&& 4286578687) &&& 4294967295) 24) (Qk.has ((A &&& 4286578687) &&& 4294967295) 25) (Qk.has ((A &&& 4286578687) &&& 4294967295) 26)).1 (has_off _ _ _ _ (by decide +kernel))
  have E2 : decideV (clOf (((A &&& 4286578687) &&& 4294967295) ||| 8388608)) true 65536 1 [(⟨#[72, 111, 115, 116]⟩, ⟨#[97]⟩), (⟨#[67, 111, 110, 116, 101, 110, 116, 45, 76, 101, 110, 103, 116, 104]⟩, ⟨#[43, 51]⟩)] = (1, 3, 0) := (val23 (Qk.has (((A &&& 4286578687) &&& 4294967295) ||| 8388608) 15) (Qk.has (((A &&& 4286578687) &&& 4294967295) ||| 8388608) 16) (Qk.has (((A &&& 4286578687) &&& 4294967295) ||| 8388608) 17) (Qk.has (((A &&& 4286578687) &&& 4294967295) ||| 8388608) 18) (Qk.has (((A &&& 4286578687) &&& 4294967295) ||| 8388608) 19) (Qk.has (((A &&& 4286578687) &&& 4294967295) ||| 8388608) 20) (Qk.has (((A &&& 4286578687) &&& 4294967295) ||| 8388608) 21) (Qk.has (((A &&& 4286578687) &&& 4294967295) ||| 8388608) 22) (Qk.has (((A &&& 4286578687) &&& 4294967295) ||| 8388608) 23) (Qk.has (((A &&& 4286578687) &&& 4294967295) ||| 8388608) 24) (Qk.has (((A &&& 4286578687) &&& 4294967295) ||| 8388608) 25) (Qk.has (((A &&& 4286578687) &&& 4294967295) ||| 8388608) 26)).2 (by rw [has_or, show Qk.has 8388608 23 = true from by decide +kernel, Bool.or_true])
  have D1 := Lib.hid (fun (A5 : Option Addr) (c5 : Nat) (w' : World) (hf : Flds w' A5 2 [(⟨#[72, 111, 115, 116]⟩, ⟨#[97]⟩), (⟨#[67, 111, 110, 116, 101, 110, 116, 45, 76, 101, 110, 103, 116, 104]⟩, ⟨#[43, 51]⟩)]) => decide_any ((A &&& 4286578687) &&& 4294967295) hP 1024 32 8192 65536 32 8 4 20 true true (by decide) 1 A5 2 c5 [(⟨#[72, 111, 115, 116]⟩, ⟨#[97]⟩), (⟨#[67, 111, 110, 116, 101, 110, 116, 45, 76, 101, 110, 103, 116, 104]⟩, ⟨#[43, 51]⟩)] w' hf (by decide) (by decide))
  have D2 := Lib.hid (fun (A5 : Option Addr) (c5 : Nat) (w' : World) (hf : Flds w' A5 2 [(⟨#[72, 111, 115, 116]⟩, ⟨#[97]⟩), (⟨#[67, 111, 110, 116, 101, 110, 116, 45, 76, 101, 110, 103, 116, 104]⟩, ⟨#[43, 51]⟩)]) => decide_any (((A &&& 4286578687) &&& 4294967295) ||| 8388608) hQ 1024 32 8192 65536 32 8 4 20 true true (by decide) 1 A5 2 c5 [(⟨#[72, 111, 115, 116]⟩, ⟨#[97]⟩), (⟨#[67, 111, 110, 116, 101, 110, 116, 45, 76, 101, 110, 103, 116, 104]⟩, ⟨#[43, 51]⟩)] w' hf (by decide) (by decide))
  rw [E1] at D1
  rw [E2] at D2
  clear E1 E2 hP hQ hP0 hA
  generalize ((A &&& 4286578687) &&& 4294967295) ||| 8388608 = Q at *
  generalize (A &&& 4286578687) &&& 4294967295 = P at *
  generalize A &&& 4286578687 = P0 at *
  have hwr : IntKind.u32.wrap 8388608 = 8388608 := by decide
  obtain ⟨i0, hi, hz0, hz1, hz2⟩ := info_parts field_info
  have G1 := Lib.hid hi; have G2 := Lib.hid hz0; have G3 := Lib.hid hz1; have G4 := Lib.hid hz2
  clear hi hz0 hz1 hz2
  go_enter Tryd.func5, Tryd.ntmps5
  go_upto_region 8 with (first
    | (go_at_call 24; (with_reducible refine (Bnd.rusual_any _).mono ?_); rintro e w2 ⟨rfl, hb⟩
       have HB2 := Lib.hid (Base.below_step HB1.out hb)
       clear hb)
    | (go_at_call 8; (with_reducible refine (known_any _).mono ?_); rintro e w1 ⟨rfl, hb⟩
       have HB1 := Lib.hid hb
       clear hb))
  have HBB := Lib.hid (((BB.new HB2.out 30 1024 32 8192 65536 32 8 4 20 true true).alloc (.cells #[.int .i64 15, .int .i64 16, .int .i64 23, .int .i64 24, .int .i64 19, .int .i64 18, .int .i64 20] 3)).alloc (.cells #[.string ⟨#[72, 111, 115, 116]⟩, .string ⟨#[97]⟩] 34))
  have HO : Hid ((((w2.alloc (.cells #[.int .i64 1024, .int .i64 32, .int .i64 8192, .int .i64 65536, .int .i64 32, .int .i64 8, .int .i64 4, .int .i64 20, .bool true, .bool true] 30)).alloc (.cells #[.int .i64 15, .int .i64 16, .int .i64 23, .int .i64 24, .int .i64 19, .int .i64 18, .int .i64 20] 3)).alloc (.cells #[.string ⟨#[72, 111, 115, 116]⟩, .string ⟨#[97]⟩] 34)).ownsRow (w2.heap.size + 1 + 1) 34 2 (.slice (some ⟨w2.heap.size + 1 + 1, 0, none⟩) 1 1) 1 [.string ⟨#[72, 111, 115, 116]⟩, .string ⟨#[97]⟩]) := by
    have h := World.ownsRow_lit (base := w2.heap.size + 1 + 1) (e := 34) (size := 2) ((w2.alloc (.cells #[.int .i64 1024, .int .i64 32, .int .i64 8192, .int .i64 65536, .int .i64 32, .int .i64 8, .int .i64 4, .int .i64 20, .bool true, .bool true] 30)).alloc (.cells #[.int .i64 15, .int .i64 16, .int .i64 23, .int .i64 24, .int .i64 19, .int .i64 18, .int .i64 20] 3)) #[.string ⟨#[72, 111, 115, 116]⟩, .string ⟨#[97]⟩] 1 (by simp) (by decide) rfl
    rw [show ((w2.alloc (.cells #[.int .i64 1024, .int .i64 32, .int .i64 8192, .int .i64 65536, .int .i64 32, .int .i64 8, .int .i64 4, .int .i64 20, .bool true, .bool true] 30)).alloc (.cells #[.int .i64 15, .int .i64 16, .int .i64 23, .int .i64 24, .int .i64 19, .int .i64 18, .int .i64 20] 3)).heap.size = w2.heap.size + 1 + 1 by simp] at h
    exact Lib.hid h
  have hsz : w2.heap.size + 1 + 1 + 1 ≤ (((w2.alloc (.cells #[.int .i64 1024, .int .i64 32, .int .i64 8192, .int .i64 65536, .int .i64 32, .int .i64 8, .int .i64 4, .int .i64 20, .bool true, .bool true] 30)).alloc (.cells #[.int .i64 15, .int .i64 16, .int .i64 23, .int .i64 24, .int .i64 19, .int .i64 18, .int .i64 20] 3)).alloc (.cells #[.string ⟨#[72, 111, 115, 116]⟩, .string ⟨#[97]⟩] 34)).heap.size := by simp
  have HGW := Lib.hid (show w.heap.size ≤ w2.heap.size from HB2.out.size)
  generalize ((w2.alloc (.cells #[.int .i64 1024, .int .i64 32, .int .i64 8192, .int .i64 65536, .int .i64 32, .int .i64 8, .int .i64 4, .int .i64 20, .bool true, .bool true] 30)).alloc (.cells #[.int .i64 15, .int .i64 16, .int .i64 23, .int .i64 24, .int .i64 19, .int .i64 18, .int .i64 20] 3)).alloc (.cells #[.string ⟨#[72, 111, 115, 116]⟩, .string ⟨#[97]⟩] 34) = W at *
  generalize w2.heap.size = g at *
  have HW := Lib.hid hsz
  clear hsz HB1 HB2
  go_upto_region 27 with (first
    | (go_at_call 14; (with_reducible refine (D1.out A5 c5 _ HF.out).mono ?_); rintro e w6 ⟨rfl, hb⟩
       clear q0 q1 q2 q3 q4 q5 q6 q7 q8 q9
       have HBB6 := Lib.hid ((HBB5.out.step hb).alloc (.cells #[.int .i64 0, .int .i64 0] 40))
       have HF6 := Lib.hid ((HF.out.below hb).below ((Below.refl _ _).alloc (Nat.le_refl _) (.cells #[.int .i64 0, .int .i64 0] 40)))
       clear hb)
    | (at_builtin; refine wpList_append_own _ rfl _ _ 22 rfl (g + 1 + 1) 34 i0 (.agg #[.string ByteArray.empty, .string ByteArray.empty]) 2 32 Tryd.underlying22 G1.out G2.out G3.out G4.out rfl (by decide) _ 1 [.string ⟨#[72, 111, 115, 116]⟩, .string ⟨#[97]⟩] rfl (HO.out.alloc _) ⟨W.heap.size, 0, none⟩ 1 1 [.string ⟨#[67, 111, 110, 116, 101, 110, 116, 45, 76, 101, 110, 103, 116, 104]⟩, .string ⟨#[43, 51]⟩] rfl rfl (news_cells W [.string ⟨#[67, 111, 110, 116, 101, 110, 116, 45, 76, 101, 110, 103, 116, 104]⟩, .string ⟨#[43, 51]⟩] 34) (cells_all_one [(⟨#[67, 111, 110, 116, 101, 110, 116, 45, 76, 101, 110, 103, 116, 104]⟩, ⟨#[43, 51]⟩)]) (by unfold maxLen; omega) (by omega) (by have := HW.out; simp; omega) ?_
       intro v5 w5 hown5 hgr5 _
       have hown6 : w5.ownsRow (g + 1 + 1) 34 2 v5 2 (cells [(⟨#[72, 111, 115, 116]⟩, ⟨#[97]⟩), (⟨#[67, 111, 110, 116, 101, 110, 116, 45, 76, 101, 110, 103, 116, 104]⟩, ⟨#[43, 51]⟩)]) := hown5
       obtain ⟨A5, c5, rfl, hA5⟩ := Flds.of_own hown6
       have HF := Lib.hid hA5
       have HBB5 := Lib.hid ((HBB.out.alloc (.cells #[.string ⟨#[67, 111, 110, 116, 101, 110, 116, 45, 76, 101, 110, 103, 116, 104]⟩, .string ⟨#[43, 51]⟩] 34)).grown hgr5 (fun e => by have h9 : g + 1 + 1 = g := Option.some.inj e; omega) (fun k hk => by have h1 : g + 1 + 1 = k := Option.some.inj hk; have h2 := HGW.out; omega))
       obtain ⟨⟨q0, q1, q2, q3, q4, q5, q6, q7, q8, q9⟩, hlt, hbk⟩ := HBB5.out
       clear hlt hbk hown5 hown6 hgr5 hA5))
  have D3 := Lib.hid (fun w' (hb : Below (w6.alloc (.cells #[.int .i64 0, .int .i64 0] 40)).heap.size (w6.alloc (.cells #[.int .i64 0, .int .i64 0] 40)) w') => D2.out A5 c5 w' (HF6.out.below hb))
  obtain ⟨⟨q0, q1, q2, q3, q4, q5, q6, q7, q8, q9⟩, hlt, hbk⟩ := HBB6.out
  have HBk := Lib.hid hbk
  clear hbk D1 D2 HBB6 HF6 G1 G2 G3 G4
  generalize w6.alloc (.cells #[.int .i64 0, .int .i64 0] 40) = V at *
  generalize w6.heap.size = gz at *
  go_cut [13, 14] from 81 to 90 (fun p e wx => ∃ gg : Nat, p = .pointer (some ⟨gg, 0, none⟩) ∧ e = .int .i64 0 ∧ Hid (Gb wx gg 1 3) ∧ Hid (Below w.heap.size w wx))
  case first =>
    go_region_with (first
      | (go_at_call 14; (with_reducible refine (D3.out (V.alloc (.cells #[.int .i64 0, .int .i64 0] 40)).drew ((Below.refl _ _).alloc (Nat.le_refl _) _).drew).mono ?_); rintro e w9 ⟨rfl, hb⟩
         have HG9 := Lib.hid ((((Gb.new V 40 0 0).below (by simp) ((Below.refl _ _).drew)).below (by simp) hb))
         obtain ⟨c0, c1, z0, z1⟩ := HG9.out
         have HB9 := Lib.hid (Base.below_step (HBk.out.alloc HBk.out.size (.cells #[.int .i64 0, .int .i64 0] 40)).drew hb)
         clear hb)
      | (go_at_call 14; (with_reducible refine (D3.out V.drew (Below.refl _ _).drew).mono ?_); rintro e w9 ⟨rfl, hb⟩
         have HB9 := Lib.hid (Base.below_step HBk.out.drew hb)
         clear hb))
    all_goals
      go_wp2_with fail
      go_meet
      case rel => first
        | exact ⟨_, rfl, rfl, Lib.hid (Gb.new w9 40 1 3), Lib.hid (HB9.out.alloc HB9.out.size _)⟩
        | (obtain ⟨W9, hW9, hG9, hbW⟩ := Gb.put HG9.out HB9.out HBk.out.size 1 3
           exact ⟨_, rfl, rfl, Lib.hid (hW9 ▸ hG9), Lib.hid (hW9 ▸ hbW)⟩)
  case rest =>
    obtain ⟨gg, rfl, rfl, HGf, HBf⟩ := hcut
    obtain ⟨c0, c1, _, _⟩ := HGf.out
    go_wp2_with fail
    go_ret
    exact ⟨rfl, HBf.out⟩
theorem clauses3 (c : Int) (A a : Nat) (w : World) (hcm : c.tmod 7 = 3) (hm : bits .and .u32 (a : Int) 1073741823 = (A : Int)) (hA : A < 1073741824) :
    Calls Tryd.prog 5 #[.int .u8 c, .int .u32 a] w fun e w' => e = .returned (.bool true) ∧ Below w.heap.size w w' := by
  have hP0 : A &&& 4278190079 < 4294967296 := Nat.lt_of_le_of_lt Nat.and_le_left (by omega)
  have hP : (A &&& 4278190079) &&& 4194303999 < 4294967296 := Nat.lt_of_le_of_lt Nat.and_le_left hP0
  have hQ : ((A &&& 4278190079) &&& 4194303999) ||| 16777216 < 4294967296 := Nat.or_lt_two_pow (n := 32) hP (by decide)
  have N1 : bits .andNot .u32 (A : Int) 16777216 = ((A &&& 4278190079 : Nat) : Int) := u32_andNot_nat A 16777216 (by omega) (by decide)
  have N3 : bits .andNot .u32 ((A &&& 4278190079 : Nat) : Int) 100663296 = (((A &&& 4278190079) &&& 4194303999 : Nat) : Int) := u32_andNot_nat (A &&& 4278190079) 100663296 hP0 (by decide)
  have N2 : bits .or .u32 (((A &&& 4278190079) &&& 4194303999 : Nat) : Int) 16777216 = ((((A &&& 4278190079) &&& 4194303999) ||| 16777216 : Nat) : Int) := u32_or_nat ((A &&& 4278190079) &&& 4194303999) 16777216 hP (by decide)
  have E1 : decideV (clOf ((A &&& 4278190079) &&& 4194303999)) true 65536 1 [(⟨#[72, 111, 115, 116]⟩, ⟨#[97]⟩), (⟨#[67, 111, 110, 116, 101, 110, 116, 45, 76, 101, 110, 103, 116, 104]⟩, ⟨#[51]⟩), (⟨#[67, 111, 110, 116, 101, 110, 116, 45, 76, 101, 110, 103, 116, 104]⟩, ⟨#[51]⟩)] = (0, 0, 400) := (val24 (Qk.has ((A &&& 4278190079) &&& 4194303999) 15) (Qk.has ((A &&& 4278190079) &&& 4194303999) 16) (Qk.has ((A &&& 4278190079) &&& 4194303999) 17) (Qk.has ((A &&& 4278190079) &&& 4194303999) 18) (Qk.has ((A &&& 4278190079) &&& 4194303999) 19) (Qk.has ((A &&& 4278190079) &&& 4194303999) 20) (Qk.has ((A &&& 4278190079) &&& 4194303999) 21) (Qk.has ((A &&& 4278190079) &&& 4194303999) 22) (Qk.has ((A &&& 4278190079) &&& 4194303999) 23) (Qk.has ((A &&& 4278190079) &&& 4194303999) 24) (Qk.has ((A &&& 4278190079) &&& 4194303999) 25) (Qk.has ((A &&& 4278190079) &&& 4194303999) 26) (by rw [has_off _ _ _ _ (by decide +kernel)]) (by rw [has_off _ _ _ _ (by decide +kernel)])).1 (has_off _ _ _ _ (by decide +kernel))
  have E2 : decideV (clOf (((A &&& 4278190079) &&& 4194303999) ||| 16777216)) true 65536 1 [(⟨#[72, 111, 115, 116]⟩, ⟨#[97]⟩), (⟨#[67, 111, 110, 116, 101, 110, 116, 45, 76, 101, 110, 103, 116, 104]⟩, ⟨#[51]⟩), (⟨#[67, 111, 110, 116, 101, 110, 116, 45, 76, 101, 110, 103, 116, 104]⟩, ⟨#[51]⟩)] = (1, 3, 0) := (val24 (Qk.has (((A &&& 4278190079) &&& 4194303999) ||| 16777216) 15) (Qk.has (((A &&& 4278190079) &&& 4194303999) ||| 16777216) 16) (Qk.has (((A &&& 4278190079) &&& 4194303999) ||| 16777216) 17) (Qk.has (((A &&& 4278190079) &&& 4194303999) ||| 16777216) 18) (Qk.has (((A &&& 4278190079) &&& 4194303999) ||| 16777216) 19) (Qk.has (((A &&& 4278190079) &&& 4194303999) ||| 16777216) 20) (Qk.has (((A &&& 4278190079) &&& 4194303999) ||| 16777216) 21) (Qk.has (((A &&& 4278190079) &&& 4194303999) ||| 16777216) 22) (Qk.has (((A &&& 4278190079) &&& 4194303999) ||| 16777216) 23) (Qk.has (((A &&& 4278190079) &&& 4194303999) ||| 16777216) 24) (Qk.has (((A &&& 4278190079) &&& 4194303999) ||| 16777216) 25) (Qk.has (((A &&& 4278190079) &&& 4194303999) ||| 16777216) 26) (by rw [has_or, has_off _ _ _ _ (by decide +kernel), show Qk.has 16777216 25 = false from by decide +kernel]; rfl) (by rw [has_or, has_off _ _ _ _ (by decide +kernel), show Qk.has 16777216 26 = false from by decide +kernel]; rfl)).2 (by rw [has_or, show Qk.has 16777216 24 = true from by decide +kernel, Bool.or_true])
  have D1 := Lib.hid (fun (A5 : Option Addr) (c5 : Nat) (w' : World) (hf : Flds w' A5 3 [(⟨#[72, 111, 115, 116]⟩, ⟨#[97]⟩), (⟨#[67, 111, 110, 116, 101, 110, 116, 45, 76, 101, 110, 103, 116, 104]⟩, ⟨#[51]⟩), (⟨#[67, 111, 110, 116, 101, 110, 116, 45, 76, 101, 110, 103, 116, 104]⟩, ⟨#[51]⟩)]) => decide_any ((A &&& 4278190079) &&& 4194303999) hP 1024 32 8192 65536 32 8 4 20 true true (by decide) 1 A5 3 c5 [(⟨#[72, 111, 115, 116]⟩, ⟨#[97]⟩), (⟨#[67, 111, 110, 116, 101, 110, 116, 45, 76, 101, 110, 103, 116, 104]⟩, ⟨#[51]⟩), (⟨#[67, 111, 110, 116, 101, 110, 116, 45, 76, 101, 110, 103, 116, 104]⟩, ⟨#[51]⟩)] w' hf (by decide) (by decide))
  have D2 := Lib.hid (fun (A5 : Option Addr) (c5 : Nat) (w' : World) (hf : Flds w' A5 3 [(⟨#[72, 111, 115, 116]⟩, ⟨#[97]⟩), (⟨#[67, 111, 110, 116, 101, 110, 116, 45, 76, 101, 110, 103, 116, 104]⟩, ⟨#[51]⟩), (⟨#[67, 111, 110, 116, 101, 110, 116, 45, 76, 101, 110, 103, 116, 104]⟩, ⟨#[51]⟩)]) => decide_any (((A &&& 4278190079) &&& 4194303999) ||| 16777216) hQ 1024 32 8192 65536 32 8 4 20 true true (by decide) 1 A5 3 c5 [(⟨#[72, 111, 115, 116]⟩, ⟨#[97]⟩), (⟨#[67, 111, 110, 116, 101, 110, 116, 45, 76, 101, 110, 103, 116, 104]⟩, ⟨#[51]⟩), (⟨#[67, 111, 110, 116, 101, 110, 116, 45, 76, 101, 110, 103, 116, 104]⟩, ⟨#[51]⟩)] w' hf (by decide) (by decide))
  rw [E1] at D1
  rw [E2] at D2
  clear E1 E2 hP hQ hP0 hA
  generalize ((A &&& 4278190079) &&& 4194303999) ||| 16777216 = Q at *
  generalize (A &&& 4278190079) &&& 4194303999 = P at *
  generalize A &&& 4278190079 = P0 at *
  have hwr : IntKind.u32.wrap 16777216 = 16777216 := by decide
  obtain ⟨i0, hi, hz0, hz1, hz2⟩ := info_parts field_info
  have G1 := Lib.hid hi; have G2 := Lib.hid hz0; have G3 := Lib.hid hz1; have G4 := Lib.hid hz2
  clear hi hz0 hz1 hz2
  go_enter Tryd.func5, Tryd.ntmps5
  go_upto_region 8 with (first
    | (go_at_call 24; (with_reducible refine (Bnd.rusual_any _).mono ?_); rintro e w2 ⟨rfl, hb⟩
       have HB2 := Lib.hid (Base.below_step HB1.out hb)
       clear hb)
    | (go_at_call 8; (with_reducible refine (known_any _).mono ?_); rintro e w1 ⟨rfl, hb⟩
       have HB1 := Lib.hid hb
       clear hb))
  have HBB := Lib.hid (((BB.new HB2.out 30 1024 32 8192 65536 32 8 4 20 true true).alloc (.cells #[.int .i64 15, .int .i64 16, .int .i64 23, .int .i64 24, .int .i64 19, .int .i64 18, .int .i64 20] 3)).alloc (.cells #[.string ⟨#[72, 111, 115, 116]⟩, .string ⟨#[97]⟩] 34))
  have HO : Hid ((((w2.alloc (.cells #[.int .i64 1024, .int .i64 32, .int .i64 8192, .int .i64 65536, .int .i64 32, .int .i64 8, .int .i64 4, .int .i64 20, .bool true, .bool true] 30)).alloc (.cells #[.int .i64 15, .int .i64 16, .int .i64 23, .int .i64 24, .int .i64 19, .int .i64 18, .int .i64 20] 3)).alloc (.cells #[.string ⟨#[72, 111, 115, 116]⟩, .string ⟨#[97]⟩] 34)).ownsRow (w2.heap.size + 1 + 1) 34 2 (.slice (some ⟨w2.heap.size + 1 + 1, 0, none⟩) 1 1) 1 [.string ⟨#[72, 111, 115, 116]⟩, .string ⟨#[97]⟩]) := by
    have h := World.ownsRow_lit (base := w2.heap.size + 1 + 1) (e := 34) (size := 2) ((w2.alloc (.cells #[.int .i64 1024, .int .i64 32, .int .i64 8192, .int .i64 65536, .int .i64 32, .int .i64 8, .int .i64 4, .int .i64 20, .bool true, .bool true] 30)).alloc (.cells #[.int .i64 15, .int .i64 16, .int .i64 23, .int .i64 24, .int .i64 19, .int .i64 18, .int .i64 20] 3)) #[.string ⟨#[72, 111, 115, 116]⟩, .string ⟨#[97]⟩] 1 (by simp) (by decide) rfl
    rw [show ((w2.alloc (.cells #[.int .i64 1024, .int .i64 32, .int .i64 8192, .int .i64 65536, .int .i64 32, .int .i64 8, .int .i64 4, .int .i64 20, .bool true, .bool true] 30)).alloc (.cells #[.int .i64 15, .int .i64 16, .int .i64 23, .int .i64 24, .int .i64 19, .int .i64 18, .int .i64 20] 3)).heap.size = w2.heap.size + 1 + 1 by simp] at h
    exact Lib.hid h
  have hsz : w2.heap.size + 1 + 1 + 1 ≤ (((w2.alloc (.cells #[.int .i64 1024, .int .i64 32, .int .i64 8192, .int .i64 65536, .int .i64 32, .int .i64 8, .int .i64 4, .int .i64 20, .bool true, .bool true] 30)).alloc (.cells #[.int .i64 15, .int .i64 16, .int .i64 23, .int .i64 24, .int .i64 19, .int .i64 18, .int .i64 20] 3)).alloc (.cells #[.string ⟨#[72, 111, 115, 116]⟩, .string ⟨#[97]⟩] 34)).heap.size := by simp
  have HGW := Lib.hid (show w.heap.size ≤ w2.heap.size from HB2.out.size)
  generalize ((w2.alloc (.cells #[.int .i64 1024, .int .i64 32, .int .i64 8192, .int .i64 65536, .int .i64 32, .int .i64 8, .int .i64 4, .int .i64 20, .bool true, .bool true] 30)).alloc (.cells #[.int .i64 15, .int .i64 16, .int .i64 23, .int .i64 24, .int .i64 19, .int .i64 18, .int .i64 20] 3)).alloc (.cells #[.string ⟨#[72, 111, 115, 116]⟩, .string ⟨#[97]⟩] 34) = W at *
  generalize w2.heap.size = g at *
  have HW := Lib.hid hsz
  clear hsz HB1 HB2
  go_upto_region 27 with (first
    | (go_at_call 14; (with_reducible refine (D1.out A5 c5 _ HF.out).mono ?_); rintro e w6 ⟨rfl, hb⟩
       clear q0 q1 q2 q3 q4 q5 q6 q7 q8 q9
       have HBB6 := Lib.hid ((HBB5.out.step hb).alloc (.cells #[.int .i64 0, .int .i64 0] 40))
       have HF6 := Lib.hid ((HF.out.below hb).below ((Below.refl _ _).alloc (Nat.le_refl _) (.cells #[.int .i64 0, .int .i64 0] 40)))
       clear hb)
    | (at_builtin; refine wpList_append_own _ rfl _ _ 22 rfl (g + 1 + 1) 34 i0 (.agg #[.string ByteArray.empty, .string ByteArray.empty]) 2 32 Tryd.underlying22 G1.out G2.out G3.out G4.out rfl (by decide) _ 1 [.string ⟨#[72, 111, 115, 116]⟩, .string ⟨#[97]⟩] rfl (HO.out.alloc _) ⟨W.heap.size, 0, none⟩ 2 2 [.string ⟨#[67, 111, 110, 116, 101, 110, 116, 45, 76, 101, 110, 103, 116, 104]⟩, .string ⟨#[51]⟩, .string ⟨#[67, 111, 110, 116, 101, 110, 116, 45, 76, 101, 110, 103, 116, 104]⟩, .string ⟨#[51]⟩] rfl rfl (news_cells W [.string ⟨#[67, 111, 110, 116, 101, 110, 116, 45, 76, 101, 110, 103, 116, 104]⟩, .string ⟨#[51]⟩, .string ⟨#[67, 111, 110, 116, 101, 110, 116, 45, 76, 101, 110, 103, 116, 104]⟩, .string ⟨#[51]⟩] 34) (cells_all_one [(⟨#[67, 111, 110, 116, 101, 110, 116, 45, 76, 101, 110, 103, 116, 104]⟩, ⟨#[51]⟩), (⟨#[67, 111, 110, 116, 101, 110, 116, 45, 76, 101, 110, 103, 116, 104]⟩, ⟨#[51]⟩)]) (by unfold maxLen; omega) (by omega) (by have := HW.out; simp; omega) ?_
       intro v5 w5 hown5 hgr5 _
       have hown6 : w5.ownsRow (g + 1 + 1) 34 2 v5 3 (cells [(⟨#[72, 111, 115, 116]⟩, ⟨#[97]⟩), (⟨#[67, 111, 110, 116, 101, 110, 116, 45, 76, 101, 110, 103, 116, 104]⟩, ⟨#[51]⟩), (⟨#[67, 111, 110, 116, 101, 110, 116, 45, 76, 101, 110, 103, 116, 104]⟩, ⟨#[51]⟩)]) := hown5
       obtain ⟨A5, c5, rfl, hA5⟩ := Flds.of_own hown6
       have HF := Lib.hid hA5
       have HBB5 := Lib.hid ((HBB.out.alloc (.cells #[.string ⟨#[67, 111, 110, 116, 101, 110, 116, 45, 76, 101, 110, 103, 116, 104]⟩, .string ⟨#[51]⟩, .string ⟨#[67, 111, 110, 116, 101, 110, 116, 45, 76, 101, 110, 103, 116, 104]⟩, .string ⟨#[51]⟩] 34)).grown hgr5 (fun e => by have h9 : g + 1 + 1 = g := Option.some.inj e; omega) (fun k hk => by have h1 : g + 1 + 1 = k := Option.some.inj hk; have h2 := HGW.out; omega))
       obtain ⟨⟨q0, q1, q2, q3, q4, q5, q6, q7, q8, q9⟩, hlt, hbk⟩ := HBB5.out
       clear hlt hbk hown5 hown6 hgr5 hA5))
  have D3 := Lib.hid (fun w' (hb : Below (w6.alloc (.cells #[.int .i64 0, .int .i64 0] 40)).heap.size (w6.alloc (.cells #[.int .i64 0, .int .i64 0] 40)) w') => D2.out A5 c5 w' (HF6.out.below hb))
  obtain ⟨⟨q0, q1, q2, q3, q4, q5, q6, q7, q8, q9⟩, hlt, hbk⟩ := HBB6.out
  have HBk := Lib.hid hbk
  clear hbk D1 D2 HBB6 HF6 G1 G2 G3 G4
  generalize w6.alloc (.cells #[.int .i64 0, .int .i64 0] 40) = V at *
  generalize w6.heap.size = gz at *
  go_cut [13, 14] from 81 to 90 (fun p e wx => ∃ gg : Nat, p = .pointer (some ⟨gg, 0, none⟩) ∧ e = .int .i64 0 ∧ Hid (Gb wx gg 1 3) ∧ Hid (Below w.heap.size w wx))
  case first =>
    go_region_with (first
      | (go_at_call 14; (with_reducible refine (D3.out (V.alloc (.cells #[.int .i64 0, .int .i64 0] 40)).drew ((Below.refl _ _).alloc (Nat.le_refl _) _).drew).mono ?_); rintro e w9 ⟨rfl, hb⟩
         have HG9 := Lib.hid ((((Gb.new V 40 0 0).below (by simp) ((Below.refl _ _).drew)).below (by simp) hb))
         obtain ⟨c0, c1, z0, z1⟩ := HG9.out
         have HB9 := Lib.hid (Base.below_step (HBk.out.alloc HBk.out.size (.cells #[.int .i64 0, .int .i64 0] 40)).drew hb)
         clear hb)
      | (go_at_call 14; (with_reducible refine (D3.out V.drew (Below.refl _ _).drew).mono ?_); rintro e w9 ⟨rfl, hb⟩
         have HB9 := Lib.hid (Base.below_step HBk.out.drew hb)
         clear hb))
    all_goals
      go_wp2_with fail
      go_meet
      case rel => first
        | exact ⟨_, rfl, rfl, Lib.hid (Gb.new w9 40 1 3), Lib.hid (HB9.out.alloc HB9.out.size _)⟩
        | (obtain ⟨W9, hW9, hG9, hbW⟩ := Gb.put HG9.out HB9.out HBk.out.size 1 3
           exact ⟨_, rfl, rfl, Lib.hid (hW9 ▸ hG9), Lib.hid (hW9 ▸ hbW)⟩)
  case rest =>
    obtain ⟨gg, rfl, rfl, HGf, HBf⟩ := hcut
    obtain ⟨c0, c1, _, _⟩ := HGf.out
    go_wp2_with fail
    go_ret
    exact ⟨rfl, HBf.out⟩
theorem clauses4 (c : Int) (A a : Nat) (w : World) (hcm : c.tmod 7 = 4) (hm : bits .and .u32 (a : Int) 1073741823 = (A : Int)) (hA : A < 1073741824) :
    Calls Tryd.prog 5 #[.int .u8 c, .int .u32 a] w fun e w' => e = .returned (.bool true) ∧ Below w.heap.size w w' := by
  have hP0 : A &&& 4294443007 < 4294967296 := Nat.lt_of_le_of_lt Nat.and_le_left (by omega)
  have hP : (A &&& 4294443007) &&& 4294967295 < 4294967296 := Nat.lt_of_le_of_lt Nat.and_le_left hP0
  have hQ : ((A &&& 4294443007) &&& 4294967295) ||| 524288 < 4294967296 := Nat.or_lt_two_pow (n := 32) hP (by decide)
  have N1 : bits .andNot .u32 (A : Int) 524288 = ((A &&& 4294443007 : Nat) : Int) := u32_andNot_nat A 524288 (by omega) (by decide)
  have N3 : bits .andNot .u32 ((A &&& 4294443007 : Nat) : Int) 0 = (((A &&& 4294443007) &&& 4294967295 : Nat) : Int) := u32_andNot_nat (A &&& 4294443007) 0 hP0 (by decide)
  have N2 : bits .or .u32 (((A &&& 4294443007) &&& 4294967295 : Nat) : Int) 524288 = ((((A &&& 4294443007) &&& 4294967295) ||| 524288 : Nat) : Int) := u32_or_nat ((A &&& 4294443007) &&& 4294967295) 524288 hP (by decide)
  have E1 : decideV (clOf ((A &&& 4294443007) &&& 4294967295)) true 65536 1 [(⟨#[72, 111, 115, 116]⟩, ⟨#[97]⟩), (⟨#[84, 114, 97, 110, 115, 102, 101, 114, 45, 69, 110, 99, 111, 100, 105, 110, 103]⟩, ⟨#[98, 114]⟩)] = (0, 0, 501) := (val19 (Qk.has ((A &&& 4294443007) &&& 4294967295) 15) (Qk.has ((A &&& 4294443007) &&& 4294967295) 16) (Qk.has ((A &&& 4294443007) &&& 4294967295) 17) (Qk.has ((A &&& 4294443007) &&& 4294967295) 18) (Qk.has ((A &&& 4294443007) &&& 4294967295) 19) (Qk.has ((A &&& 4294443007) &&& 4294967295) 20) (Qk.has ((A &&& 4294443007) &&& 4294967295) 21) (Qk.has ((A &&& 4294443007) &&& 4294967295) 22) (Qk.has ((A &&& 4294443007) &&& 4294967295) 23) (Qk.has ((A &&& 4294443007) &&& 4294967295) 24) (Qk.has ((A &&& 4294443007) &&& 4294967295) 25) (Qk.has ((A &&& 4294443007) &&& 4294967295) 26)).1 (has_off _ _ _ _ (by decide +kernel))
  have E2 : decideV (clOf (((A &&& 4294443007) &&& 4294967295) ||| 524288)) true 65536 1 [(⟨#[72, 111, 115, 116]⟩, ⟨#[97]⟩), (⟨#[84, 114, 97, 110, 115, 102, 101, 114, 45, 69, 110, 99, 111, 100, 105, 110, 103]⟩, ⟨#[98, 114]⟩)] = (1, 0, 0) := (val19 (Qk.has (((A &&& 4294443007) &&& 4294967295) ||| 524288) 15) (Qk.has (((A &&& 4294443007) &&& 4294967295) ||| 524288) 16) (Qk.has (((A &&& 4294443007) &&& 4294967295) ||| 524288) 17) (Qk.has (((A &&& 4294443007) &&& 4294967295) ||| 524288) 18) (Qk.has (((A &&& 4294443007) &&& 4294967295) ||| 524288) 19) (Qk.has (((A &&& 4294443007) &&& 4294967295) ||| 524288) 20) (Qk.has (((A &&& 4294443007) &&& 4294967295) ||| 524288) 21) (Qk.has (((A &&& 4294443007) &&& 4294967295) ||| 524288) 22) (Qk.has (((A &&& 4294443007) &&& 4294967295) ||| 524288) 23) (Qk.has (((A &&& 4294443007) &&& 4294967295) ||| 524288) 24) (Qk.has (((A &&& 4294443007) &&& 4294967295) ||| 524288) 25) (Qk.has (((A &&& 4294443007) &&& 4294967295) ||| 524288) 26)).2 (by rw [has_or, show Qk.has 524288 19 = true from by decide +kernel, Bool.or_true])
  have D1 := Lib.hid (fun (A5 : Option Addr) (c5 : Nat) (w' : World) (hf : Flds w' A5 2 [(⟨#[72, 111, 115, 116]⟩, ⟨#[97]⟩), (⟨#[84, 114, 97, 110, 115, 102, 101, 114, 45, 69, 110, 99, 111, 100, 105, 110, 103]⟩, ⟨#[98, 114]⟩)]) => decide_any ((A &&& 4294443007) &&& 4294967295) hP 1024 32 8192 65536 32 8 4 20 true true (by decide) 1 A5 2 c5 [(⟨#[72, 111, 115, 116]⟩, ⟨#[97]⟩), (⟨#[84, 114, 97, 110, 115, 102, 101, 114, 45, 69, 110, 99, 111, 100, 105, 110, 103]⟩, ⟨#[98, 114]⟩)] w' hf (by decide) (by decide))
  have D2 := Lib.hid (fun (A5 : Option Addr) (c5 : Nat) (w' : World) (hf : Flds w' A5 2 [(⟨#[72, 111, 115, 116]⟩, ⟨#[97]⟩), (⟨#[84, 114, 97, 110, 115, 102, 101, 114, 45, 69, 110, 99, 111, 100, 105, 110, 103]⟩, ⟨#[98, 114]⟩)]) => decide_any (((A &&& 4294443007) &&& 4294967295) ||| 524288) hQ 1024 32 8192 65536 32 8 4 20 true true (by decide) 1 A5 2 c5 [(⟨#[72, 111, 115, 116]⟩, ⟨#[97]⟩), (⟨#[84, 114, 97, 110, 115, 102, 101, 114, 45, 69, 110, 99, 111, 100, 105, 110, 103]⟩, ⟨#[98, 114]⟩)] w' hf (by decide) (by decide))
  rw [E1] at D1
  rw [E2] at D2
  clear E1 E2 hP hQ hP0 hA
  generalize ((A &&& 4294443007) &&& 4294967295) ||| 524288 = Q at *
  generalize (A &&& 4294443007) &&& 4294967295 = P at *
  generalize A &&& 4294443007 = P0 at *
  have hwr : IntKind.u32.wrap 524288 = 524288 := by decide
  obtain ⟨i0, hi, hz0, hz1, hz2⟩ := info_parts field_info
  have G1 := Lib.hid hi; have G2 := Lib.hid hz0; have G3 := Lib.hid hz1; have G4 := Lib.hid hz2
  clear hi hz0 hz1 hz2
  go_enter Tryd.func5, Tryd.ntmps5
  go_upto_region 8 with (first
    | (go_at_call 24; (with_reducible refine (Bnd.rusual_any _).mono ?_); rintro e w2 ⟨rfl, hb⟩
       have HB2 := Lib.hid (Base.below_step HB1.out hb)
       clear hb)
    | (go_at_call 8; (with_reducible refine (known_any _).mono ?_); rintro e w1 ⟨rfl, hb⟩
       have HB1 := Lib.hid hb
       clear hb))
  have HBB := Lib.hid (((BB.new HB2.out 30 1024 32 8192 65536 32 8 4 20 true true).alloc (.cells #[.int .i64 15, .int .i64 16, .int .i64 23, .int .i64 24, .int .i64 19, .int .i64 18, .int .i64 20] 3)).alloc (.cells #[.string ⟨#[72, 111, 115, 116]⟩, .string ⟨#[97]⟩] 34))
  have HO : Hid ((((w2.alloc (.cells #[.int .i64 1024, .int .i64 32, .int .i64 8192, .int .i64 65536, .int .i64 32, .int .i64 8, .int .i64 4, .int .i64 20, .bool true, .bool true] 30)).alloc (.cells #[.int .i64 15, .int .i64 16, .int .i64 23, .int .i64 24, .int .i64 19, .int .i64 18, .int .i64 20] 3)).alloc (.cells #[.string ⟨#[72, 111, 115, 116]⟩, .string ⟨#[97]⟩] 34)).ownsRow (w2.heap.size + 1 + 1) 34 2 (.slice (some ⟨w2.heap.size + 1 + 1, 0, none⟩) 1 1) 1 [.string ⟨#[72, 111, 115, 116]⟩, .string ⟨#[97]⟩]) := by
    have h := World.ownsRow_lit (base := w2.heap.size + 1 + 1) (e := 34) (size := 2) ((w2.alloc (.cells #[.int .i64 1024, .int .i64 32, .int .i64 8192, .int .i64 65536, .int .i64 32, .int .i64 8, .int .i64 4, .int .i64 20, .bool true, .bool true] 30)).alloc (.cells #[.int .i64 15, .int .i64 16, .int .i64 23, .int .i64 24, .int .i64 19, .int .i64 18, .int .i64 20] 3)) #[.string ⟨#[72, 111, 115, 116]⟩, .string ⟨#[97]⟩] 1 (by simp) (by decide) rfl
    rw [show ((w2.alloc (.cells #[.int .i64 1024, .int .i64 32, .int .i64 8192, .int .i64 65536, .int .i64 32, .int .i64 8, .int .i64 4, .int .i64 20, .bool true, .bool true] 30)).alloc (.cells #[.int .i64 15, .int .i64 16, .int .i64 23, .int .i64 24, .int .i64 19, .int .i64 18, .int .i64 20] 3)).heap.size = w2.heap.size + 1 + 1 by simp] at h
    exact Lib.hid h
  have hsz : w2.heap.size + 1 + 1 + 1 ≤ (((w2.alloc (.cells #[.int .i64 1024, .int .i64 32, .int .i64 8192, .int .i64 65536, .int .i64 32, .int .i64 8, .int .i64 4, .int .i64 20, .bool true, .bool true] 30)).alloc (.cells #[.int .i64 15, .int .i64 16, .int .i64 23, .int .i64 24, .int .i64 19, .int .i64 18, .int .i64 20] 3)).alloc (.cells #[.string ⟨#[72, 111, 115, 116]⟩, .string ⟨#[97]⟩] 34)).heap.size := by simp
  have HGW := Lib.hid (show w.heap.size ≤ w2.heap.size from HB2.out.size)
  generalize ((w2.alloc (.cells #[.int .i64 1024, .int .i64 32, .int .i64 8192, .int .i64 65536, .int .i64 32, .int .i64 8, .int .i64 4, .int .i64 20, .bool true, .bool true] 30)).alloc (.cells #[.int .i64 15, .int .i64 16, .int .i64 23, .int .i64 24, .int .i64 19, .int .i64 18, .int .i64 20] 3)).alloc (.cells #[.string ⟨#[72, 111, 115, 116]⟩, .string ⟨#[97]⟩] 34) = W at *
  generalize w2.heap.size = g at *
  have HW := Lib.hid hsz
  clear hsz HB1 HB2
  go_upto_region 27 with (first
    | (go_at_call 14; (with_reducible refine (D1.out A5 c5 _ HF.out).mono ?_); rintro e w6 ⟨rfl, hb⟩
       clear q0 q1 q2 q3 q4 q5 q6 q7 q8 q9
       have HBB6 := Lib.hid ((HBB5.out.step hb).alloc (.cells #[.int .i64 0, .int .i64 0] 40))
       have HF6 := Lib.hid ((HF.out.below hb).below ((Below.refl _ _).alloc (Nat.le_refl _) (.cells #[.int .i64 0, .int .i64 0] 40)))
       clear hb)
    | (at_builtin; refine wpList_append_own _ rfl _ _ 22 rfl (g + 1 + 1) 34 i0 (.agg #[.string ByteArray.empty, .string ByteArray.empty]) 2 32 Tryd.underlying22 G1.out G2.out G3.out G4.out rfl (by decide) _ 1 [.string ⟨#[72, 111, 115, 116]⟩, .string ⟨#[97]⟩] rfl (HO.out.alloc _) ⟨W.heap.size, 0, none⟩ 1 1 [.string ⟨#[84, 114, 97, 110, 115, 102, 101, 114, 45, 69, 110, 99, 111, 100, 105, 110, 103]⟩, .string ⟨#[98, 114]⟩] rfl rfl (news_cells W [.string ⟨#[84, 114, 97, 110, 115, 102, 101, 114, 45, 69, 110, 99, 111, 100, 105, 110, 103]⟩, .string ⟨#[98, 114]⟩] 34) (cells_all_one [(⟨#[84, 114, 97, 110, 115, 102, 101, 114, 45, 69, 110, 99, 111, 100, 105, 110, 103]⟩, ⟨#[98, 114]⟩)]) (by unfold maxLen; omega) (by omega) (by have := HW.out; simp; omega) ?_
       intro v5 w5 hown5 hgr5 _
       have hown6 : w5.ownsRow (g + 1 + 1) 34 2 v5 2 (cells [(⟨#[72, 111, 115, 116]⟩, ⟨#[97]⟩), (⟨#[84, 114, 97, 110, 115, 102, 101, 114, 45, 69, 110, 99, 111, 100, 105, 110, 103]⟩, ⟨#[98, 114]⟩)]) := hown5
       obtain ⟨A5, c5, rfl, hA5⟩ := Flds.of_own hown6
       have HF := Lib.hid hA5
       have HBB5 := Lib.hid ((HBB.out.alloc (.cells #[.string ⟨#[84, 114, 97, 110, 115, 102, 101, 114, 45, 69, 110, 99, 111, 100, 105, 110, 103]⟩, .string ⟨#[98, 114]⟩] 34)).grown hgr5 (fun e => by have h9 : g + 1 + 1 = g := Option.some.inj e; omega) (fun k hk => by have h1 : g + 1 + 1 = k := Option.some.inj hk; have h2 := HGW.out; omega))
       obtain ⟨⟨q0, q1, q2, q3, q4, q5, q6, q7, q8, q9⟩, hlt, hbk⟩ := HBB5.out
       clear hlt hbk hown5 hown6 hgr5 hA5))
  have D3 := Lib.hid (fun w' (hb : Below (w6.alloc (.cells #[.int .i64 0, .int .i64 0] 40)).heap.size (w6.alloc (.cells #[.int .i64 0, .int .i64 0] 40)) w') => D2.out A5 c5 w' (HF6.out.below hb))
  obtain ⟨⟨q0, q1, q2, q3, q4, q5, q6, q7, q8, q9⟩, hlt, hbk⟩ := HBB6.out
  have HBk := Lib.hid hbk
  clear hbk D1 D2 HBB6 HF6 G1 G2 G3 G4
  generalize w6.alloc (.cells #[.int .i64 0, .int .i64 0] 40) = V at *
  generalize w6.heap.size = gz at *
  go_cut [13, 14] from 81 to 90 (fun p e wx => ∃ gg : Nat, p = .pointer (some ⟨gg, 0, none⟩) ∧ e = .int .i64 0 ∧ Hid (Gb wx gg 1 0) ∧ Hid (Below w.heap.size w wx))
  case first =>
    go_region_with (first
      | (go_at_call 14; (with_reducible refine (D3.out (V.alloc (.cells #[.int .i64 0, .int .i64 0] 40)).drew ((Below.refl _ _).alloc (Nat.le_refl _) _).drew).mono ?_); rintro e w9 ⟨rfl, hb⟩
         have HG9 := Lib.hid ((((Gb.new V 40 0 0).below (by simp) ((Below.refl _ _).drew)).below (by simp) hb))
         obtain ⟨c0, c1, z0, z1⟩ := HG9.out
         have HB9 := Lib.hid (Base.below_step (HBk.out.alloc HBk.out.size (.cells #[.int .i64 0, .int .i64 0] 40)).drew hb)
         clear hb)
      | (go_at_call 14; (with_reducible refine (D3.out V.drew (Below.refl _ _).drew).mono ?_); rintro e w9 ⟨rfl, hb⟩
         have HB9 := Lib.hid (Base.below_step HBk.out.drew hb)
         clear hb))
    all_goals
      go_wp2_with fail
      go_meet
      case rel => first
        | exact ⟨_, rfl, rfl, Lib.hid (Gb.new w9 40 1 0), Lib.hid (HB9.out.alloc HB9.out.size _)⟩
        | (obtain ⟨W9, hW9, hG9, hbW⟩ := Gb.put HG9.out HB9.out HBk.out.size 1 0
           exact ⟨_, rfl, rfl, Lib.hid (hW9 ▸ hG9), Lib.hid (hW9 ▸ hbW)⟩)
  case rest =>
    obtain ⟨gg, rfl, rfl, HGf, HBf⟩ := hcut
    obtain ⟨c0, c1, _, _⟩ := HGf.out
    go_wp2_with fail
    go_ret
    exact ⟨rfl, HBf.out⟩
theorem clauses5 (c : Int) (A a : Nat) (w : World) (hcm : c.tmod 7 = 5) (hm : bits .and .u32 (a : Int) 1073741823 = (A : Int)) (hA : A < 1073741824) :
    Calls Tryd.prog 5 #[.int .u8 c, .int .u32 a] w fun e w' => e = .returned (.bool true) ∧ Below w.heap.size w w' := by
  have hP0 : A &&& 4294705151 < 4294967296 := Nat.lt_of_le_of_lt Nat.and_le_left (by omega)
  have hP : (A &&& 4294705151) &&& 4294443007 < 4294967296 := Nat.lt_of_le_of_lt Nat.and_le_left hP0
  have hQ : ((A &&& 4294705151) &&& 4294443007) ||| 262144 < 4294967296 := Nat.or_lt_two_pow (n := 32) hP (by decide)
  have N1 : bits .andNot .u32 (A : Int) 262144 = ((A &&& 4294705151 : Nat) : Int) := u32_andNot_nat A 262144 (by omega) (by decide)
  have N3 : bits .andNot .u32 ((A &&& 4294705151 : Nat) : Int) 524288 = (((A &&& 4294705151) &&& 4294443007 : Nat) : Int) := u32_andNot_nat (A &&& 4294705151) 524288 hP0 (by decide)
  have N2 : bits .or .u32 (((A &&& 4294705151) &&& 4294443007 : Nat) : Int) 262144 = ((((A &&& 4294705151) &&& 4294443007) ||| 262144 : Nat) : Int) := u32_or_nat ((A &&& 4294705151) &&& 4294443007) 262144 hP (by decide)
  have E1 : decideV (clOf ((A &&& 4294705151) &&& 4294443007)) true 65536 1 [(⟨#[72, 111, 115, 116]⟩, ⟨#[97]⟩), (⟨#[84, 114, 97, 110, 115, 102, 101, 114, 45, 69, 110, 99, 111, 100, 105, 110, 103]⟩, ⟨#[98, 114, 44, 32, 99, 104, 117, 110, 107, 101, 100]⟩)] = (0, 0, 501) := (val18 (Qk.has ((A &&& 4294705151) &&& 4294443007) 15) (Qk.has ((A &&& 4294705151) &&& 4294443007) 16) (Qk.has ((A &&& 4294705151) &&& 4294443007) 17) (Qk.has ((A &&& 4294705151) &&& 4294443007) 18) (Qk.has ((A &&& 4294705151) &&& 4294443007) 19) (Qk.has ((A &&& 4294705151) &&& 4294443007) 20) (Qk.has ((A &&& 4294705151) &&& 4294443007) 21) (Qk.has ((A &&& 4294705151) &&& 4294443007) 22) (Qk.has ((A &&& 4294705151) &&& 4294443007) 23) (Qk.has ((A &&& 4294705151) &&& 4294443007) 24) (Qk.has ((A &&& 4294705151) &&& 4294443007) 25) (Qk.has ((A &&& 4294705151) &&& 4294443007) 26) (by rw [has_off _ _ _ _ (by decide +kernel)])).1 (has_off _ _ _ _ (by decide +kernel))
  have E2 : decideV (clOf (((A &&& 4294705151) &&& 4294443007) ||| 262144)) true 65536 1 [(⟨#[72, 111, 115, 116]⟩, ⟨#[97]⟩), (⟨#[84, 114, 97, 110, 115, 102, 101, 114, 45, 69, 110, 99, 111, 100, 105, 110, 103]⟩, ⟨#[98, 114, 44, 32, 99, 104, 117, 110, 107, 101, 100]⟩)] = (2, 0, 0) := (val18 (Qk.has (((A &&& 4294705151) &&& 4294443007) ||| 262144) 15) (Qk.has (((A &&& 4294705151) &&& 4294443007) ||| 262144) 16) (Qk.has (((A &&& 4294705151) &&& 4294443007) ||| 262144) 17) (Qk.has (((A &&& 4294705151) &&& 4294443007) ||| 262144) 18) (Qk.has (((A &&& 4294705151) &&& 4294443007) ||| 262144) 19) (Qk.has (((A &&& 4294705151) &&& 4294443007) ||| 262144) 20) (Qk.has (((A &&& 4294705151) &&& 4294443007) ||| 262144) 21) (Qk.has (((A &&& 4294705151) &&& 4294443007) ||| 262144) 22) (Qk.has (((A &&& 4294705151) &&& 4294443007) ||| 262144) 23) (Qk.has (((A &&& 4294705151) &&& 4294443007) ||| 262144) 24) (Qk.has (((A &&& 4294705151) &&& 4294443007) ||| 262144) 25) (Qk.has (((A &&& 4294705151) &&& 4294443007) ||| 262144) 26) (by rw [has_or, has_off _ _ _ _ (by decide +kernel), show Qk.has 262144 19 = false from by decide +kernel]; rfl)).2 (by rw [has_or, show Qk.has 262144 18 = true from by decide +kernel, Bool.or_true])
  have D1 := Lib.hid (fun (A5 : Option Addr) (c5 : Nat) (w' : World) (hf : Flds w' A5 2 [(⟨#[72, 111, 115, 116]⟩, ⟨#[97]⟩), (⟨#[84, 114, 97, 110, 115, 102, 101, 114, 45, 69, 110, 99, 111, 100, 105, 110, 103]⟩, ⟨#[98, 114, 44, 32, 99, 104, 117, 110, 107, 101, 100]⟩)]) => decide_any ((A &&& 4294705151) &&& 4294443007) hP 1024 32 8192 65536 32 8 4 20 true true (by decide) 1 A5 2 c5 [(⟨#[72, 111, 115, 116]⟩, ⟨#[97]⟩), (⟨#[84, 114, 97, 110, 115, 102, 101, 114, 45, 69, 110, 99, 111, 100, 105, 110, 103]⟩, ⟨#[98, 114, 44, 32, 99, 104, 117, 110, 107, 101, 100]⟩)] w' hf (by decide) (by decide))
  have D2 := Lib.hid (fun (A5 : Option Addr) (c5 : Nat) (w' : World) (hf : Flds w' A5 2 [(⟨#[72, 111, 115, 116]⟩, ⟨#[97]⟩), (⟨#[84, 114, 97, 110, 115, 102, 101, 114, 45, 69, 110, 99, 111, 100, 105, 110, 103]⟩, ⟨#[98, 114, 44, 32, 99, 104, 117, 110, 107, 101, 100]⟩)]) => decide_any (((A &&& 4294705151) &&& 4294443007) ||| 262144) hQ 1024 32 8192 65536 32 8 4 20 true true (by decide) 1 A5 2 c5 [(⟨#[72, 111, 115, 116]⟩, ⟨#[97]⟩), (⟨#[84, 114, 97, 110, 115, 102, 101, 114, 45, 69, 110, 99, 111, 100, 105, 110, 103]⟩, ⟨#[98, 114, 44, 32, 99, 104, 117, 110, 107, 101, 100]⟩)] w' hf (by decide) (by decide))
  rw [E1] at D1
  rw [E2] at D2
  clear E1 E2 hP hQ hP0 hA
  generalize ((A &&& 4294705151) &&& 4294443007) ||| 262144 = Q at *
  generalize (A &&& 4294705151) &&& 4294443007 = P at *
  generalize A &&& 4294705151 = P0 at *
  have hwr : IntKind.u32.wrap 262144 = 262144 := by decide
  obtain ⟨i0, hi, hz0, hz1, hz2⟩ := info_parts field_info
  have G1 := Lib.hid hi; have G2 := Lib.hid hz0; have G3 := Lib.hid hz1; have G4 := Lib.hid hz2
  clear hi hz0 hz1 hz2
  go_enter Tryd.func5, Tryd.ntmps5
  go_upto_region 8 with (first
    | (go_at_call 24; (with_reducible refine (Bnd.rusual_any _).mono ?_); rintro e w2 ⟨rfl, hb⟩
       have HB2 := Lib.hid (Base.below_step HB1.out hb)
       clear hb)
    | (go_at_call 8; (with_reducible refine (known_any _).mono ?_); rintro e w1 ⟨rfl, hb⟩
       have HB1 := Lib.hid hb
       clear hb))
  have HBB := Lib.hid (((BB.new HB2.out 30 1024 32 8192 65536 32 8 4 20 true true).alloc (.cells #[.int .i64 15, .int .i64 16, .int .i64 23, .int .i64 24, .int .i64 19, .int .i64 18, .int .i64 20] 3)).alloc (.cells #[.string ⟨#[72, 111, 115, 116]⟩, .string ⟨#[97]⟩] 34))
  have HO : Hid ((((w2.alloc (.cells #[.int .i64 1024, .int .i64 32, .int .i64 8192, .int .i64 65536, .int .i64 32, .int .i64 8, .int .i64 4, .int .i64 20, .bool true, .bool true] 30)).alloc (.cells #[.int .i64 15, .int .i64 16, .int .i64 23, .int .i64 24, .int .i64 19, .int .i64 18, .int .i64 20] 3)).alloc (.cells #[.string ⟨#[72, 111, 115, 116]⟩, .string ⟨#[97]⟩] 34)).ownsRow (w2.heap.size + 1 + 1) 34 2 (.slice (some ⟨w2.heap.size + 1 + 1, 0, none⟩) 1 1) 1 [.string ⟨#[72, 111, 115, 116]⟩, .string ⟨#[97]⟩]) := by
    have h := World.ownsRow_lit (base := w2.heap.size + 1 + 1) (e := 34) (size := 2) ((w2.alloc (.cells #[.int .i64 1024, .int .i64 32, .int .i64 8192, .int .i64 65536, .int .i64 32, .int .i64 8, .int .i64 4, .int .i64 20, .bool true, .bool true] 30)).alloc (.cells #[.int .i64 15, .int .i64 16, .int .i64 23, .int .i64 24, .int .i64 19, .int .i64 18, .int .i64 20] 3)) #[.string ⟨#[72, 111, 115, 116]⟩, .string ⟨#[97]⟩] 1 (by simp) (by decide) rfl
    rw [show ((w2.alloc (.cells #[.int .i64 1024, .int .i64 32, .int .i64 8192, .int .i64 65536, .int .i64 32, .int .i64 8, .int .i64 4, .int .i64 20, .bool true, .bool true] 30)).alloc (.cells #[.int .i64 15, .int .i64 16, .int .i64 23, .int .i64 24, .int .i64 19, .int .i64 18, .int .i64 20] 3)).heap.size = w2.heap.size + 1 + 1 by simp] at h
    exact Lib.hid h
  have hsz : w2.heap.size + 1 + 1 + 1 ≤ (((w2.alloc (.cells #[.int .i64 1024, .int .i64 32, .int .i64 8192, .int .i64 65536, .int .i64 32, .int .i64 8, .int .i64 4, .int .i64 20, .bool true, .bool true] 30)).alloc (.cells #[.int .i64 15, .int .i64 16, .int .i64 23, .int .i64 24, .int .i64 19, .int .i64 18, .int .i64 20] 3)).alloc (.cells #[.string ⟨#[72, 111, 115, 116]⟩, .string ⟨#[97]⟩] 34)).heap.size := by simp
  have HGW := Lib.hid (show w.heap.size ≤ w2.heap.size from HB2.out.size)
  generalize ((w2.alloc (.cells #[.int .i64 1024, .int .i64 32, .int .i64 8192, .int .i64 65536, .int .i64 32, .int .i64 8, .int .i64 4, .int .i64 20, .bool true, .bool true] 30)).alloc (.cells #[.int .i64 15, .int .i64 16, .int .i64 23, .int .i64 24, .int .i64 19, .int .i64 18, .int .i64 20] 3)).alloc (.cells #[.string ⟨#[72, 111, 115, 116]⟩, .string ⟨#[97]⟩] 34) = W at *
  generalize w2.heap.size = g at *
  have HW := Lib.hid hsz
  clear hsz HB1 HB2
  go_upto_region 27 with (first
    | (go_at_call 14; (with_reducible refine (D1.out A5 c5 _ HF.out).mono ?_); rintro e w6 ⟨rfl, hb⟩
       clear q0 q1 q2 q3 q4 q5 q6 q7 q8 q9
       have HBB6 := Lib.hid ((HBB5.out.step hb).alloc (.cells #[.int .i64 0, .int .i64 0] 40))
       have HF6 := Lib.hid ((HF.out.below hb).below ((Below.refl _ _).alloc (Nat.le_refl _) (.cells #[.int .i64 0, .int .i64 0] 40)))
       clear hb)
    | (at_builtin; refine wpList_append_own _ rfl _ _ 22 rfl (g + 1 + 1) 34 i0 (.agg #[.string ByteArray.empty, .string ByteArray.empty]) 2 32 Tryd.underlying22 G1.out G2.out G3.out G4.out rfl (by decide) _ 1 [.string ⟨#[72, 111, 115, 116]⟩, .string ⟨#[97]⟩] rfl (HO.out.alloc _) ⟨W.heap.size, 0, none⟩ 1 1 [.string ⟨#[84, 114, 97, 110, 115, 102, 101, 114, 45, 69, 110, 99, 111, 100, 105, 110, 103]⟩, .string ⟨#[98, 114, 44, 32, 99, 104, 117, 110, 107, 101, 100]⟩] rfl rfl (news_cells W [.string ⟨#[84, 114, 97, 110, 115, 102, 101, 114, 45, 69, 110, 99, 111, 100, 105, 110, 103]⟩, .string ⟨#[98, 114, 44, 32, 99, 104, 117, 110, 107, 101, 100]⟩] 34) (cells_all_one [(⟨#[84, 114, 97, 110, 115, 102, 101, 114, 45, 69, 110, 99, 111, 100, 105, 110, 103]⟩, ⟨#[98, 114, 44, 32, 99, 104, 117, 110, 107, 101, 100]⟩)]) (by unfold maxLen; omega) (by omega) (by have := HW.out; simp; omega) ?_
       intro v5 w5 hown5 hgr5 _
       have hown6 : w5.ownsRow (g + 1 + 1) 34 2 v5 2 (cells [(⟨#[72, 111, 115, 116]⟩, ⟨#[97]⟩), (⟨#[84, 114, 97, 110, 115, 102, 101, 114, 45, 69, 110, 99, 111, 100, 105, 110, 103]⟩, ⟨#[98, 114, 44, 32, 99, 104, 117, 110, 107, 101, 100]⟩)]) := hown5
       obtain ⟨A5, c5, rfl, hA5⟩ := Flds.of_own hown6
       have HF := Lib.hid hA5
       have HBB5 := Lib.hid ((HBB.out.alloc (.cells #[.string ⟨#[84, 114, 97, 110, 115, 102, 101, 114, 45, 69, 110, 99, 111, 100, 105, 110, 103]⟩, .string ⟨#[98, 114, 44, 32, 99, 104, 117, 110, 107, 101, 100]⟩] 34)).grown hgr5 (fun e => by have h9 : g + 1 + 1 = g := Option.some.inj e; omega) (fun k hk => by have h1 : g + 1 + 1 = k := Option.some.inj hk; have h2 := HGW.out; omega))
       obtain ⟨⟨q0, q1, q2, q3, q4, q5, q6, q7, q8, q9⟩, hlt, hbk⟩ := HBB5.out
       clear hlt hbk hown5 hown6 hgr5 hA5))
  have D3 := Lib.hid (fun w' (hb : Below (w6.alloc (.cells #[.int .i64 0, .int .i64 0] 40)).heap.size (w6.alloc (.cells #[.int .i64 0, .int .i64 0] 40)) w') => D2.out A5 c5 w' (HF6.out.below hb))
  obtain ⟨⟨q0, q1, q2, q3, q4, q5, q6, q7, q8, q9⟩, hlt, hbk⟩ := HBB6.out
  have HBk := Lib.hid hbk
  clear hbk D1 D2 HBB6 HF6 G1 G2 G3 G4
  generalize w6.alloc (.cells #[.int .i64 0, .int .i64 0] 40) = V at *
  generalize w6.heap.size = gz at *
  go_cut [13, 14] from 81 to 90 (fun p e wx => ∃ gg : Nat, p = .pointer (some ⟨gg, 0, none⟩) ∧ e = .int .i64 0 ∧ Hid (Gb wx gg 2 0) ∧ Hid (Below w.heap.size w wx))
  case first =>
    go_region_with (first
      | (go_at_call 14; (with_reducible refine (D3.out (V.alloc (.cells #[.int .i64 0, .int .i64 0] 40)).drew ((Below.refl _ _).alloc (Nat.le_refl _) _).drew).mono ?_); rintro e w9 ⟨rfl, hb⟩
         have HG9 := Lib.hid ((((Gb.new V 40 0 0).below (by simp) ((Below.refl _ _).drew)).below (by simp) hb))
         obtain ⟨c0, c1, z0, z1⟩ := HG9.out
         have HB9 := Lib.hid (Base.below_step (HBk.out.alloc HBk.out.size (.cells #[.int .i64 0, .int .i64 0] 40)).drew hb)
         clear hb)
      | (go_at_call 14; (with_reducible refine (D3.out V.drew (Below.refl _ _).drew).mono ?_); rintro e w9 ⟨rfl, hb⟩
         have HB9 := Lib.hid (Base.below_step HBk.out.drew hb)
         clear hb))
    all_goals
      go_wp2_with fail
      go_meet
      case rel => first
        | exact ⟨_, rfl, rfl, Lib.hid (Gb.new w9 40 2 0), Lib.hid (HB9.out.alloc HB9.out.size _)⟩
        | (obtain ⟨W9, hW9, hG9, hbW⟩ := Gb.put HG9.out HB9.out HBk.out.size 2 0
           exact ⟨_, rfl, rfl, Lib.hid (hW9 ▸ hG9), Lib.hid (hW9 ▸ hbW)⟩)
  case rest =>
    obtain ⟨gg, rfl, rfl, HGf, HBf⟩ := hcut
    obtain ⟨c0, c1, _, _⟩ := HGf.out
    go_wp2_with fail
    go_ret
    exact ⟨rfl, HBf.out⟩
theorem clauses6 (c : Int) (A a : Nat) (w : World) (hcm : c.tmod 7 = 6) (hm : bits .and .u32 (a : Int) 1073741823 = (A : Int)) (hA : A < 1073741824) :
    Calls Tryd.prog 5 #[.int .u8 c, .int .u32 a] w fun e w' => e = .returned (.bool true) ∧ Below w.heap.size w w' := by
  have hP0 : A &&& 4293918719 < 4294967296 := Nat.lt_of_le_of_lt Nat.and_le_left (by omega)
  have hP : (A &&& 4293918719) &&& 4294967295 < 4294967296 := Nat.lt_of_le_of_lt Nat.and_le_left hP0
  have hQ : ((A &&& 4293918719) &&& 4294967295) ||| 1048576 < 4294967296 := Nat.or_lt_two_pow (n := 32) hP (by decide)
  have N1 : bits .andNot .u32 (A : Int) 1048576 = ((A &&& 4293918719 : Nat) : Int) := u32_andNot_nat A 1048576 (by omega) (by decide)
  have N3 : bits .andNot .u32 ((A &&& 4293918719 : Nat) : Int) 0 = (((A &&& 4293918719) &&& 4294967295 : Nat) : Int) := u32_andNot_nat (A &&& 4293918719) 0 hP0 (by decide)
  have N2 : bits .or .u32 (((A &&& 4293918719) &&& 4294967295 : Nat) : Int) 1048576 = ((((A &&& 4293918719) &&& 4294967295) ||| 1048576 : Nat) : Int) := u32_or_nat ((A &&& 4293918719) &&& 4294967295) 1048576 hP (by decide)
  have E1 : decideV (clOf ((A &&& 4293918719) &&& 4294967295)) true 65536 0 [(⟨#[72, 111, 115, 116]⟩, ⟨#[97]⟩), (⟨#[84, 114, 97, 110, 115, 102, 101, 114, 45, 69, 110, 99, 111, 100, 105, 110, 103]⟩, ⟨#[99, 104, 117, 110, 107, 101, 100]⟩)] = (0, 0, 400) := (val20 (Qk.has ((A &&& 4293918719) &&& 4294967295) 15) (Qk.has ((A &&& 4293918719) &&& 4294967295) 16) (Qk.has ((A &&& 4293918719) &&& 4294967295) 17) (Qk.has ((A &&& 4293918719) &&& 4294967295) 18) (Qk.has ((A &&& 4293918719) &&& 4294967295) 19) (Qk.has ((A &&& 4293918719) &&& 4294967295) 20) (Qk.has ((A &&& 4293918719) &&& 4294967295) 21) (Qk.has ((A &&& 4293918719) &&& 4294967295) 22) (Qk.has ((A &&& 4293918719) &&& 4294967295) 23) (Qk.has ((A &&& 4293918719) &&& 4294967295) 24) (Qk.has ((A &&& 4293918719) &&& 4294967295) 25) (Qk.has ((A &&& 4293918719) &&& 4294967295) 26)).1 (has_off _ _ _ _ (by decide +kernel))
  have E2 : decideV (clOf (((A &&& 4293918719) &&& 4294967295) ||| 1048576)) true 65536 0 [(⟨#[72, 111, 115, 116]⟩, ⟨#[97]⟩), (⟨#[84, 114, 97, 110, 115, 102, 101, 114, 45, 69, 110, 99, 111, 100, 105, 110, 103]⟩, ⟨#[99, 104, 117, 110, 107, 101, 100]⟩)] = (2, 0, 0) := (val20 (Qk.has (((A &&& 4293918719) &&& 4294967295) ||| 1048576) 15) (Qk.has (((A &&& 4293918719) &&& 4294967295) ||| 1048576) 16) (Qk.has (((A &&& 4293918719) &&& 4294967295) ||| 1048576) 17) (Qk.has (((A &&& 4293918719) &&& 4294967295) ||| 1048576) 18) (Qk.has (((A &&& 4293918719) &&& 4294967295) ||| 1048576) 19) (Qk.has (((A &&& 4293918719) &&& 4294967295) ||| 1048576) 20) (Qk.has (((A &&& 4293918719) &&& 4294967295) ||| 1048576) 21) (Qk.has (((A &&& 4293918719) &&& 4294967295) ||| 1048576) 22) (Qk.has (((A &&& 4293918719) &&& 4294967295) ||| 1048576) 23) (Qk.has (((A &&& 4293918719) &&& 4294967295) ||| 1048576) 24) (Qk.has (((A &&& 4293918719) &&& 4294967295) ||| 1048576) 25) (Qk.has (((A &&& 4293918719) &&& 4294967295) ||| 1048576) 26)).2 (by rw [has_or, show Qk.has 1048576 20 = true from by decide +kernel, Bool.or_true])
  have D1 := Lib.hid (fun (A5 : Option Addr) (c5 : Nat) (w' : World) (hf : Flds w' A5 2 [(⟨#[72, 111, 115, 116]⟩, ⟨#[97]⟩), (⟨#[84, 114, 97, 110, 115, 102, 101, 114, 45, 69, 110, 99, 111, 100, 105, 110, 103]⟩, ⟨#[99, 104, 117, 110, 107, 101, 100]⟩)]) => decide_any ((A &&& 4293918719) &&& 4294967295) hP 1024 32 8192 65536 32 8 4 20 true true (by decide) 0 A5 2 c5 [(⟨#[72, 111, 115, 116]⟩, ⟨#[97]⟩), (⟨#[84, 114, 97, 110, 115, 102, 101, 114, 45, 69, 110, 99, 111, 100, 105, 110, 103]⟩, ⟨#[99, 104, 117, 110, 107, 101, 100]⟩)] w' hf (by decide) (by decide))
  have D2 := Lib.hid (fun (A5 : Option Addr) (c5 : Nat) (w' : World) (hf : Flds w' A5 2 [(⟨#[72, 111, 115, 116]⟩, ⟨#[97]⟩), (⟨#[84, 114, 97, 110, 115, 102, 101, 114, 45, 69, 110, 99, 111, 100, 105, 110, 103]⟩, ⟨#[99, 104, 117, 110, 107, 101, 100]⟩)]) => decide_any (((A &&& 4293918719) &&& 4294967295) ||| 1048576) hQ 1024 32 8192 65536 32 8 4 20 true true (by decide) 0 A5 2 c5 [(⟨#[72, 111, 115, 116]⟩, ⟨#[97]⟩), (⟨#[84, 114, 97, 110, 115, 102, 101, 114, 45, 69, 110, 99, 111, 100, 105, 110, 103]⟩, ⟨#[99, 104, 117, 110, 107, 101, 100]⟩)] w' hf (by decide) (by decide))
  rw [E1] at D1
  rw [E2] at D2
  clear E1 E2 hP hQ hP0 hA
  generalize ((A &&& 4293918719) &&& 4294967295) ||| 1048576 = Q at *
  generalize (A &&& 4293918719) &&& 4294967295 = P at *
  generalize A &&& 4293918719 = P0 at *
  have hwr : IntKind.u32.wrap 1048576 = 1048576 := by decide
  obtain ⟨i0, hi, hz0, hz1, hz2⟩ := info_parts field_info
  have G1 := Lib.hid hi; have G2 := Lib.hid hz0; have G3 := Lib.hid hz1; have G4 := Lib.hid hz2
  clear hi hz0 hz1 hz2
  go_enter Tryd.func5, Tryd.ntmps5
  go_upto_region 8 with (first
    | (go_at_call 24; (with_reducible refine (Bnd.rusual_any _).mono ?_); rintro e w2 ⟨rfl, hb⟩
       have HB2 := Lib.hid (Base.below_step HB1.out hb)
       clear hb)
    | (go_at_call 8; (with_reducible refine (known_any _).mono ?_); rintro e w1 ⟨rfl, hb⟩
       have HB1 := Lib.hid hb
       clear hb))
  have HBB := Lib.hid (((BB.new HB2.out 30 1024 32 8192 65536 32 8 4 20 true true).alloc (.cells #[.int .i64 15, .int .i64 16, .int .i64 23, .int .i64 24, .int .i64 19, .int .i64 18, .int .i64 20] 3)).alloc (.cells #[.string ⟨#[72, 111, 115, 116]⟩, .string ⟨#[97]⟩] 34))
  have HO : Hid ((((w2.alloc (.cells #[.int .i64 1024, .int .i64 32, .int .i64 8192, .int .i64 65536, .int .i64 32, .int .i64 8, .int .i64 4, .int .i64 20, .bool true, .bool true] 30)).alloc (.cells #[.int .i64 15, .int .i64 16, .int .i64 23, .int .i64 24, .int .i64 19, .int .i64 18, .int .i64 20] 3)).alloc (.cells #[.string ⟨#[72, 111, 115, 116]⟩, .string ⟨#[97]⟩] 34)).ownsRow (w2.heap.size + 1 + 1) 34 2 (.slice (some ⟨w2.heap.size + 1 + 1, 0, none⟩) 1 1) 1 [.string ⟨#[72, 111, 115, 116]⟩, .string ⟨#[97]⟩]) := by
    have h := World.ownsRow_lit (base := w2.heap.size + 1 + 1) (e := 34) (size := 2) ((w2.alloc (.cells #[.int .i64 1024, .int .i64 32, .int .i64 8192, .int .i64 65536, .int .i64 32, .int .i64 8, .int .i64 4, .int .i64 20, .bool true, .bool true] 30)).alloc (.cells #[.int .i64 15, .int .i64 16, .int .i64 23, .int .i64 24, .int .i64 19, .int .i64 18, .int .i64 20] 3)) #[.string ⟨#[72, 111, 115, 116]⟩, .string ⟨#[97]⟩] 1 (by simp) (by decide) rfl
    rw [show ((w2.alloc (.cells #[.int .i64 1024, .int .i64 32, .int .i64 8192, .int .i64 65536, .int .i64 32, .int .i64 8, .int .i64 4, .int .i64 20, .bool true, .bool true] 30)).alloc (.cells #[.int .i64 15, .int .i64 16, .int .i64 23, .int .i64 24, .int .i64 19, .int .i64 18, .int .i64 20] 3)).heap.size = w2.heap.size + 1 + 1 by simp] at h
    exact Lib.hid h
  have hsz : w2.heap.size + 1 + 1 + 1 ≤ (((w2.alloc (.cells #[.int .i64 1024, .int .i64 32, .int .i64 8192, .int .i64 65536, .int .i64 32, .int .i64 8, .int .i64 4, .int .i64 20, .bool true, .bool true] 30)).alloc (.cells #[.int .i64 15, .int .i64 16, .int .i64 23, .int .i64 24, .int .i64 19, .int .i64 18, .int .i64 20] 3)).alloc (.cells #[.string ⟨#[72, 111, 115, 116]⟩, .string ⟨#[97]⟩] 34)).heap.size := by simp
  have HGW := Lib.hid (show w.heap.size ≤ w2.heap.size from HB2.out.size)
  generalize ((w2.alloc (.cells #[.int .i64 1024, .int .i64 32, .int .i64 8192, .int .i64 65536, .int .i64 32, .int .i64 8, .int .i64 4, .int .i64 20, .bool true, .bool true] 30)).alloc (.cells #[.int .i64 15, .int .i64 16, .int .i64 23, .int .i64 24, .int .i64 19, .int .i64 18, .int .i64 20] 3)).alloc (.cells #[.string ⟨#[72, 111, 115, 116]⟩, .string ⟨#[97]⟩] 34) = W at *
  generalize w2.heap.size = g at *
  have HW := Lib.hid hsz
  clear hsz HB1 HB2
  go_upto_region 27 with (first
    | (go_at_call 14; (with_reducible refine (D1.out A5 c5 _ HF.out).mono ?_); rintro e w6 ⟨rfl, hb⟩
       clear q0 q1 q2 q3 q4 q5 q6 q7 q8 q9
       have HBB6 := Lib.hid ((HBB5.out.step hb).alloc (.cells #[.int .i64 0, .int .i64 0] 40))
       have HF6 := Lib.hid ((HF.out.below hb).below ((Below.refl _ _).alloc (Nat.le_refl _) (.cells #[.int .i64 0, .int .i64 0] 40)))
       clear hb)
    | (at_builtin; refine wpList_append_own _ rfl _ _ 22 rfl (g + 1 + 1) 34 i0 (.agg #[.string ByteArray.empty, .string ByteArray.empty]) 2 32 Tryd.underlying22 G1.out G2.out G3.out G4.out rfl (by decide) _ 1 [.string ⟨#[72, 111, 115, 116]⟩, .string ⟨#[97]⟩] rfl (HO.out.alloc _) ⟨W.heap.size, 0, none⟩ 1 1 [.string ⟨#[84, 114, 97, 110, 115, 102, 101, 114, 45, 69, 110, 99, 111, 100, 105, 110, 103]⟩, .string ⟨#[99, 104, 117, 110, 107, 101, 100]⟩] rfl rfl (news_cells W [.string ⟨#[84, 114, 97, 110, 115, 102, 101, 114, 45, 69, 110, 99, 111, 100, 105, 110, 103]⟩, .string ⟨#[99, 104, 117, 110, 107, 101, 100]⟩] 34) (cells_all_one [(⟨#[84, 114, 97, 110, 115, 102, 101, 114, 45, 69, 110, 99, 111, 100, 105, 110, 103]⟩, ⟨#[99, 104, 117, 110, 107, 101, 100]⟩)]) (by unfold maxLen; omega) (by omega) (by have := HW.out; simp; omega) ?_
       intro v5 w5 hown5 hgr5 _
       have hown6 : w5.ownsRow (g + 1 + 1) 34 2 v5 2 (cells [(⟨#[72, 111, 115, 116]⟩, ⟨#[97]⟩), (⟨#[84, 114, 97, 110, 115, 102, 101, 114, 45, 69, 110, 99, 111, 100, 105, 110, 103]⟩, ⟨#[99, 104, 117, 110, 107, 101, 100]⟩)]) := hown5
       obtain ⟨A5, c5, rfl, hA5⟩ := Flds.of_own hown6
       have HF := Lib.hid hA5
       have HBB5 := Lib.hid ((HBB.out.alloc (.cells #[.string ⟨#[84, 114, 97, 110, 115, 102, 101, 114, 45, 69, 110, 99, 111, 100, 105, 110, 103]⟩, .string ⟨#[99, 104, 117, 110, 107, 101, 100]⟩] 34)).grown hgr5 (fun e => by have h9 : g + 1 + 1 = g := Option.some.inj e; omega) (fun k hk => by have h1 : g + 1 + 1 = k := Option.some.inj hk; have h2 := HGW.out; omega))
       obtain ⟨⟨q0, q1, q2, q3, q4, q5, q6, q7, q8, q9⟩, hlt, hbk⟩ := HBB5.out
       clear hlt hbk hown5 hown6 hgr5 hA5))
  have D3 := Lib.hid (fun w' (hb : Below (w6.alloc (.cells #[.int .i64 0, .int .i64 0] 40)).heap.size (w6.alloc (.cells #[.int .i64 0, .int .i64 0] 40)) w') => D2.out A5 c5 w' (HF6.out.below hb))
  obtain ⟨⟨q0, q1, q2, q3, q4, q5, q6, q7, q8, q9⟩, hlt, hbk⟩ := HBB6.out
  have HBk := Lib.hid hbk
  clear hbk D1 D2 HBB6 HF6 G1 G2 G3 G4
  generalize w6.alloc (.cells #[.int .i64 0, .int .i64 0] 40) = V at *
  generalize w6.heap.size = gz at *
  go_cut [13, 14] from 81 to 90 (fun p e wx => ∃ gg : Nat, p = .pointer (some ⟨gg, 0, none⟩) ∧ e = .int .i64 0 ∧ Hid (Gb wx gg 2 0) ∧ Hid (Below w.heap.size w wx))
  case first =>
    go_region_with (first
      | (go_at_call 14; (with_reducible refine (D3.out (V.alloc (.cells #[.int .i64 0, .int .i64 0] 40)).drew ((Below.refl _ _).alloc (Nat.le_refl _) _).drew).mono ?_); rintro e w9 ⟨rfl, hb⟩
         have HG9 := Lib.hid ((((Gb.new V 40 0 0).below (by simp) ((Below.refl _ _).drew)).below (by simp) hb))
         obtain ⟨c0, c1, z0, z1⟩ := HG9.out
         have HB9 := Lib.hid (Base.below_step (HBk.out.alloc HBk.out.size (.cells #[.int .i64 0, .int .i64 0] 40)).drew hb)
         clear hb)
      | (go_at_call 14; (with_reducible refine (D3.out V.drew (Below.refl _ _).drew).mono ?_); rintro e w9 ⟨rfl, hb⟩
         have HB9 := Lib.hid (Base.below_step HBk.out.drew hb)
         clear hb))
    all_goals
      go_wp2_with fail
      go_meet
      case rel => first
        | exact ⟨_, rfl, rfl, Lib.hid (Gb.new w9 40 2 0), Lib.hid (HB9.out.alloc HB9.out.size _)⟩
        | (obtain ⟨W9, hW9, hG9, hbW⟩ := Gb.put HG9.out HB9.out HBk.out.size 2 0
           exact ⟨_, rfl, rfl, Lib.hid (hW9 ▸ hG9), Lib.hid (hW9 ▸ hbW)⟩)
  case rest =>
    obtain ⟨gg, rfl, rfl, HGf, HBf⟩ := hcut
    obtain ⟨c0, c1, _, _⟩ := HGf.out
    go_wp2_with fail
    go_ret
    exact ⟨rfl, HBf.out⟩
theorem framingClauses_any (c : Int) (a : Nat) (w : World) (hc : 0 ≤ c ∧ c ≤ 255) (ha : a < 4294967296) :
    Calls Tryd.prog 5 #[.int .u8 c, .int .u32 a] w fun e w' => e = .returned (.bool true) ∧ Below w.heap.size w w' := by
  have hm := Seat.mask30 a ha
  have hA : a % 1073741824 < 1073741824 := Nat.mod_lt _ (by decide)
  have h : c.tmod 7 = 0 ∨ c.tmod 7 = 1 ∨ c.tmod 7 = 2 ∨ c.tmod 7 = 3 ∨ c.tmod 7 = 4 ∨ c.tmod 7 = 5 ∨ c.tmod 7 = 6 := by
    rw [Int.tmod_eq_emod_of_nonneg hc.1]; omega
  rcases h with h | h | h | h | h | h | h
  · exact clauses0 c _ a w h hm hA
  · exact clauses1 c _ a w h hm hA
  · exact clauses2 c _ a w h hm hA
  · exact clauses3 c _ a w h hm hA
  · exact clauses4 c _ a w h hm hA
  · exact clauses5 c _ a w h hm hA
  · exact clauses6 c _ a w h hm hA
end code
end Go.Proofs.YtoakalklbpoknaaDoor.Frm
