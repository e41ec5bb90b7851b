/-
  Layer 11 (chunk): the walk of ChunkClauses: it returns true, and writes nothing that was there. (Printed by tools/gen_chkclauses.py.)
-/
import Derived.Test.YtonedklnjkjcgaaDoorChkKnown
import Derived.Test.YtonedklnjkjcgaaDoorChkVals
import Derived.Test.YtonedklnjkjcgaaDoorSeat
import Derived.RegionTactic
import Derived.BigRegion
namespace Go.Proofs.YtonedklnjkjcgaaDoor.Chk
open Go.RowKit Base Txt

theorem has_and (A M : Nat) (j : Int) : Qk.has (A &&& M) j = (Qk.has A j && Qk.has M j) := by
  unfold Qk.has
  rw [Nat.testBit_and]
  cases Qk.known j <;> cases A.testBit j.toNat <;> cases M.testBit j.toNat <;> rfl
theorem has_or (A M : Nat) (j : Int) : Qk.has (A ||| M) j = (Qk.has A j || Qk.has M j) := by
  unfold Qk.has
  rw [Nat.testBit_or]
  cases Qk.known j <;> cases A.testBit j.toNat <;> cases M.testBit j.toNat <;> rfl
theorem strs_there (w : World) (t : TypeId) (ss : List Value) (k : Nat) (v : Value) (h : ss[k]? = some v) : (w.alloc (.cells ss.toArray t)).cell? ⟨w.heap.size, k, none⟩ = some v := by
  rw [cell_of_row (w.alloc _) w.heap.size k _ t (0, 0) (heap_alloc_new w _)]
  simpa using h
theorem cell_new (w : World) (t : TypeId) (ss : List Value) (k : Nat) (v : Value) (h : ss[k]? = some v) (b : Nat) (hb : b = w.heap.size) : (w.alloc (.cells ss.toArray t)).cell? ⟨b, k, none⟩ = some v := by
  subst hb; exact strs_there w t ss k v h
theorem cell_old (w : World) (t : TypeId) (ss : List Value) (k : Nat) (v : Value) (h : ss[k]? = some v) (b : Nat) (hb : b = w.heap.size) (o : Obj) : ((w.alloc (.cells ss.toArray t)).alloc o).cell? ⟨b, k, none⟩ = some v := by
  have := ((Below.refl (w.alloc (.cells ss.toArray t)).heap.size (w.alloc (.cells ss.toArray t))).alloc (Nat.le_refl _) o).cell (p := ⟨b, k, none⟩) (by simp; omega)
  exact this.trans (cell_new w t ss k v h b hb)
theorem get_of {ss : List Value} {k : Nat} {v : Value} (h : ss[k]? = some v) : ∀ hh, ss[k]'hh = v := fun hh => by
  rw [List.getElem?_eq_getElem hh] at h; exact Option.some.inj h
theorem mark_at (r : Nat) (hr : r < 2) : ∃ m : UInt8, (m = 120 ∨ m = 88) ∧ ([.string ⟨#[48, 120]⟩, .string ⟨#[48, 88]⟩] : List Value)[r]? = some (.string ⟨#[48, m]⟩) := by
  rcases (by omega : r = 0 ∨ r = 1) with rfl | rfl
  · exact ⟨120, .inl rfl, rfl⟩
  · exact ⟨88, .inr rfl, rfl⟩
theorem pre_at (r : Nat) (hr : r < 3) : ∃ A : ByteArray, A.size ≤ 1 ∧ (∀ x ∈ A.data.toList, Txt.blank x = true) ∧ ([.string ⟨#[32]⟩, .string ⟨#[]⟩, .string ⟨#[9]⟩] : List Value)[r]? = some (.string A) := by
  rcases (by omega : r = 0 ∨ r = 1 ∨ r = 2) with rfl | rfl | rfl
  · exact ⟨⟨#[32]⟩, by decide, by simp [Txt.blank], rfl⟩
  · exact ⟨⟨#[]⟩, by decide, by simp, rfl⟩
  · exact ⟨⟨#[9]⟩, by decide, by simp [Txt.blank], rfl⟩
theorem post_at (r : Nat) (hr : r < 2) : ∃ (B : ByteArray) (b : List UInt8), B.size ≤ 2 ∧ B.data.toList = b ++ [32] ∧ (∀ x ∈ b, Txt.blank x = true) ∧ ([.string ⟨#[32]⟩, .string ⟨#[9, 32]⟩] : List Value)[r]? = some (.string B) := by
  rcases (by omega : r = 0 ∨ r = 1) with rfl | rfl
  · exact ⟨⟨#[32]⟩, [], by decide, rfl, by simp, rfl⟩
  · exact ⟨⟨#[9, 32]⟩, [9], by decide, rfl, by simp [Txt.blank], rfl⟩
theorem tail_text (e : Bool) (T : ByteArray) : (if e = true then T ++ (⟨#[59, 97, 61, 98]⟩ : ByteArray) else T).data.toList = T.data.toList ++ tailL e := by
  cases e
  · simp [tailL]
  · simp [tailL, ByteArray.data_append]
theorem tmod_small (x r m : Nat) (h : x % m = r) : Int.tmod (x : Int) (m : Int) = (r : Int) := by
  rw [Int.tmod_eq_emod_of_nonneg (by omega)]; omega
theorem hexIs_any (N : Nat) (hN : N < 65536) (w : World) : Calls Tryd.prog 11 #[.int .i64 (IntKind.i64.wrap (N : Int))] w fun e w' => e = .returned (.string (Num.str (Num.spell 16 N))) ∧ ∃ m, w' = w.drewN m := by
  rw [wrap_in _ (by omega) (by omega)]
  have := Num.rputHex_any (N : Int) w (by omega) (by omega)
  rwa [Int.toNat_natCast] at this

section code
set_option maxHeartbeats 16000000
set_option maxRecDepth 100000
attribute [local go_sem] Base.some_undef
theorem clauses_false (N a x : Nat) (e : Bool) (w : World) (hN : N < 65536) (ha : a < 4294967296) :
    Calls Tryd.prog 5 #[.int .u16 (N : Int), .int .u32 (a : Int), .bool false, .int .u8 (x : Int), .bool e] w fun en w' => en = .returned (.bool true) ∧ Below w.heap.size w w' := by
  have hm0 := Seat.mask30 a ha
  obtain ⟨P0, hP0⟩ : ∃ p, a % 1073741824 = p := ⟨_, rfl⟩
  rw [hP0] at hm0
  have hp0 : P0 < 4294967296 := by omega
  have hP : P0 &&& 4160749567 < 4294967296 := Nat.lt_of_le_of_lt Nat.and_le_left hp0
  have hQ : (P0 &&& 4160749567) ||| 134217728 < 4294967296 := Nat.or_lt_two_pow (n := 32) hP (by decide)
  have N1 : bits .andNot .u32 (P0 : Int) 134217728 = ((P0 &&& 4160749567 : Nat) : Int) := u32_andNot_nat P0 134217728 hp0 (by decide)
  have N2 : bits .or .u32 ((P0 &&& 4160749567 : Nat) : Int) 134217728 = (((P0 &&& 4160749567) ||| 134217728 : Nat) : Int) := u32_or_nat (P0 &&& 4160749567) 134217728 hP (by decide)
  have hwr : IntKind.u32.wrap 134217728 = 134217728 := by decide
  have o1 : Qk.has (P0 &&& 4160749567) 27 = false := by rw [has_and, show Qk.has 4160749567 27 = false by decide +kernel, Bool.and_false]
  have o2 : Qk.has ((P0 &&& 4160749567) ||| 134217728) 27 = true := by rw [has_or, show Qk.has 134217728 27 = true by decide +kernel, Bool.or_true]
  obtain ⟨D, hD⟩ : ∃ D, Num.str (Num.spell 16 N) = D := ⟨_, rfl⟩
  have hDl : D.data.toList = Num.spell 16 N := by rw [← hD]; rfl
  have hDs : D.size ≤ 64 := by
    rw [← len, hDl]
    exact Num.spell_len (by decide) 64 N (by omega) (by decide)
  have HP := Lib.hid (fun w => hexIs_any N hN w)
  rw [hD] at HP
  obtain ⟨r2, hr2⟩ : ∃ r, x % 2 = r := ⟨_, rfl⟩
  have him2 : Int.tmod (x : Int) 2 = (r2 : Int) := tmod_small x r2 2 hr2
  have hl2 : r2 < 2 := by omega
  have hl2' : (r2 : Int) < 2 := by omega
  obtain ⟨m, hm, hmc⟩ := mark_at r2 hl2
  have F1a : ∀ (w : World), (w.alloc (.cells #[.string ⟨#[48, 120]⟩, .string ⟨#[48, 88]⟩] 9)).cell? ⟨w.heap.size, r2, none⟩ = some (.string ⟨#[48, m]⟩) := fun w => cell_new _ _ _ _ _ hmc _ (by simp)
  have F1b : ∀ (w : World) (o : Obj), ((w.alloc o).alloc (.cells #[.string ⟨#[48, 120]⟩, .string ⟨#[48, 88]⟩] 9)).cell? ⟨w.heap.size + 1, r2, none⟩ = some (.string ⟨#[48, m]⟩) := fun w o => cell_new _ _ _ _ _ hmc _ (by simp)
  have F1c : ∀ (w : World) (o : Obj) (k : Nat), (((w.alloc o).drewN k).alloc (.cells #[.string ⟨#[48, 120]⟩, .string ⟨#[48, 88]⟩] 9)).cell? ⟨w.heap.size + 1, r2, none⟩ = some (.string ⟨#[48, m]⟩) := fun w o k => cell_new _ _ _ _ _ hmc _ (by simp)
  have F1d : ∀ (w : World) (o : Obj), ((w.alloc (.cells #[.string ⟨#[48, 120]⟩, .string ⟨#[48, 88]⟩] 9)).alloc o).cell? ⟨w.heap.size, r2, none⟩ = some (.string ⟨#[48, m]⟩) := fun w o => cell_old _ _ _ _ _ hmc _ (by simp) o
  have F1e : ∀ (w : World) (o : Obj) (k : Nat), (((w.alloc (.cells #[.string ⟨#[48, 120]⟩, .string ⟨#[48, 88]⟩] 9)).drewN k).alloc o).cell? ⟨w.heap.size, r2, none⟩ = some (.string ⟨#[48, m]⟩) := fun w o k => (cell_old w _ _ _ _ hmc w.heap.size (by simp) o)
  have F1f : ∀ (w : World), (w.drew.alloc (.cells #[.string ⟨#[48, 120]⟩, .string ⟨#[48, 88]⟩] 9)).cell? ⟨w.heap.size, r2, none⟩ = some (.string ⟨#[48, m]⟩) := fun w => cell_new _ _ _ _ _ hmc _ (by simp)
  have F1g : ∀ (w : World) (o : Obj), ((w.drew.alloc o).alloc (.cells #[.string ⟨#[48, 120]⟩, .string ⟨#[48, 88]⟩] 9)).cell? ⟨w.heap.size + 1, r2, none⟩ = some (.string ⟨#[48, m]⟩) := fun w o => cell_new _ _ _ _ _ hmc _ (by simp)
  have F1h : ∀ (w : World) (o : Obj) (k : Nat), (((w.drew.alloc o).drewN k).alloc (.cells #[.string ⟨#[48, 120]⟩, .string ⟨#[48, 88]⟩] 9)).cell? ⟨w.heap.size + 1, r2, none⟩ = some (.string ⟨#[48, m]⟩) := fun w o k => cell_new _ _ _ _ _ hmc _ (by simp)
  have F1i : ∀ (w : World) (o : Obj), ((w.drew.alloc (.cells #[.string ⟨#[48, 120]⟩, .string ⟨#[48, 88]⟩] 9)).alloc o).cell? ⟨w.heap.size, r2, none⟩ = some (.string ⟨#[48, m]⟩) := fun w o => cell_old _ _ _ _ _ hmc _ (by simp) o
  have F1j : ∀ (w : World) (o : Obj) (k : Nat), (((w.drew.alloc (.cells #[.string ⟨#[48, 120]⟩, .string ⟨#[48, 88]⟩] 9)).drewN k).alloc o).cell? ⟨w.heap.size, r2, none⟩ = some (.string ⟨#[48, m]⟩) := fun w o k => (cell_old w.drew _ _ _ _ hmc w.heap.size (by simp) o)
  have F1k : ∀ (w : World) (n : Nat), ((w.drewN n).alloc (.cells #[.string ⟨#[48, 120]⟩, .string ⟨#[48, 88]⟩] 9)).cell? ⟨w.heap.size, r2, none⟩ = some (.string ⟨#[48, m]⟩) := fun w n => cell_new _ _ _ _ _ hmc _ (by simp)
  have F1l : ∀ (w : World) (n : Nat) (o : Obj), (((w.drewN n).alloc o).alloc (.cells #[.string ⟨#[48, 120]⟩, .string ⟨#[48, 88]⟩] 9)).cell? ⟨w.heap.size + 1, r2, none⟩ = some (.string ⟨#[48, m]⟩) := fun w n o => cell_new _ _ _ _ _ hmc _ (by simp)
  have F1m : ∀ (w : World) (n : Nat) (o : Obj) (k : Nat), ((((w.drewN n).alloc o).drewN k).alloc (.cells #[.string ⟨#[48, 120]⟩, .string ⟨#[48, 88]⟩] 9)).cell? ⟨w.heap.size + 1, r2, none⟩ = some (.string ⟨#[48, m]⟩) := fun w n o k => cell_new _ _ _ _ _ hmc _ (by simp)
  have F1n : ∀ (w : World) (n : Nat) (o : Obj), (((w.drewN n).alloc (.cells #[.string ⟨#[48, 120]⟩, .string ⟨#[48, 88]⟩] 9)).alloc o).cell? ⟨w.heap.size, r2, none⟩ = some (.string ⟨#[48, m]⟩) := fun w n o => cell_old _ _ _ _ _ hmc _ (by simp) o
  have F1o : ∀ (w : World) (n : Nat) (o : Obj) (k : Nat), ((((w.drewN n).alloc (.cells #[.string ⟨#[48, 120]⟩, .string ⟨#[48, 88]⟩] 9)).drewN k).alloc o).cell? ⟨w.heap.size, r2, none⟩ = some (.string ⟨#[48, m]⟩) := fun w n o k => (cell_old (w.drewN n) _ _ _ _ hmc w.heap.size (by simp) o)
  have F1' := get_of hmc
  have v1 : ¬ 9223372036854775807 < 2 + D.size := by omega
  obtain ⟨T, hT⟩ : ∃ T, ((⟨#[48, m]⟩ : ByteArray) ++ D) = T := ⟨_, rfl⟩
  have hTl : T.data.toList = 48 :: m :: Num.spell 16 N := by
    rw [← hT]
    simp only [ByteArray.data_append, Array.toList_append, hDl]
    rfl
  have hTs : T.size ≤ 67 := by rw [← hT]; simp only [ByteArray.size_append]; show 2 + D.size ≤ _; omega
  have v9 : ¬ 9223372036854775807 < T.size + 4 := by omega
  obtain ⟨U, hU⟩ : ∃ U, (if e = true then T ++ (⟨#[59, 97, 61, 98]⟩ : ByteArray) else T) = U := ⟨_, rfl⟩
  have hUl : U.data.toList = (48 :: m :: Num.spell 16 N) ++ tailL e := by rw [← hU, tail_text, hTl]
  have hUs : U.size ≤ 71 := by
    rw [← hU]
    cases e
    · show T.size ≤ 71; omega
    · show (T ++ _).size ≤ 71; rw [ByteArray.size_append]; show T.size + 4 ≤ 71; omega
  have C1 := Lib.hid (fun w => size_any U (P0 &&& 4160749567) hP 1024 32 8192 65536 32 8 4 20 true true (by decide) w (by omega))
  have C2 := Lib.hid (fun w => size_any U ((P0 &&& 4160749567) ||| 134217728) hQ 1024 32 8192 65536 32 8 4 20 true true (by decide) w (by omega))
  rw [hUl, o1, (mark_val N (by omega) m hm (Qk.has (P0 &&& 4160749567) 28) e).1] at C1
  rw [hUl, o2, (mark_val N (by omega) m hm (Qk.has ((P0 &&& 4160749567) ||| 134217728) 28) e).2] at C2
  have HT := Lib.hid hT
  have HU := Lib.hid hU
  have hwN : wrap64 (N : Int) = (N : Int) := by unfold wrap64; omega
  have HWN := Lib.hid hwN
  clear hwN o1 o2 hP hQ hp0 hP0 hN ha hD hDl hDs hr2 hl2 hTl hTs hUl hUs hT hU hm
  generalize (P0 &&& 4160749567) ||| 134217728 = Q at *
  generalize P0 &&& 4160749567 = P at *
  go_enter Tryd.func5, Tryd.ntmps5
  go_upto_region 4 with (first
    | (go_at_call 17; (with_reducible refine (Bnd.rusual_any _).mono ?_); rintro e w2 ⟨rfl, hb⟩
       have HBB := Lib.hid (BB.new (Base.below_step HB1.out hb) 29 1024 32 8192 65536 32 8 4 20 true true)
       clear hb)
    | (go_at_call 7; (with_reducible refine (known_any _).mono ?_); rintro e w1 ⟨rfl, hb⟩
       have HB1 := Lib.hid hb
       clear hb))
  clear HB1
  generalize w2.alloc (.cells #[.int .i64 1024, .int .i64 32, .int .i64 8192, .int .i64 65536, .int .i64 32, .int .i64 8, .int .i64 4, .int .i64 20, .bool true, .bool true] 29) = W at *
  generalize w2.heap.size = g at *
  go_cut [12, 13] from 22 to 30 (fun p q wx => p = .int .i64 27 ∧ q = .string ((⟨#[48, m]⟩ : ByteArray) ++ D) ∧ Hid (BB 1024 32 8192 65536 32 8 4 20 true true w g wx))
  case first =>
    clear C1 C2 HT HU N1 N2 hm0
    go_region_with (go_at_call 11; (with_reducible refine (HP.out _).mono ?_); rintro e w3 ⟨rfl, m3, hw⟩; rw [hw]; clear hw)
    all_goals
      go_wp2_with fail
      go_meet
      case rel => exact ⟨rfl, rfl, Lib.hid (HBB.out.step (by
          repeat (first | exact Below.refl _ _ | with_reducible refine Base.below_drewN ?_ _ | (refine Below.drew ?_) | (refine Below.alloc ?_ (by simp <;> omega) _))))⟩
  case rest =>
    obtain ⟨rfl, rfl, HB4⟩ := hcut
    rw [HT.out]
    clear HT HBB F1a F1b F1c F1d F1e F1f F1g F1h F1i F1j F1k F1l F1m F1n F1o F1' hmc him2 HP v1
    go_upto_if 47 with fail
    go_cut [13] from 48 to 49 (fun v wx => v = .string U ∧ wx = wc)
    case first =>
      have hu := HU.out
      clear C1 C2 HB4 N1 N2 hm0 HU
      cases e
      · rw [if_neg (by decide)] at hu
        subst hu
        go_wp2_with fail
        go_meet
        case rel => exact ⟨rfl, rfl⟩
      · rw [if_pos rfl] at hu
        subst hu
        go_wp2_with fail
        go_meet
        case rel => exact ⟨rfl, rfl⟩
    case rest =>
      obtain ⟨rfl, hw0⟩ := hcut
      rw [hw0]
      clear hw0 HU v9
      obtain ⟨⟨q0, q1, q2, q3, q4, q5, q6, q7, q8, q9⟩, hlt, hbk⟩ := HB4.out
      clear hlt hbk
      have hwN := HWN.out
      go_upto_region 11 with (go_at_call 13; (with_reducible refine (C1.out _).mono ?_); rintro e w5 ⟨rfl, hb⟩
                              have HB5 := Lib.hid (HB4.out.step hb)
                              clear hb)
      clear q0 q1 q2 q3 q4 q5 q6 q7 q8 q9
      obtain ⟨⟨q0, q1, q2, q3, q4, q5, q6, q7, q8, q9⟩, hlt, hbk⟩ := HB5.out
      clear hlt hbk
      go_region_with (go_at_call 13; (with_reducible refine (C2.out _).mono ?_); rintro e w6 ⟨rfl, hb⟩
                      have HB6 := Lib.hid ((HB5.out.drew 1).step hb)
                      clear hb)
      all_goals
        go_wp2_with fail
        go_ret
        exact ⟨rfl, HB6.out.b⟩
theorem clauses_true (N a x : Nat) (e : Bool) (w : World) (hN : N < 65536) (ha : a < 4294967296) :
    Calls Tryd.prog 5 #[.int .u16 (N : Int), .int .u32 (a : Int), .bool true, .int .u8 (x : Int), .bool e] w fun en w' => en = .returned (.bool true) ∧ Below w.heap.size w w' := by
  have hm0 := Seat.mask30 a ha
  obtain ⟨P0, hP0⟩ : ∃ p, a % 1073741824 = p := ⟨_, rfl⟩
  rw [hP0] at hm0
  have hp0 : P0 < 4294967296 := by omega
  have hP : P0 &&& 4026531839 < 4294967296 := Nat.lt_of_le_of_lt Nat.and_le_left hp0
  have hQ : (P0 &&& 4026531839) ||| 268435456 < 4294967296 := Nat.or_lt_two_pow (n := 32) hP (by decide)
  have N1 : bits .andNot .u32 (P0 : Int) 268435456 = ((P0 &&& 4026531839 : Nat) : Int) := u32_andNot_nat P0 268435456 hp0 (by decide)
  have N2 : bits .or .u32 ((P0 &&& 4026531839 : Nat) : Int) 268435456 = (((P0 &&& 4026531839) ||| 268435456 : Nat) : Int) := u32_or_nat (P0 &&& 4026531839) 268435456 hP (by decide)
  have hwr : IntKind.u32.wrap 268435456 = 268435456 := by decide
  have o1 : Qk.has (P0 &&& 4026531839) 28 = false := by rw [has_and, show Qk.has 4026531839 28 = false by decide +kernel, Bool.and_false]
  have o2 : Qk.has ((P0 &&& 4026531839) ||| 268435456) 28 = true := by rw [has_or, show Qk.has 268435456 28 = true by decide +kernel, Bool.or_true]
  obtain ⟨D, hD⟩ : ∃ D, Num.str (Num.spell 16 N) = D := ⟨_, rfl⟩
  have hDl : D.data.toList = Num.spell 16 N := by rw [← hD]; rfl
  have hDs : D.size ≤ 64 := by
    rw [← len, hDl]
    exact Num.spell_len (by decide) 64 N (by omega) (by decide)
  have HP := Lib.hid (fun w => hexIs_any N hN w)
  rw [hD] at HP
  obtain ⟨r2, hr2⟩ : ∃ r, x % 2 = r := ⟨_, rfl⟩
  have him2 : Int.tmod (x : Int) 2 = (r2 : Int) := tmod_small x r2 2 hr2
  have hl2 : r2 < 2 := by omega
  have hl2' : (r2 : Int) < 2 := by omega
  obtain ⟨m, hm, hmc⟩ := mark_at r2 hl2
  have F1a : ∀ (w : World), (w.alloc (.cells #[.string ⟨#[48, 120]⟩, .string ⟨#[48, 88]⟩] 9)).cell? ⟨w.heap.size, r2, none⟩ = some (.string ⟨#[48, m]⟩) := fun w => cell_new _ _ _ _ _ hmc _ (by simp)
  have F1b : ∀ (w : World) (o : Obj), ((w.alloc o).alloc (.cells #[.string ⟨#[48, 120]⟩, .string ⟨#[48, 88]⟩] 9)).cell? ⟨w.heap.size + 1, r2, none⟩ = some (.string ⟨#[48, m]⟩) := fun w o => cell_new _ _ _ _ _ hmc _ (by simp)
  have F1c : ∀ (w : World) (o : Obj) (k : Nat), (((w.alloc o).drewN k).alloc (.cells #[.string ⟨#[48, 120]⟩, .string ⟨#[48, 88]⟩] 9)).cell? ⟨w.heap.size + 1, r2, none⟩ = some (.string ⟨#[48, m]⟩) := fun w o k => cell_new _ _ _ _ _ hmc _ (by simp)
  have F1d : ∀ (w : World) (o : Obj), ((w.alloc (.cells #[.string ⟨#[48, 120]⟩, .string ⟨#[48, 88]⟩] 9)).alloc o).cell? ⟨w.heap.size, r2, none⟩ = some (.string ⟨#[48, m]⟩) := fun w o => cell_old _ _ _ _ _ hmc _ (by simp) o
  have F1e : ∀ (w : World) (o : Obj) (k : Nat), (((w.alloc (.cells #[.string ⟨#[48, 120]⟩, .string ⟨#[48, 88]⟩] 9)).drewN k).alloc o).cell? ⟨w.heap.size, r2, none⟩ = some (.string ⟨#[48, m]⟩) := fun w o k => (cell_old w _ _ _ _ hmc w.heap.size (by simp) o)
  have F1f : ∀ (w : World), (w.drew.alloc (.cells #[.string ⟨#[48, 120]⟩, .string ⟨#[48, 88]⟩] 9)).cell? ⟨w.heap.size, r2, none⟩ = some (.string ⟨#[48, m]⟩) := fun w => cell_new _ _ _ _ _ hmc _ (by simp)
  have F1g : ∀ (w : World) (o : Obj), ((w.drew.alloc o).alloc (.cells #[.string ⟨#[48, 120]⟩, .string ⟨#[48, 88]⟩] 9)).cell? ⟨w.heap.size + 1, r2, none⟩ = some (.string ⟨#[48, m]⟩) := fun w o => cell_new _ _ _ _ _ hmc _ (by simp)
  have F1h : ∀ (w : World) (o : Obj) (k : Nat), (((w.drew.alloc o).drewN k).alloc (.cells #[.string ⟨#[48, 120]⟩, .string ⟨#[48, 88]⟩] 9)).cell? ⟨w.heap.size + 1, r2, none⟩ = some (.string ⟨#[48, m]⟩) := fun w o k => cell_new _ _ _ _ _ hmc _ (by simp)
  have F1i : ∀ (w : World) (o : Obj), ((w.drew.alloc (.cells #[.string ⟨#[48, 120]⟩, .string ⟨#[48, 88]⟩] 9)).alloc o).cell? ⟨w.heap.size, r2, none⟩ = some (.string ⟨#[48, m]⟩) := fun w o => cell_old _ _ _ _ _ hmc _ (by simp) o
  have F1j : ∀ (w : World) (o : Obj) (k : Nat), (((w.drew.alloc (.cells #[.string ⟨#[48, 120]⟩, .string ⟨#[48, 88]⟩] 9)).drewN k).alloc o).cell? ⟨w.heap.size, r2, none⟩ = some (.string ⟨#[48, m]⟩) := fun w o k => (cell_old w.drew _ _ _ _ hmc w.heap.size (by simp) o)
  have F1k : ∀ (w : World) (n : Nat), ((w.drewN n).alloc (.cells #[.string ⟨#[48, 120]⟩, .string ⟨#[48, 88]⟩] 9)).cell? ⟨w.heap.size, r2, none⟩ = some (.string ⟨#[48, m]⟩) := fun w n => cell_new _ _ _ _ _ hmc _ (by simp)
  have F1l : ∀ (w : World) (n : Nat) (o : Obj), (((w.drewN n).alloc o).alloc (.cells #[.string ⟨#[48, 120]⟩, .string ⟨#[48, 88]⟩] 9)).cell? ⟨w.heap.size + 1, r2, none⟩ = some (.string ⟨#[48, m]⟩) := fun w n o => cell_new _ _ _ _ _ hmc _ (by simp)
  have F1m : ∀ (w : World) (n : Nat) (o : Obj) (k : Nat), ((((w.drewN n).alloc o).drewN k).alloc (.cells #[.string ⟨#[48, 120]⟩, .string ⟨#[48, 88]⟩] 9)).cell? ⟨w.heap.size + 1, r2, none⟩ = some (.string ⟨#[48, m]⟩) := fun w n o k => cell_new _ _ _ _ _ hmc _ (by simp)
  have F1n : ∀ (w : World) (n : Nat) (o : Obj), (((w.drewN n).alloc (.cells #[.string ⟨#[48, 120]⟩, .string ⟨#[48, 88]⟩] 9)).alloc o).cell? ⟨w.heap.size, r2, none⟩ = some (.string ⟨#[48, m]⟩) := fun w n o => cell_old _ _ _ _ _ hmc _ (by simp) o
  have F1o : ∀ (w : World) (n : Nat) (o : Obj) (k : Nat), ((((w.drewN n).alloc (.cells #[.string ⟨#[48, 120]⟩, .string ⟨#[48, 88]⟩] 9)).drewN k).alloc o).cell? ⟨w.heap.size, r2, none⟩ = some (.string ⟨#[48, m]⟩) := fun w n o k => (cell_old (w.drewN n) _ _ _ _ hmc w.heap.size (by simp) o)
  have F1' := get_of hmc
  have v1 : ¬ 9223372036854775807 < 2 + D.size := by omega
  obtain ⟨r3, hr3⟩ : ∃ r, x % 3 = r := ⟨_, rfl⟩
  have him3 : Int.tmod (x : Int) 3 = (r3 : Int) := tmod_small x r3 3 hr3
  have hl3 : r3 < 3 := by omega
  have hl3' : (r3 : Int) < 3 := by omega
  obtain ⟨A, hA1, hA2, hAc⟩ := pre_at r3 hl3
  obtain ⟨B, b, hB1, hB2, hB3, hBc⟩ := post_at r2 hl2
  have F2a : ∀ (w : World), (w.alloc (.cells #[.string ⟨#[32]⟩, .string ⟨#[]⟩, .string ⟨#[9]⟩] 9)).cell? ⟨w.heap.size, r3, none⟩ = some (.string A) := fun w => cell_new _ _ _ _ _ hAc _ (by simp)
  have F2b : ∀ (w : World) (o : Obj), ((w.alloc o).alloc (.cells #[.string ⟨#[32]⟩, .string ⟨#[]⟩, .string ⟨#[9]⟩] 9)).cell? ⟨w.heap.size + 1, r3, none⟩ = some (.string A) := fun w o => cell_new _ _ _ _ _ hAc _ (by simp)
  have F2c : ∀ (w : World) (o : Obj) (k : Nat), (((w.alloc o).drewN k).alloc (.cells #[.string ⟨#[32]⟩, .string ⟨#[]⟩, .string ⟨#[9]⟩] 9)).cell? ⟨w.heap.size + 1, r3, none⟩ = some (.string A) := fun w o k => cell_new _ _ _ _ _ hAc _ (by simp)
  have F2d : ∀ (w : World) (o : Obj), ((w.alloc (.cells #[.string ⟨#[32]⟩, .string ⟨#[]⟩, .string ⟨#[9]⟩] 9)).alloc o).cell? ⟨w.heap.size, r3, none⟩ = some (.string A) := fun w o => cell_old _ _ _ _ _ hAc _ (by simp) o
  have F2e : ∀ (w : World) (o : Obj) (k : Nat), (((w.alloc (.cells #[.string ⟨#[32]⟩, .string ⟨#[]⟩, .string ⟨#[9]⟩] 9)).drewN k).alloc o).cell? ⟨w.heap.size, r3, none⟩ = some (.string A) := fun w o k => (cell_old w _ _ _ _ hAc w.heap.size (by simp) o)
  have F2f : ∀ (w : World), (w.drew.alloc (.cells #[.string ⟨#[32]⟩, .string ⟨#[]⟩, .string ⟨#[9]⟩] 9)).cell? ⟨w.heap.size, r3, none⟩ = some (.string A) := fun w => cell_new _ _ _ _ _ hAc _ (by simp)
  have F2g : ∀ (w : World) (o : Obj), ((w.drew.alloc o).alloc (.cells #[.string ⟨#[32]⟩, .string ⟨#[]⟩, .string ⟨#[9]⟩] 9)).cell? ⟨w.heap.size + 1, r3, none⟩ = some (.string A) := fun w o => cell_new _ _ _ _ _ hAc _ (by simp)
  have F2h : ∀ (w : World) (o : Obj) (k : Nat), (((w.drew.alloc o).drewN k).alloc (.cells #[.string ⟨#[32]⟩, .string ⟨#[]⟩, .string ⟨#[9]⟩] 9)).cell? ⟨w.heap.size + 1, r3, none⟩ = some (.string A) := fun w o k => cell_new _ _ _ _ _ hAc _ (by simp)
  have F2i : ∀ (w : World) (o : Obj), ((w.drew.alloc (.cells #[.string ⟨#[32]⟩, .string ⟨#[]⟩, .string ⟨#[9]⟩] 9)).alloc o).cell? ⟨w.heap.size, r3, none⟩ = some (.string A) := fun w o => cell_old _ _ _ _ _ hAc _ (by simp) o
  have F2j : ∀ (w : World) (o : Obj) (k : Nat), (((w.drew.alloc (.cells #[.string ⟨#[32]⟩, .string ⟨#[]⟩, .string ⟨#[9]⟩] 9)).drewN k).alloc o).cell? ⟨w.heap.size, r3, none⟩ = some (.string A) := fun w o k => (cell_old w.drew _ _ _ _ hAc w.heap.size (by simp) o)
  have F2k : ∀ (w : World) (n : Nat), ((w.drewN n).alloc (.cells #[.string ⟨#[32]⟩, .string ⟨#[]⟩, .string ⟨#[9]⟩] 9)).cell? ⟨w.heap.size, r3, none⟩ = some (.string A) := fun w n => cell_new _ _ _ _ _ hAc _ (by simp)
  have F2l : ∀ (w : World) (n : Nat) (o : Obj), (((w.drewN n).alloc o).alloc (.cells #[.string ⟨#[32]⟩, .string ⟨#[]⟩, .string ⟨#[9]⟩] 9)).cell? ⟨w.heap.size + 1, r3, none⟩ = some (.string A) := fun w n o => cell_new _ _ _ _ _ hAc _ (by simp)
  have F2m : ∀ (w : World) (n : Nat) (o : Obj) (k : Nat), ((((w.drewN n).alloc o).drewN k).alloc (.cells #[.string ⟨#[32]⟩, .string ⟨#[]⟩, .string ⟨#[9]⟩] 9)).cell? ⟨w.heap.size + 1, r3, none⟩ = some (.string A) := fun w n o k => cell_new _ _ _ _ _ hAc _ (by simp)
  have F2n : ∀ (w : World) (n : Nat) (o : Obj), (((w.drewN n).alloc (.cells #[.string ⟨#[32]⟩, .string ⟨#[]⟩, .string ⟨#[9]⟩] 9)).alloc o).cell? ⟨w.heap.size, r3, none⟩ = some (.string A) := fun w n o => cell_old _ _ _ _ _ hAc _ (by simp) o
  have F2o : ∀ (w : World) (n : Nat) (o : Obj) (k : Nat), ((((w.drewN n).alloc (.cells #[.string ⟨#[32]⟩, .string ⟨#[]⟩, .string ⟨#[9]⟩] 9)).drewN k).alloc o).cell? ⟨w.heap.size, r3, none⟩ = some (.string A) := fun w n o k => (cell_old (w.drewN n) _ _ _ _ hAc w.heap.size (by simp) o)
  have F2' := get_of hAc
  have F3a : ∀ (w : World), (w.alloc (.cells #[.string ⟨#[32]⟩, .string ⟨#[9, 32]⟩] 9)).cell? ⟨w.heap.size, r2, none⟩ = some (.string B) := fun w => cell_new _ _ _ _ _ hBc _ (by simp)
  have F3b : ∀ (w : World) (o : Obj), ((w.alloc o).alloc (.cells #[.string ⟨#[32]⟩, .string ⟨#[9, 32]⟩] 9)).cell? ⟨w.heap.size + 1, r2, none⟩ = some (.string B) := fun w o => cell_new _ _ _ _ _ hBc _ (by simp)
  have F3c : ∀ (w : World) (o : Obj) (k : Nat), (((w.alloc o).drewN k).alloc (.cells #[.string ⟨#[32]⟩, .string ⟨#[9, 32]⟩] 9)).cell? ⟨w.heap.size + 1, r2, none⟩ = some (.string B) := fun w o k => cell_new _ _ _ _ _ hBc _ (by simp)
  have F3d : ∀ (w : World) (o : Obj), ((w.alloc (.cells #[.string ⟨#[32]⟩, .string ⟨#[9, 32]⟩] 9)).alloc o).cell? ⟨w.heap.size, r2, none⟩ = some (.string B) := fun w o => cell_old _ _ _ _ _ hBc _ (by simp) o
  have F3e : ∀ (w : World) (o : Obj) (k : Nat), (((w.alloc (.cells #[.string ⟨#[32]⟩, .string ⟨#[9, 32]⟩] 9)).drewN k).alloc o).cell? ⟨w.heap.size, r2, none⟩ = some (.string B) := fun w o k => (cell_old w _ _ _ _ hBc w.heap.size (by simp) o)
  have F3f : ∀ (w : World), (w.drew.alloc (.cells #[.string ⟨#[32]⟩, .string ⟨#[9, 32]⟩] 9)).cell? ⟨w.heap.size, r2, none⟩ = some (.string B) := fun w => cell_new _ _ _ _ _ hBc _ (by simp)
  have F3g : ∀ (w : World) (o : Obj), ((w.drew.alloc o).alloc (.cells #[.string ⟨#[32]⟩, .string ⟨#[9, 32]⟩] 9)).cell? ⟨w.heap.size + 1, r2, none⟩ = some (.string B) := fun w o => cell_new _ _ _ _ _ hBc _ (by simp)
  have F3h : ∀ (w : World) (o : Obj) (k : Nat), (((w.drew.alloc o).drewN k).alloc (.cells #[.string ⟨#[32]⟩, .string ⟨#[9, 32]⟩] 9)).cell? ⟨w.heap.size + 1, r2, none⟩ = some (.string B) := fun w o k => cell_new _ _ _ _ _ hBc _ (by simp)
  have F3i : ∀ (w : World) (o : Obj), ((w.drew.alloc (.cells #[.string ⟨#[32]⟩, .string ⟨#[9, 32]⟩] 9)).alloc o).cell? ⟨w.heap.size, r2, none⟩ = some (.string B) := fun w o => cell_old _ _ _ _ _ hBc _ (by simp) o
  have F3j : ∀ (w : World) (o : Obj) (k : Nat), (((w.drew.alloc (.cells #[.string ⟨#[32]⟩, .string ⟨#[9, 32]⟩] 9)).drewN k).alloc o).cell? ⟨w.heap.size, r2, none⟩ = some (.string B) := fun w o k => (cell_old w.drew _ _ _ _ hBc w.heap.size (by simp) o)
  have F3k : ∀ (w : World) (n : Nat), ((w.drewN n).alloc (.cells #[.string ⟨#[32]⟩, .string ⟨#[9, 32]⟩] 9)).cell? ⟨w.heap.size, r2, none⟩ = some (.string B) := fun w n => cell_new _ _ _ _ _ hBc _ (by simp)
  have F3l : ∀ (w : World) (n : Nat) (o : Obj), (((w.drewN n).alloc o).alloc (.cells #[.string ⟨#[32]⟩, .string ⟨#[9, 32]⟩] 9)).cell? ⟨w.heap.size + 1, r2, none⟩ = some (.string B) := fun w n o => cell_new _ _ _ _ _ hBc _ (by simp)
  have F3m : ∀ (w : World) (n : Nat) (o : Obj) (k : Nat), ((((w.drewN n).alloc o).drewN k).alloc (.cells #[.string ⟨#[32]⟩, .string ⟨#[9, 32]⟩] 9)).cell? ⟨w.heap.size + 1, r2, none⟩ = some (.string B) := fun w n o k => cell_new _ _ _ _ _ hBc _ (by simp)
  have F3n : ∀ (w : World) (n : Nat) (o : Obj), (((w.drewN n).alloc (.cells #[.string ⟨#[32]⟩, .string ⟨#[9, 32]⟩] 9)).alloc o).cell? ⟨w.heap.size, r2, none⟩ = some (.string B) := fun w n o => cell_old _ _ _ _ _ hBc _ (by simp) o
  have F3o : ∀ (w : World) (n : Nat) (o : Obj) (k : Nat), ((((w.drewN n).alloc (.cells #[.string ⟨#[32]⟩, .string ⟨#[9, 32]⟩] 9)).drewN k).alloc o).cell? ⟨w.heap.size, r2, none⟩ = some (.string B) := fun w n o k => (cell_old (w.drewN n) _ _ _ _ hBc w.heap.size (by simp) o)
  have F3' := get_of hBc
  have v2 : ¬ 9223372036854775807 < A.size + D.size := by omega
  have v3 : ¬ 9223372036854775807 < A.size + D.size + B.size := by omega
  obtain ⟨T, hT⟩ : ∃ T, ((A ++ D) ++ B) = T := ⟨_, rfl⟩
  have hTl : T.data.toList = A.data.toList ++ (Num.spell 16 N ++ (b ++ [32])) := by
    rw [← hT]
    simp only [ByteArray.data_append, Array.toList_append, hB2, hDl]
    simp only [List.append_assoc]
  have hTs : T.size ≤ 67 := by rw [← hT]; simp only [ByteArray.size_append]; omega
  have v9 : ¬ 9223372036854775807 < T.size + 4 := by omega
  obtain ⟨U, hU⟩ : ∃ U, (if e = true then T ++ (⟨#[59, 97, 61, 98]⟩ : ByteArray) else T) = U := ⟨_, rfl⟩
  have hUl : U.data.toList = (A.data.toList ++ (Num.spell 16 N ++ (b ++ [32]))) ++ tailL e := by rw [← hU, tail_text, hTl]
  have hUs : U.size ≤ 71 := by
    rw [← hU]
    cases e
    · show T.size ≤ 71; omega
    · show (T ++ _).size ≤ 71; rw [ByteArray.size_append]; show T.size + 4 ≤ 71; omega
  have C1 := Lib.hid (fun w => size_any U (P0 &&& 4026531839) hP 1024 32 8192 65536 32 8 4 20 true true (by decide) w (by omega))
  have C2 := Lib.hid (fun w => size_any U ((P0 &&& 4026531839) ||| 268435456) hQ 1024 32 8192 65536 32 8 4 20 true true (by decide) w (by omega))
  rw [hUl, o1, (blank_val N (by omega) A.data.toList b hA2 hB3 (Qk.has (P0 &&& 4026531839) 27) e).1] at C1
  rw [hUl, o2, (blank_val N (by omega) A.data.toList b hA2 hB3 (Qk.has ((P0 &&& 4026531839) ||| 268435456) 27) e).2] at C2
  have HT := Lib.hid hT
  have HU := Lib.hid hU
  have hwN : wrap64 (N : Int) = (N : Int) := by unfold wrap64; omega
  have HWN := Lib.hid hwN
  clear hwN o1 o2 hP hQ hp0 hP0 hN ha hD hDl hDs hr2 hl2 hTl hTs hUl hUs hT hU hm hr3 hl3 hA1 hA2 hB1 hB2 hB3
  generalize (P0 &&& 4026531839) ||| 268435456 = Q at *
  generalize P0 &&& 4026531839 = P at *
  go_enter Tryd.func5, Tryd.ntmps5
  go_upto_region 4 with (first
    | (go_at_call 17; (with_reducible refine (Bnd.rusual_any _).mono ?_); rintro e w2 ⟨rfl, hb⟩
       have HBB := Lib.hid (BB.new (Base.below_step HB1.out hb) 29 1024 32 8192 65536 32 8 4 20 true true)
       clear hb)
    | (go_at_call 7; (with_reducible refine (known_any _).mono ?_); rintro e w1 ⟨rfl, hb⟩
       have HB1 := Lib.hid hb
       clear hb))
  clear HB1
  generalize w2.alloc (.cells #[.int .i64 1024, .int .i64 32, .int .i64 8192, .int .i64 65536, .int .i64 32, .int .i64 8, .int .i64 4, .int .i64 20, .bool true, .bool true] 29) = W at *
  generalize w2.heap.size = g at *
  go_cut [12, 13] from 22 to 30 (fun p q wx => p = .int .i64 27 ∧ q = .string ((⟨#[48, m]⟩ : ByteArray) ++ D) ∧ Hid (BB 1024 32 8192 65536 32 8 4 20 true true w g wx))
  case first =>
    clear C1 C2 HT HU N1 N2 hm0 F2a F2b F2c F2d F2e F2f F2g F2h F2i F2j F2k F2l F2m F2n F2o F2' F3a F3b F3c F3d F3e F3f F3g F3h F3i F3j F3k F3l F3m F3n F3o F3' hAc hBc him3 v2 v3
    go_region_with (go_at_call 11; (with_reducible refine (HP.out _).mono ?_); rintro e w3 ⟨rfl, m3, hw⟩; rw [hw]; clear hw)
    all_goals
      go_wp2_with fail
      go_meet
      case rel => exact ⟨rfl, rfl, Lib.hid (HBB.out.step (by
          repeat (first | exact Below.refl _ _ | with_reducible refine Base.below_drewN ?_ _ | (refine Below.drew ?_) | (refine Below.alloc ?_ (by simp <;> omega) _))))⟩
  case rest =>
    obtain ⟨rfl, rfl, HB3⟩ := hcut
    clear HBB F1a F1b F1c F1d F1e F1f F1g F1h F1i F1j F1k F1l F1m F1n F1o F1' hmc v1
    go_upto_region 6 with fail
    go_cut [12, 13] from 32 to 46 (fun p q wx => p = .int .i64 28 ∧ q = .string ((A ++ D) ++ B) ∧ Hid (BB 1024 32 8192 65536 32 8 4 20 true true w g wx))
    case first =>
      clear C1 C2 HT HU N1 N2 hm0
      go_region_with (go_at_call 11; (with_reducible refine (HP.out _).mono ?_); rintro e w4 ⟨rfl, m4, hw⟩; rw [hw]; clear hw)
      all_goals
        go_wp2_with fail
        go_meet
        case rel => exact ⟨rfl, rfl, Lib.hid (HB3.out.step (by
              repeat (first | exact Below.refl _ _ | with_reducible refine Base.below_drewN ?_ _ | (refine Below.drew ?_) | (refine Below.alloc ?_ (by simp <;> omega) _))))⟩
    case rest =>
     obtain ⟨rfl, rfl, HB4⟩ := hcut
     rw [HT.out]
     clear HT F2a F2b F2c F2d F2e F2f F2g F2h F2i F2j F2k F2l F2m F2n F2o F2' F3a F3b F3c F3d F3e F3f F3g F3h F3i F3j F3k F3l F3m F3n F3o F3' hAc hBc him2 him3 HP v2 v3 HB3
     generalize hwd : wc = wd at *
     go_upto_if 47 with fail
     go_cut [13] from 48 to 49 (fun v wx => v = .string U ∧ wx = wd)
     case first =>
      have hu := HU.out
      clear C1 C2 HB4 N1 N2 hm0 HU
      cases e
      · rw [if_neg (by decide)] at hu
        subst hu
        go_wp2_with fail
        go_meet
        case rel => exact ⟨rfl, rfl⟩
      · rw [if_pos rfl] at hu
        subst hu
        go_wp2_with fail
        go_meet
        case rel => exact ⟨rfl, rfl⟩
     case rest =>
       obtain ⟨rfl, hw0⟩ := hcut
       rw [hw0]
       clear hw0 HU v9
       obtain ⟨⟨q0, q1, q2, q3, q4, q5, q6, q7, q8, q9⟩, hlt, hbk⟩ := HB4.out
       clear hlt hbk
       have hwN := HWN.out
       go_upto_region 11 with (go_at_call 13; (with_reducible refine (C1.out _).mono ?_); rintro e w5 ⟨rfl, hb⟩
                               have HB5 := Lib.hid (HB4.out.step hb)
                               clear hb)
       clear q0 q1 q2 q3 q4 q5 q6 q7 q8 q9
       obtain ⟨⟨q0, q1, q2, q3, q4, q5, q6, q7, q8, q9⟩, hlt, hbk⟩ := HB5.out
       clear hlt hbk
       go_region_with (go_at_call 13; (with_reducible refine (C2.out _).mono ?_); rintro e w6 ⟨rfl, hb⟩
                       have HB6 := Lib.hid ((HB5.out.drew 1).step hb)
                       clear hb)
       all_goals
         go_wp2_with fail
         go_ret
         exact ⟨rfl, HB6.out.b⟩
theorem chunkClauses_any (N a : Nat) (which : Bool) (x : Nat) (e : Bool) (w : World) (hN : N < 65536) (ha : a < 4294967296) :
    Calls Tryd.prog 5 #[.int .u16 (N : Int), .int .u32 (a : Int), .bool which, .int .u8 (x : Int), .bool e] w fun en w' => en = .returned (.bool true) ∧ Below w.heap.size w w' := by
  cases which
  · exact clauses_false N a x e w hN ha
  · exact clauses_true N a x e w hN ha
end code
end Go.Proofs.YtonedklnjkjcgaaDoor.Chk
