/-
  Layer 2 (number): the walk of NumberOrder: it returns true, and writes nothing that was there.
-/
import Derived.Test.YtnjlloiifdkcgaaDoorNumBack
namespace Go.Proofs.YtnjlloiifdkcgaaDoor.Num
open Go.RowKit Base Oct

attribute [local go_sem] Base.some_undef

section code
set_option maxHeartbeats 4000000
theorem order_walk (a b : Int) (w : World) (a0 : -9223372036854775808 ≤ a) (a1 : a ≤ 9223372036854775807) (b0 : -9223372036854775808 ≤ b) (b1 : b ≤ 9223372036854775807) :
    Calls Tryd.prog 6 #[.int .i64 a, .int .i64 b] w fun e w' => e = .returned (.bool true) ∧ Below w.heap.size w w' := by
  have hA0 : 0 ≤ max a 0 := by omega
  have hA1 : max a 0 ≤ 9223372036854775807 := by omega
  have hB0 : 0 ≤ max b 0 := by omega
  have hB1 : max b 0 ≤ 9223372036854775807 := by omega
  generalize hax : max a 0 = A at *
  generalize hbx : max b 0 = B at *
  have o1 := spell_order (b := 10) (by omega) (by omega) A.toNat B.toNat
  have o2 := spell_order (b := 16) (by omega) (by omega) A.toNat B.toNat
  have n1 : 0 < (spell 10 A.toNat).length := List.length_pos_iff.2 (spell_ne (by omega) _)
  have n2 : 0 < (spell 16 A.toNat).length := List.length_pos_iff.2 (spell_ne (by omega) _)
  have n3 : 0 < (spell 10 B.toNat).length := List.length_pos_iff.2 (spell_ne (by omega) _)
  have n4 : 0 < (spell 16 B.toNat).length := List.length_pos_iff.2 (spell_ne (by omega) _)
  have z1 := spell_size (b := 10) (by omega) A hA1
  have z2 := spell_size (b := 16) (by omega) A hA1
  have z3 := spell_size (b := 10) (by omega) B hB1
  have z4 := spell_size (b := 16) (by omega) B hB1
  have hd : decide (A.toNat < B.toNat) = decide (A < B) := by rw [decide_eq_decide]; omega
  rw [hd] at o1 o2
  rw [← str_size] at n1 n2 n3 n4
  rw [← str_size, ← str_size, show Op.bytesLess (spell 10 A.toNat) (spell 10 B.toNat) = Op.bytesLess (str (spell 10 A.toNat)).toList (str (spell 10 B.toNat)).toList from by rw [Go.ByteArray.toList_eq, Go.ByteArray.toList_eq]; rfl] at o1
  rw [← str_size, ← str_size, show Op.bytesLess (spell 16 A.toNat) (spell 16 B.toNat) = Op.bytesLess (str (spell 16 A.toNat)).toList (str (spell 16 B.toNat)).toList from by rw [Go.ByteArray.toList_eq, Go.ByteArray.toList_eq]; rfl] at o2
  have p1 := Lib.hid (fun w => put_any A w hA1)
  have p2 := Lib.hid (fun w => putHex_any A w hA1)
  have p3 := Lib.hid (fun w => put_any B w hB1)
  have p4 := Lib.hid (fun w => putHex_any B w hB1)
  generalize str (spell 10 A.toNat) = S at *
  generalize str (spell 10 B.toNat) = T at *
  generalize str (spell 16 A.toNat) = U at *
  generalize str (spell 16 B.toNat) = V at *
  clear hd
  generalize hl1 : Op.bytesLess S.toList T.toList = L1 at *
  generalize hl2 : Op.bytesLess U.toList V.toList = L2 at *
  have hcase : (A < B ∧ (S.size < T.size ∨ (S.size = T.size ∧ L1 = true)) ∧ (U.size < V.size ∨ (U.size = V.size ∧ L2 = true))) ∨ (¬ A < B ∧ ((¬ S.size < T.size ∧ ((S.size : Int) == (T.size : Int)) = false) ∨ (S.size = T.size ∧ L1 = false)) ∧ ((¬ U.size < V.size ∧ ((U.size : Int) == (V.size : Int)) = false) ∨ (U.size = V.size ∧ L2 = false))) := by
    by_cases hAB : A < B
    · left
      simp only [hAB, decide_true] at o1 o2
      have o1 := o1.symm
      have o2 := o2.symm
      simp only [Bool.or_eq_true, decide_eq_true_eq, Bool.and_eq_true] at o1 o2
      exact ⟨hAB, o1, o2⟩
    · right
      simp only [hAB, decide_false] at o1 o2
      have o1 := o1.symm
      have o2 := o2.symm
      simp only [Bool.or_eq_false_iff, decide_eq_false_iff_not, Bool.and_eq_false_iff] at o1 o2
      refine ⟨hAB, ?_, ?_⟩
      · rcases o1 with ⟨h1, h2 | h2⟩
        · exact .inl ⟨by omega, by rw [beq_eq_false_iff_ne]; omega⟩
        · by_cases he : S.size = T.size
          · exact .inr ⟨he, h2⟩
          · exact .inl ⟨by omega, by rw [beq_eq_false_iff_ne]; omega⟩
      · rcases o2 with ⟨h1, h2 | h2⟩
        · exact .inl ⟨by omega, by rw [beq_eq_false_iff_ne]; omega⟩
        · by_cases he : U.size = V.size
          · exact .inr ⟨he, h2⟩
          · exact .inl ⟨by omega, by rw [beq_eq_false_iff_ne]; omega⟩
  clear o1 o2
  rcases hcase with ⟨hAB, c1 | ⟨c1, rfl⟩, c2 | ⟨c2, rfl⟩⟩ | ⟨hAB, ⟨c1, d1⟩ | ⟨c1, rfl⟩, ⟨c2, d2⟩ | ⟨c2, rfl⟩⟩
  all_goals
    go_enter Tryd.func6, Tryd.ntmps6
    go_wp2_with (first
      | (go_at_call 7; refine (known_any _).mono ?_; rintro e w1 ⟨rfl, hb⟩)
      | (go_at_call 15; with_reducible refine (p1.out _).mono ?_; rintro e w5 ⟨rfl, m5, rfl⟩)
      | (go_at_call 16; with_reducible refine (p2.out _).mono ?_; rintro e w6 ⟨rfl, m6, rfl⟩)
      | (go_at_call 15; with_reducible refine (p3.out _).mono ?_; rintro e w7 ⟨rfl, m7, rfl⟩)
      | (go_at_call 16; with_reducible refine (p4.out _).mono ?_; rintro e w8 ⟨rfl, m8, rfl⟩))
    go_ret
    refine ⟨by first | rfl | exact ret_bool (by simp; omega), ?_⟩
    (repeat (first | exact Below.refl _ _ | assumption | with_reducible refine Base.below_drewN ?_ _ | (refine Base.below_step ?_ (by assumption))))
end code
end Go.Proofs.YtnjlloiifdkcgaaDoor.Num
