/-
  Layer 11 (chunk): the contracts of package chunk's Size and of what it calls.
-/
import Derived.Test.YtonedklnjkjcgaaDoorChkWords
import Derived.Test.YtonedklnjkjcgaaDoorText
import Derived.WalkKit
import Derived.WalkMore
import Derived.Deep.RegionWith
import Derived.Deep.CutBlock
import Derived.Deep.CutRange
import Derived.Deep.DeepCutAuto
import Derived.Deep.QuietTactic
import Derived.BigQuiet
namespace Go.Proofs.YtonedklnjkjcgaaDoor.Chk
open Go.RowKit Base Txt

theorem drop_ext (l : List UInt8) : l.drop (Tgt.cutAt 59 l).1.length = extL l := by
  have h := ext_split l
  generalize (Tgt.cutAt 59 l).1 = A at *
  generalize extL l = E at *
  rw [h, List.drop_left]
theorem same_mark (l : List UInt8) (a b : UInt8) (r : List UInt8) (h : l = a :: b :: r) : l.drop 2 = r ∧ l.take 2 = [a, b] := by subst h; exact ⟨rfl, rfl⟩

section code
set_option maxHeartbeats 8000000
set_option maxRecDepth 100000
attribute [local go_sem] Base.some_undef
theorem parts_any (s : ByteArray) (w : World) (hs : s.size ≤ 1000000000) : Calls Tryd.prog 19 #[.string s] w fun e w' =>
    e = .returned (.tuple #[.string (ba (Tgt.cutAt 59 s.data.toList).1), .string (ba (extL s.data.toList))]) ∧ ∃ n, w' = w.drewN n := by
  have HI := Lib.hid (fun w => Tgt.cut_any s 59 w hs)
  have hle := (ext_le s.data.toList).2
  rw [len] at hle
  have e1 : s.extract (Tgt.cutAt 59 s.data.toList).1.length s.size = ba (extL s.data.toList) := ba_ext (by
    rw [Lib.extract_data, List.take_of_length_le (by rw [List.length_drop, len]; omega)]
    exact drop_ext s.data.toList)
  rw [← e1]
  have hsz : (ba (Tgt.cutAt 59 s.data.toList).1).size = (Tgt.cutAt 59 s.data.toList).1.length := by rw [← len]; rfl
  rw [← hsz] at hle ⊢
  clear e1 hsz
  generalize Tgt.cutAt 59 s.data.toList = r at *
  obtain ⟨r1, r2, r3⟩ := r
  dsimp only at HI hle ⊢
  generalize ba r1 = R1 at *
  generalize ba r2 = R2 at *
  have c1 : (R1.size : Int) ≤ (s.size : Int) := by omega
  have c0 : (0 : Int) ≤ (R1.size : Int) := by omega
  go_enter Tryd.func19, Tryd.ntmps19
  go_wp2_with (go_at_call 28; with_reducible refine (HI.out _).mono ?_; rintro e w1 ⟨rfl, n, hw⟩; rw [hw]; clear hw)
  go_quiet (fail)
  rename_i nq
  go_wp2
  go_ret2
  exact ⟨rfl, n + nq, by simp [World.drewN, Nat.add_assoc]⟩
theorem isExt_any (s : ByteArray) (most : Int) (w : World) (hs : s.size ≤ 1000000000) : Calls Tryd.prog 20 #[.string s, .int .i64 most] w fun e w' =>
    e = .returned (.bool (isx most s.data.toList)) ∧ Below w.heap.size w w' := by
  unfold isx
  rcases Nat.eq_zero_or_pos s.size with h0 | h0
  · obtain rfl : s = ⟨#[]⟩ := ba_ext (List.length_eq_zero_iff.1 (by rw [len]; exact h0))
    go_enter Tryd.func20, Tryd.ntmps20
    go_wp2
    go_ret
    exact ⟨rfl, Below.refl _ _⟩
  · have hne : s.data.toList.isEmpty = false := by
      rw [Bool.eq_false_iff]; intro h; rw [List.isEmpty_iff] at h; have := congrArg List.length h; rw [len, List.length_nil] at this; omega
    have hne2 : ¬ s.toList = [] := by rw [Go.ByteArray.toList_eq]; intro h; rw [h] at hne; cases hne
    have hne3 : s.toList.isEmpty = false := by rw [Go.ByteArray.toList_eq]; exact hne
    rw [hne, Bool.false_or, len]
    have HA : Hid (∀ w a, Ints w a 1 [6] → Calls Tryd.prog 29 #[.string s, .slice a 1 1] w fun e w' => e = .returned (.bool (Oct.allOf [6] s.data.toList)) ∧ w' = w) := Lib.hid fun w a hk => Oct.all_any s a 1 1 [6] w (by unfold maxLen; omega) hk (by decide)
    generalize Oct.allOf [6] s.data.toList = b at *
    rcases Int.lt_or_le most (s.size : Int) with h | h
    · have d1 : decide ((s.size : Int) ≤ most) = false := decide_eq_false (by omega)
      rw [d1]
      clear hs hne
      go_enter Tryd.func20, Tryd.ntmps20
      go_wp2
      go_ret
      exact ⟨rfl, Below.refl _ _⟩
    · have d1 : decide ((s.size : Int) ≤ most) = true := decide_eq_true h
      rw [d1]
      clear hs hne
      cases b
      all_goals
        go_enter Tryd.func20, Tryd.ntmps20
        go_wp2_with (go_at_call 29; with_reducible refine (HA.out _ _ (Ints.one _ _ rfl _ _)).mono ?_; rintro e w1 ⟨rfl, hw⟩; rw [hw]; clear hw)
        go_ret
        exact ⟨rfl, (Below.refl _ _).alloc (Nat.le_refl _) _⟩
theorem bare_any (z : ByteArray) (p : Nat) (hp : p < 4294967296) (w : World) (hz : z.size ≤ 1000000000) : Calls Tryd.prog 22 #[.string z, .int .u32 (p : Nat)] w fun e w' =>
    e = .returned (.string (ba (pieceL (Qk.has p 27) (Qk.has p 28) z.data.toList))) ∧ Below w.heap.size w w' := by
  have H7 := Lib.hid (fun w => Qk.has_any p hp 27 w)
  have H8 := Lib.hid (fun w => Qk.has_any p hp 28 w)
  have HT := Lib.hid (fun w => trim_any z w (by unfold maxLen; omega))
  have ht : (trim z).size ≤ z.size := trim_size _ _
  have key : ∀ (b : Bool) (T : ByteArray), T.data.toList = (if b = true then trimL Txt.blank z.data.toList else z.data.toList) → ∀ a : Bool, pieceL a b z.data.toList = if a = true then bare T.data.toList else T.data.toList := fun b T h a => by
    unfold pieceL; rw [← h]
  obtain ⟨b8, h8⟩ : ∃ b, Qk.has p 28 = b := ⟨_, rfl⟩
  obtain ⟨b7, h7⟩ : ∃ b, Qk.has p 27 = b := ⟨_, rfl⟩
  rw [h7] at H7 ⊢
  rw [h8] at H8 ⊢
  clear h7 h8
  obtain ⟨T, hT, hTz, HC⟩ : ∃ T : ByteArray, T.data.toList = (if b8 = true then trimL Txt.blank z.data.toList else z.data.toList) ∧ T.size ≤ 1000000000 ∧ Hid (T = if b8 = true then trim z else z) := by
    cases b8 with
    | true => exact ⟨trim z, rfl, by omega, Lib.hid rfl⟩
    | false => exact ⟨z, rfl, hz, Lib.hid rfl⟩
  rw [key b8 T hT b7]
  clear key hT ht
  have e0 : ba T.data.toList = T := ba_ext rfl
  cases b7 with
  | false =>
    rw [if_neg (by decide), e0]
    clear e0 hz hTz
    cases b8 with
    | false =>
      obtain rfl : T = z := HC.out
      clear HT
      go_enter Tryd.func22, Tryd.ntmps22
      go_wp2_with (first
        | (go_at_call 31; with_reducible refine (H8.out _).mono ?_; rintro e w1 ⟨rfl, hw⟩; rw [hw]; clear hw)
        | (go_at_call 31; with_reducible refine (H7.out _).mono ?_; rintro e w1 ⟨rfl, hw⟩; rw [hw]; clear hw))
      go_ret
      exact ⟨rfl, Below.refl _ _⟩
    | true =>
      obtain rfl : T = trim z := HC.out
      generalize trim z = T at *
      go_enter Tryd.func22, Tryd.ntmps22
      go_wp2_with (first
        | (go_at_call 31; with_reducible refine (H8.out _).mono ?_; rintro e w1 ⟨rfl, hw⟩; rw [hw]; clear hw)
        | (go_at_call 31; with_reducible refine (H7.out _).mono ?_; rintro e w1 ⟨rfl, hw⟩; rw [hw]; clear hw)
        | (go_at_call 32; with_reducible refine (HT.out _).mono ?_; rintro e w1 ⟨rfl, hw⟩; rw [hw]; clear hw))
      go_ret
      exact ⟨rfl, Below.refl _ _⟩
  | true =>
    rw [if_pos rfl]
    rcases Nat.lt_or_ge T.size 2 with h2 | h2
    · have em : bare T.data.toList = T.data.toList := by
        unfold bare marked
        rw [len, decide_eq_false (by omega), Bool.false_and, if_neg (by decide)]
      rw [em, e0]
      have d1 : decide ((2 : Int) ≤ (T.size : Int)) = false := decide_eq_false (by omega)
      clear em e0 hz hTz
      cases b8 with
      | false =>
        obtain rfl : T = z := HC.out
        clear HT
        go_enter Tryd.func22, Tryd.ntmps22
        go_wp2_with (first
          | (go_at_call 31; with_reducible refine (H8.out _).mono ?_; rintro e w1 ⟨rfl, hw⟩; rw [hw]; clear hw)
          | (go_at_call 31; with_reducible refine (H7.out _).mono ?_; rintro e w1 ⟨rfl, hw⟩; rw [hw]; clear hw))
        go_ret
        exact ⟨rfl, Below.refl _ _⟩
      | true =>
        obtain rfl : T = trim z := HC.out
        generalize trim z = T at *
        go_enter Tryd.func22, Tryd.ntmps22
        go_wp2_with (first
          | (go_at_call 31; with_reducible refine (H8.out _).mono ?_; rintro e w1 ⟨rfl, hw⟩; rw [hw]; clear hw)
          | (go_at_call 31; with_reducible refine (H7.out _).mono ?_; rintro e w1 ⟨rfl, hw⟩; rw [hw]; clear hw)
          | (go_at_call 32; with_reducible refine (HT.out _).mono ?_; rintro e w1 ⟨rfl, hw⟩; rw [hw]; clear hw))
        go_ret
        exact ⟨rfl, Below.refl _ _⟩
    · have hx : T.extract 0 2 = ba (T.data.toList.take 2) := ba_ext (by rw [Lib.extract_data]; simp [ba])
      have hx2 : T.extract 2 T.size = ba (T.data.toList.drop 2) := ba_ext (by rw [Lib.extract_data, List.take_of_length_le (by rw [List.length_drop, len]; omega)]; rfl)
      have HS := Lib.hid (fun w => same_any (T.extract 0 2) ⟨#[48, 120]⟩ w (by rw [hx, ← len]; unfold maxLen; simp [ba]; omega))
      have em : bare T.data.toList = if same (T.extract 0 2) ⟨#[48, 120]⟩ = true then T.data.toList.drop 2 else T.data.toList := by
        unfold bare marked
        rw [len, decide_eq_true h2, Bool.true_and, hx]
      rw [em]
      generalize same (T.extract 0 2) ⟨#[48, 120]⟩ = q at *
      have e3 : ba (if q = true then T.data.toList.drop 2 else T.data.toList) = if q = true then T.extract 2 T.size else T := by
        cases q
        · rw [if_neg (by decide), if_neg (by decide)]; exact e0
        · rw [if_pos rfl, if_pos rfl]; exact hx2.symm
      rw [e3]
      have d1 : decide ((2 : Int) ≤ (T.size : Int)) = true := decide_eq_true (by omega)
      have d2 : (2 : Int) ≤ (T.size : Int) := by omega
      clear em e0 e3 hx hx2 hz hTz
      cases b8 with
      | false =>
        obtain rfl : T = z := HC.out
        clear HT
        cases q
        all_goals
          go_enter Tryd.func22, Tryd.ntmps22
          go_wp2_with (first
            | (go_at_call 31; with_reducible refine (H8.out _).mono ?_; rintro e w1 ⟨rfl, hw⟩; rw [hw]; clear hw)
            | (go_at_call 31; with_reducible refine (H7.out _).mono ?_; rintro e w1 ⟨rfl, hw⟩; rw [hw]; clear hw)
            | (go_at_call 33; with_reducible refine (HS.out _).mono ?_; rintro e w1 ⟨rfl, hb⟩))
          go_ret
          exact ⟨rfl, hb⟩
      | true =>
        obtain rfl : T = trim z := HC.out
        generalize trim z = T at *
        cases q
        all_goals
          go_enter Tryd.func22, Tryd.ntmps22
          go_wp2_with (first
            | (go_at_call 31; with_reducible refine (H8.out _).mono ?_; rintro e w1 ⟨rfl, hw⟩; rw [hw]; clear hw)
            | (go_at_call 31; with_reducible refine (H7.out _).mono ?_; rintro e w1 ⟨rfl, hw⟩; rw [hw]; clear hw)
            | (go_at_call 32; with_reducible refine (HT.out _).mono ?_; rintro e w1 ⟨rfl, hw⟩; rw [hw]; clear hw)
            | (go_at_call 33; with_reducible refine (HS.out _).mono ?_; rintro e w1 ⟨rfl, hb⟩))
          go_ret
          exact ⟨rfl, hb⟩
theorem size_any (s : ByteArray) (p : Nat) (hp : p < 4294967296) (x0 x1 x2 x3 x4 x5 x6 x7 : Int) (ch od : Bool) (h3 : x3 ≤ 9223372036854775807) (w : World) (hs : s.size ≤ 1000000000) :
    Calls Tryd.prog 13 #[.string s, .int .u32 (p : Nat), Bnd.bnd x0 x1 x2 x3 x4 x5 x6 x7 ch od] w fun e w' =>
      e = .returned (.tuple #[.int .i64 (sizeV (Qk.has p 27) (Qk.has p 28) x4 x3 s.data.toList).1, .int .i64 (sizeV (Qk.has p 27) (Qk.has p 28) x4 x3 s.data.toList).2]) ∧ Below w.heap.size w w' := by
  have hle := ext_le s.data.toList
  rw [len] at hle
  have HP := Lib.hid (fun w => parts_any s w hs)
  have HX := Lib.hid (fun w => isExt_any (ba (extL s.data.toList)) x4 w (by rw [← len]; show (extL s.data.toList).length ≤ _; omega))
  have hb0 : (ba (Tgt.cutAt 59 s.data.toList).1).size ≤ 1000000000 := by rw [← len]; show (Tgt.cutAt 59 s.data.toList).1.length ≤ _; omega
  have HB := Lib.hid (fun w => bare_any (ba (Tgt.cutAt 59 s.data.toList).1) p hp w hb0)
  have hsl : (ba (sizeL (Qk.has p 27) (Qk.has p 28) s.data.toList)).size ≤ maxLen := by
    have h1 := piece_le (Qk.has p 27) (Qk.has p 28) (Tgt.cutAt 59 s.data.toList).1
    rw [← len]; show (pieceL _ _ _).length ≤ _; unfold maxLen; omega
  have HN := Lib.hid (fun w => Num.hexN_any x3 h3 (ba (sizeL (Qk.has p 27) (Qk.has p 28) s.data.toList)) w hsl)
  have e1 : (ba (sizeL (Qk.has p 27) (Qk.has p 28) s.data.toList)).data.toList = sizeL (Qk.has p 27) (Qk.has p 28) s.data.toList := rfl
  have e2 : (ba (extL s.data.toList)).data.toList = extL s.data.toList := rfl
  have e3 : pieceL (Qk.has p 27) (Qk.has p 28) (ba (Tgt.cutAt 59 s.data.toList).1).data.toList = sizeL (Qk.has p 27) (Qk.has p 28) s.data.toList := rfl
  rw [e1] at HN
  rw [e2] at HX
  rw [e3] at HB
  unfold sizeV
  clear e1 e2 e3 hsl hb0 hle
  generalize Num.readOf 16 x3 (sizeL (Qk.has p 27) (Qk.has p 28) s.data.toList) = R at *
  generalize ba (sizeL (Qk.has p 27) (Qk.has p 28) s.data.toList) = Z at *
  generalize isx x4 (extL s.data.toList) = q at *
  generalize ba (extL s.data.toList) = E at *
  generalize ba (Tgt.cutAt 59 s.data.toList).1 = C at *
  obtain ⟨r1, r2⟩ := R
  dsimp only at HN
  have HBB := Lib.hid (BB.new (Below.refl w.heap.size w) 29 x0 x1 x2 x3 x4 x5 x6 x7 ch od)
  cases q with
  | false =>
    rw [if_neg (by decide)]
    clear HN HB
    go_enter Tryd.func13, Tryd.ntmps13
    go_wp2_with (first
      | (go_at_call 20; (with_reducible refine (HX.out _).mono ?_); rintro e w2 ⟨rfl, hb⟩
         have HB2 := Lib.hid (HBB1.out.step hb)
         clear hb)
      | (go_at_call 19; (with_reducible refine (HP.out _).mono ?_); rintro e w1 ⟨rfl, m, hw⟩
         have HBB1 := Lib.hid (HBB.out.drew m)
         rw [← hw] at HBB1
         obtain ⟨⟨q0, q1, q2, q3, q4, q5, q6, q7, q8, q9⟩, hlt, hbk⟩ := HBB1.out
         clear hw hlt hbk))
    go_ret2
    exact ⟨rfl, HB2.out.b⟩
  | true =>
    rw [if_pos rfl]
    have hcase : (r2 = 22 ∧ numV (r1, r2) = (0, 400)) ∨ ((r2 == 22) = false ∧ r2 = 23 ∧ numV (r1, r2) = (0, 413)) ∨ ((r2 == 22) = false ∧ (r2 == 23) = false ∧ numV (r1, r2) = (r1, 0)) := by
      unfold numV
      by_cases h1 : r2 = 22
      · exact .inl ⟨h1, by rw [if_pos h1]⟩
      · by_cases h2 : r2 = 23
        · exact .inr (.inl ⟨by simp [h1], h2, by rw [if_neg h1, if_pos h2]⟩)
        · exact .inr (.inr ⟨by simp [h1], by simp [h2], by rw [if_neg h1, if_neg h2]⟩)
    generalize numV (r1, r2) = V at *
    have hcase' := Lib.hid hcase
    clear hcase
    go_enter Tryd.func13, Tryd.ntmps13
    go_upto_region 4 with (first
      | (go_at_call 20; (with_reducible refine (HX.out _).mono ?_); rintro e w2 ⟨rfl, hb⟩
         have HB2 := Lib.hid (HBB1.out.step hb)
         clear hb)
      | (go_at_call 19; (with_reducible refine (HP.out _).mono ?_); rintro e w1 ⟨rfl, m, hw⟩
         have HBB1 := Lib.hid (HBB.out.drew m)
         rw [← hw] at HBB1
         obtain ⟨⟨q0, q1, q2, q3, q4, q5, q6, q7, q8, q9⟩, hlt, hbk⟩ := HBB1.out
         clear hw hlt hbk))
    clear q0 q1 q2 q3 q4 q5 q6 q7 q8 q9 HBB HBB1 HX HP
    obtain ⟨⟨q0, q1, q2, q3, q4, q5, q6, q7, q8, q9⟩, hlt, hbk⟩ := HB2.out
    clear q0 q1 q2 q4 q5 q6 q7 q8 q9 hlt hbk
    generalize w.heap.size = g at *
    go_cut [10, 11] from 22 to 30 (fun a b wx => a = .int .i64 r1 ∧ b = .int .i64 r2 ∧ Hid (BB x0 x1 x2 x3 x4 x5 x6 x7 ch od w g wx))
    case first =>
      go_region_with (first
        | (go_at_call 21; (with_reducible refine (HN.out _).mono ?_); rintro e w4 ⟨rfl, hb⟩
           have HB4 := Lib.hid (HB3.out.step hb)
           clear hb)
        | (go_at_call 22; (with_reducible refine (HB.out _).mono ?_); rintro e w3 ⟨rfl, hb⟩
           have HB3 := Lib.hid ((HB2.out.drew 1).step hb)
           obtain ⟨⟨q0, q1, q2, q3, q4, q5, q6, q7, q8, q9⟩, hlt, hbk⟩ := HB3.out
           clear q0 q1 q2 q4 q5 q6 q7 q8 q9 hlt hbk hb))
      all_goals
        go_wp2_with fail
        go_meet
        case rel => exact ⟨rfl, rfl, HB4⟩
    case rest =>
      obtain ⟨rfl, rfl, HW⟩ := hcut
      rcases hcase'.out with ⟨rfl, rfl⟩ | ⟨t1, rfl, rfl⟩ | ⟨t1, t2, rfl⟩
      all_goals
        go_wp2_with fail
        go_ret2
        exact ⟨rfl, HW.out.b⟩
end code
end Go.Proofs.YtonedklnjkjcgaaDoor.Chk
