/-
  Layer 11 (chunk), in plain words, in the document's order: the size that a chunk's line says, what is wrong with it, and how bytes in parts are written as chunks; a block of bounds. No program is spoken of.
-/
import Derived.Test.YtibnobdbmojjhaaGreatDoorNumber
import Derived.Test.YtibnobdbmojjhaaGreatDoorOctet
import Derived.Test.YtibnobdbmojjhaaGreatDoorQuirks
import Derived.Test.YtibnobdbmojjhaaGreatDoorCut
import Derived.Test.YtibnobdbmojjhaaGreatDoorBounds
import Derived.Test.YtibnobdbmojjhaaGreatDoorText
import Derived.WalkKit
import Derived.WalkMore
import Derived.Deep.RegionWith
import Derived.Deep.CutBlock
import Derived.Deep.CutRange
import Derived.Deep.DeepCutAuto
import Derived.Deep.QuietTactic
import Derived.BigQuiet
import Derived.Lib.AppendStr
import Derived.Maps.AppendAt
import Derived.Laws.OwnMore
namespace Go.Proofs.YtibnobdbmojjhaaGreatDoor.Chk
open Go.RowKit Base Txt

/-- The extension: from the first semicolon on. -/
def extL (l : List UInt8) : List UInt8 := if (Tgt.cutAt 59 l).2.2 = true then 59 :: (Tgt.cutAt 59 l).2.1 else []
def marked (l : List UInt8) : Bool := decide (2 ≤ l.length) && same (ba (l.take 2)) ⟨#[48, 120]⟩
def bare (l : List UInt8) : List UInt8 := if marked l = true then l.drop 2 else l
/-- The size, without what a profile lets stand around it. -/
def pieceL (hex blanks : Bool) (z : List UInt8) : List UInt8 := if hex = true then bare (if blanks = true then trimL Txt.blank z else z) else (if blanks = true then trimL Txt.blank z else z)
def sizeL (hex blanks : Bool) (l : List UInt8) : List UInt8 := pieceL hex blanks (Tgt.cutAt 59 l).1
def numV (r : Int × Int) : Int × Int := if r.2 = 22 then (0, 400) else if r.2 = 23 then (0, 413) else (r.1, 0)
def isx (ext : Int) (l : List UInt8) : Bool := l.isEmpty || (decide ((l.length : Int) ≤ ext) && Oct.allOf [6] l)
def sizeV (hex blanks : Bool) (ext body : Int) (l : List UInt8) : Int × Int :=
  if isx ext (extL l) = true then numV (Num.readOf 16 body (sizeL hex blanks l)) else (0, 400)
def chunkL (c : List UInt8) : List UInt8 := if c = [] then [] else Num.spell 16 c.length ++ [13, 10] ++ c ++ [13, 10]
def putL (cs : List (List UInt8)) : List UInt8 := cs.flatMap chunkL ++ [48, 13, 10]
theorem put_snoc (cs : List (List UInt8)) (c : List UInt8) : (cs ++ [c]).flatMap chunkL = cs.flatMap chunkL ++ chunkL c := by simp [List.flatMap_append]

theorem ext_split (l : List UInt8) : l = (Tgt.cutAt 59 l).1 ++ extL l := by
  unfold extL
  rcases Tgt.cut_cases 59 l with h | ⟨a, r, h, hn⟩
  · rw [Tgt.cutAt_none 59 l h]; simp
  · rw [h, Tgt.cutAt_app 59 a r hn]; simp
theorem ext_le (l : List UInt8) : (extL l).length ≤ l.length ∧ (Tgt.cutAt 59 l).1.length ≤ l.length := by
  have h := congrArg List.length (ext_split l)
  rw [List.length_append] at h
  omega
/-- With no bound below 0, an extension that isn't there is always right: the document's form. -/
theorem isx_eq (ext : Int) (h : 0 ≤ ext) (l : List UInt8) : isx ext l = !(decide (ext < (l.length : Int)) || !Oct.allOf [6] l) := by
  unfold isx
  cases l with
  | nil => simp [Oct.allOf, h]
  | cons a t =>
    rw [List.isEmpty_cons, Bool.false_or, Bool.not_or, Bool.not_not]
    congr 1
    rw [Bool.eq_iff_iff]
    simp
theorem trimL_le (p : UInt8 → Bool) (l : List UInt8) : (trimL p l).length ≤ l.length := by
  unfold trimL
  rw [List.length_reverse]
  have h1 := (List.dropWhile_sublist p (l := (l.dropWhile p).reverse)).length_le
  have h2 := (List.dropWhile_sublist p (l := l)).length_le
  rw [List.length_reverse] at h1
  omega
theorem bare_le (l : List UInt8) : (bare l).length ≤ l.length := by
  unfold bare
  split
  · rw [List.length_drop]; omega
  · exact Nat.le_refl _
theorem piece_le (hex blanks : Bool) (l : List UInt8) : (pieceL hex blanks l).length ≤ l.length := by
  have h1 := trimL_le Txt.blank l
  have h2 := bare_le (trimL Txt.blank l)
  have h3 := bare_le l
  cases hex <;> cases blanks <;> simp only [pieceL, if_true, if_false, Bool.false_eq_true] <;> omega

theorem k1 : sizeV (Qk.has 0 27) (Qk.has 0 28) 32 65536 [97, 59, 98] = (10, 0) := by decide +kernel
theorem k2 : sizeV (Qk.has 0 27) (Qk.has 0 28) 32 65536 [48, 120, 97] = (0, 400) := by decide +kernel
theorem k3 : sizeV (Qk.has 134217728 27) (Qk.has 134217728 28) 32 65536 [48, 120, 97] = (10, 0) := by decide +kernel
theorem k4 : putL [[97, 98], []] = [50, 13, 10, 97, 98, 13, 10, 48, 13, 10] := by decide +kernel
theorem k5 : putL [] = [48, 13, 10] := by decide +kernel

/-- A block of bounds that the call made, carried through what the call does. -/
structure BB (x0 x1 x2 x3 x4 x5 x6 x7 : Int) (ch od : Bool) (w0 : World) (g : Nat) (w : World) : Prop where
  f : Bnd.At w g x0 x1 x2 x3 x4 x5 x6 x7 ch od
  lt : g < w.heap.size
  b : Below w0.heap.size w0 w
section
variable {x0 x1 x2 x3 x4 x5 x6 x7 : Int} {ch od : Bool} {w0 w w' : World} {g : Nat}
theorem BB.new (hb : Below w0.heap.size w0 w) (t : TypeId) (x0 x1 x2 x3 x4 x5 x6 x7 : Int) (ch od : Bool) :
    BB x0 x1 x2 x3 x4 x5 x6 x7 ch od w0 w.heap.size (w.alloc (.cells #[.int .i64 x0, .int .i64 x1, .int .i64 x2, .int .i64 x3, .int .i64 x4, .int .i64 x5, .int .i64 x6, .int .i64 x7, .bool ch, .bool od] t)) :=
  ⟨Bnd.At.new w t x0 x1 x2 x3 x4 x5 x6 x7 ch od, by simp, hb.alloc hb.size _⟩
theorem BB.step (h : BB x0 x1 x2 x3 x4 x5 x6 x7 ch od w0 g w) (hb : Below w.heap.size w w') : BB x0 x1 x2 x3 x4 x5 x6 x7 ch od w0 g w' :=
  ⟨h.f.below h.lt hb, Nat.lt_of_lt_of_le h.lt hb.size, Base.below_step h.b hb⟩
theorem BB.alloc (h : BB x0 x1 x2 x3 x4 x5 x6 x7 ch od w0 g w) (o : Obj) : BB x0 x1 x2 x3 x4 x5 x6 x7 ch od w0 g (w.alloc o) := h.step ((Below.refl _ _).alloc (Nat.le_refl _) _)
theorem BB.drew (h : BB x0 x1 x2 x3 x4 x5 x6 x7 ch od w0 g w) (m : Nat) : BB x0 x1 x2 x3 x4 x5 x6 x7 ch od w0 g (w.drewN m) := h.step (Base.below_drewN (Below.refl _ _) m)
end
end Go.Proofs.YtibnobdbmojjhaaGreatDoor.Chk

/-
  Layer 11 (chunk): the contracts of package chunk's Size and of what it calls.
-/
namespace Go.Proofs.YtibnobdbmojjhaaGreatDoor.Chk
open Go.RowKit Base Txt

theorem drop_ext (l : List UInt8) : l.drop (Tgt.cutAt 59 l).1.length = extL l := by
  have h := ext_split l
  generalize (Tgt.cutAt 59 l).1 = A at *
  generalize extL l = E at *
  rw [h, List.drop_left]
theorem same_mark (l : List UInt8) (a b : UInt8) (r : List UInt8) (h : l = a :: b :: r) : l.drop 2 = r ∧ l.take 2 = [a, b] := by subst h; exact ⟨rfl, rfl⟩

section code
set_option maxHeartbeats 8000000
set_option maxRecDepth 100000
attribute [local go_sem] Base.some_undef
theorem parts_any (s : ByteArray) (w : World) (hs : s.size ≤ 1000000000) : Calls Tryz.prog 172 #[.string s] w fun e w' =>
    e = .returned (.tuple #[.string (ba (Tgt.cutAt 59 s.data.toList).1), .string (ba (extL s.data.toList))]) ∧ ∃ n, w' = w.drewN n := by
  have HI := Lib.hid (fun w => Tgt.cut_any s 59 w hs)
  have hle := (ext_le s.data.toList).2
  rw [len] at hle
  have e1 : s.extract (Tgt.cutAt 59 s.data.toList).1.length s.size = ba (extL s.data.toList) := ba_ext (by
    rw [Lib.extract_data, List.take_of_length_le (by rw [List.length_drop, len]; omega)]
    exact drop_ext s.data.toList)
  rw [← e1]
  have hsz : (ba (Tgt.cutAt 59 s.data.toList).1).size = (Tgt.cutAt 59 s.data.toList).1.length := by rw [← len]; rfl
  rw [← hsz] at hle ⊢
  clear e1 hsz
  generalize Tgt.cutAt 59 s.data.toList = r at *
  obtain ⟨r1, r2, r3⟩ := r
  dsimp only at HI hle ⊢
  generalize ba r1 = R1 at *
  generalize ba r2 = R2 at *
  have c1 : (R1.size : Int) ≤ (s.size : Int) := by omega
  have c0 : (0 : Int) ≤ (R1.size : Int) := by omega
  go_enter Tryz.func172, Tryz.ntmps172
  go_wp2_with (go_at_call 199; with_reducible refine (HI.out _).mono ?_; rintro e w1 ⟨rfl, n, hw⟩; rw [hw]; clear hw)
  go_quiet (fail)
  rename_i nq
  go_wp2
  go_ret2
  exact ⟨rfl, n + nq, by simp [World.drewN, Nat.add_assoc]⟩
theorem isExt_any (s : ByteArray) (most : Int) (w : World) (hs : s.size ≤ 1000000000) : Calls Tryz.prog 173 #[.string s, .int .i64 most] w fun e w' =>
    e = .returned (.bool (isx most s.data.toList)) ∧ Below w.heap.size w w' := by
  unfold isx
  rcases Nat.eq_zero_or_pos s.size with h0 | h0
  · obtain rfl : s = ⟨#[]⟩ := ba_ext (List.length_eq_zero_iff.1 (by rw [len]; exact h0))
    go_enter Tryz.func173, Tryz.ntmps173
    go_wp2
    go_ret
    exact ⟨rfl, Below.refl _ _⟩
  · have hne : s.data.toList.isEmpty = false := by
      rw [Bool.eq_false_iff]; intro h; rw [List.isEmpty_iff] at h; have := congrArg List.length h; rw [len, List.length_nil] at this; omega
    have hne2 : ¬ s.toList = [] := by rw [Go.ByteArray.toList_eq]; intro h; rw [h] at hne; cases hne
    have hne3 : s.toList.isEmpty = false := by rw [Go.ByteArray.toList_eq]; exact hne
    rw [hne, Bool.false_or, len]
    have HA : Hid (∀ w a, Ints w a 1 [6] → Calls Tryz.prog 191 #[.string s, .slice a 1 1] w fun e w' => e = .returned (.bool (Oct.allOf [6] s.data.toList)) ∧ w' = w) := Lib.hid fun w a hk => Oct.all_any s a 1 1 [6] w (by unfold maxLen; omega) hk (by decide)
    generalize Oct.allOf [6] s.data.toList = b at *
    rcases Int.lt_or_le most (s.size : Int) with h | h
    · have d1 : decide ((s.size : Int) ≤ most) = false := decide_eq_false (by omega)
      rw [d1]
      clear hs hne
      go_enter Tryz.func173, Tryz.ntmps173
      go_wp2
      go_ret
      exact ⟨rfl, Below.refl _ _⟩
    · have d1 : decide ((s.size : Int) ≤ most) = true := decide_eq_true h
      rw [d1]
      clear hs hne
      cases b
      all_goals
        go_enter Tryz.func173, Tryz.ntmps173
        go_wp2_with (go_at_call 191; with_reducible refine (HA.out _ _ (Ints.one _ _ rfl _ _)).mono ?_; rintro e w1 ⟨rfl, hw⟩; rw [hw]; clear hw)
        go_ret
        exact ⟨rfl, (Below.refl _ _).alloc (Nat.le_refl _) _⟩
theorem bare_any (z : ByteArray) (p : Nat) (hp : p < 4294967296) (w : World) (hz : z.size ≤ 1000000000) : Calls Tryz.prog 175 #[.string z, .int .u32 (p : Nat)] w fun e w' =>
    e = .returned (.string (ba (pieceL (Qk.has p 27) (Qk.has p 28) z.data.toList))) ∧ Below w.heap.size w w' := by
  have H7 := Lib.hid (fun w => Qk.has_any p hp 27 w)
  have H8 := Lib.hid (fun w => Qk.has_any p hp 28 w)
  have HT := Lib.hid (fun w => trim_any z w (by unfold maxLen; omega))
  have ht : (trim z).size ≤ z.size := trim_size _ _
  have key : ∀ (b : Bool) (T : ByteArray), T.data.toList = (if b = true then trimL Txt.blank z.data.toList else z.data.toList) → ∀ a : Bool, pieceL a b z.data.toList = if a = true then bare T.data.toList else T.data.toList := fun b T h a => by
    unfold pieceL; rw [← h]
  obtain ⟨b8, h8⟩ : ∃ b, Qk.has p 28 = b := ⟨_, rfl⟩
  obtain ⟨b7, h7⟩ : ∃ b, Qk.has p 27 = b := ⟨_, rfl⟩
  rw [h7] at H7 ⊢
  rw [h8] at H8 ⊢
  clear h7 h8
  obtain ⟨T, hT, hTz, HC⟩ : ∃ T : ByteArray, T.data.toList = (if b8 = true then trimL Txt.blank z.data.toList else z.data.toList) ∧ T.size ≤ 1000000000 ∧ Hid (T = if b8 = true then trim z else z) := by
    cases b8 with
    | true => exact ⟨trim z, rfl, by omega, Lib.hid rfl⟩
    | false => exact ⟨z, rfl, hz, Lib.hid rfl⟩
  rw [key b8 T hT b7]
  clear key hT ht
  have e0 : ba T.data.toList = T := ba_ext rfl
  cases b7 with
  | false =>
    rw [if_neg (by decide), e0]
    clear e0 hz hTz
    cases b8 with
    | false =>
      obtain rfl : T = z := HC.out
      clear HT
      go_enter Tryz.func175, Tryz.ntmps175
      go_wp2_with (first
        | (go_at_call 82; with_reducible refine (H8.out _).mono ?_; rintro e w1 ⟨rfl, hw⟩; rw [hw]; clear hw)
        | (go_at_call 82; with_reducible refine (H7.out _).mono ?_; rintro e w1 ⟨rfl, hw⟩; rw [hw]; clear hw))
      go_ret
      exact ⟨rfl, Below.refl _ _⟩
    | true =>
      obtain rfl : T = trim z := HC.out
      generalize trim z = T at *
      go_enter Tryz.func175, Tryz.ntmps175
      go_wp2_with (first
        | (go_at_call 82; with_reducible refine (H8.out _).mono ?_; rintro e w1 ⟨rfl, hw⟩; rw [hw]; clear hw)
        | (go_at_call 82; with_reducible refine (H7.out _).mono ?_; rintro e w1 ⟨rfl, hw⟩; rw [hw]; clear hw)
        | (go_at_call 115; with_reducible refine (HT.out _).mono ?_; rintro e w1 ⟨rfl, hw⟩; rw [hw]; clear hw))
      go_ret
      exact ⟨rfl, Below.refl _ _⟩
  | true =>
    rw [if_pos rfl]
    rcases Nat.lt_or_ge T.size 2 with h2 | h2
    · have em : bare T.data.toList = T.data.toList := by
        unfold bare marked
        rw [len, decide_eq_false (by omega), Bool.false_and, if_neg (by decide)]
      rw [em, e0]
      have d1 : decide ((2 : Int) ≤ (T.size : Int)) = false := decide_eq_false (by omega)
      clear em e0 hz hTz
      cases b8 with
      | false =>
        obtain rfl : T = z := HC.out
        clear HT
        go_enter Tryz.func175, Tryz.ntmps175
        go_wp2_with (first
          | (go_at_call 82; with_reducible refine (H8.out _).mono ?_; rintro e w1 ⟨rfl, hw⟩; rw [hw]; clear hw)
          | (go_at_call 82; with_reducible refine (H7.out _).mono ?_; rintro e w1 ⟨rfl, hw⟩; rw [hw]; clear hw))
        go_ret
        exact ⟨rfl, Below.refl _ _⟩
      | true =>
        obtain rfl : T = trim z := HC.out
        generalize trim z = T at *
        go_enter Tryz.func175, Tryz.ntmps175
        go_wp2_with (first
          | (go_at_call 82; with_reducible refine (H8.out _).mono ?_; rintro e w1 ⟨rfl, hw⟩; rw [hw]; clear hw)
          | (go_at_call 82; with_reducible refine (H7.out _).mono ?_; rintro e w1 ⟨rfl, hw⟩; rw [hw]; clear hw)
          | (go_at_call 115; with_reducible refine (HT.out _).mono ?_; rintro e w1 ⟨rfl, hw⟩; rw [hw]; clear hw))
        go_ret
        exact ⟨rfl, Below.refl _ _⟩
    · have hx : T.extract 0 2 = ba (T.data.toList.take 2) := ba_ext (by rw [Lib.extract_data]; simp [ba])
      have hx2 : T.extract 2 T.size = ba (T.data.toList.drop 2) := ba_ext (by rw [Lib.extract_data, List.take_of_length_le (by rw [List.length_drop, len]; omega)]; rfl)
      have HS := Lib.hid (fun w => same_any (T.extract 0 2) ⟨#[48, 120]⟩ w (by rw [hx, ← len]; unfold maxLen; simp [ba]; omega))
      have em : bare T.data.toList = if same (T.extract 0 2) ⟨#[48, 120]⟩ = true then T.data.toList.drop 2 else T.data.toList := by
        unfold bare marked
        rw [len, decide_eq_true h2, Bool.true_and, hx]
      rw [em]
      generalize same (T.extract 0 2) ⟨#[48, 120]⟩ = q at *
      have e3 : ba (if q = true then T.data.toList.drop 2 else T.data.toList) = if q = true then T.extract 2 T.size else T := by
        cases q
        · rw [if_neg (by decide), if_neg (by decide)]; exact e0
        · rw [if_pos rfl, if_pos rfl]; exact hx2.symm
      rw [e3]
      have d1 : decide ((2 : Int) ≤ (T.size : Int)) = true := decide_eq_true (by omega)
      have d2 : (2 : Int) ≤ (T.size : Int) := by omega
      clear em e0 e3 hx hx2 hz hTz
      cases b8 with
      | false =>
        obtain rfl : T = z := HC.out
        clear HT
        cases q
        all_goals
          go_enter Tryz.func175, Tryz.ntmps175
          go_wp2_with (first
            | (go_at_call 82; with_reducible refine (H8.out _).mono ?_; rintro e w1 ⟨rfl, hw⟩; rw [hw]; clear hw)
            | (go_at_call 82; with_reducible refine (H7.out _).mono ?_; rintro e w1 ⟨rfl, hw⟩; rw [hw]; clear hw)
            | (go_at_call 97; with_reducible refine (HS.out _).mono ?_; rintro e w1 ⟨rfl, hb⟩))
          go_ret
          exact ⟨rfl, hb⟩
      | true =>
        obtain rfl : T = trim z := HC.out
        generalize trim z = T at *
        cases q
        all_goals
          go_enter Tryz.func175, Tryz.ntmps175
          go_wp2_with (first
            | (go_at_call 82; with_reducible refine (H8.out _).mono ?_; rintro e w1 ⟨rfl, hw⟩; rw [hw]; clear hw)
            | (go_at_call 82; with_reducible refine (H7.out _).mono ?_; rintro e w1 ⟨rfl, hw⟩; rw [hw]; clear hw)
            | (go_at_call 115; with_reducible refine (HT.out _).mono ?_; rintro e w1 ⟨rfl, hw⟩; rw [hw]; clear hw)
            | (go_at_call 97; with_reducible refine (HS.out _).mono ?_; rintro e w1 ⟨rfl, hb⟩))
          go_ret
          exact ⟨rfl, hb⟩
theorem size_any (s : ByteArray) (p : Nat) (hp : p < 4294967296) (x0 x1 x2 x3 x4 x5 x6 x7 : Int) (ch od : Bool) (h3 : x3 ≤ 9223372036854775807) (w : World) (hs : s.size ≤ 1000000000) :
    Calls Tryz.prog 147 #[.string s, .int .u32 (p : Nat), Bnd.bnd x0 x1 x2 x3 x4 x5 x6 x7 ch od] w fun e w' =>
      e = .returned (.tuple #[.int .i64 (sizeV (Qk.has p 27) (Qk.has p 28) x4 x3 s.data.toList).1, .int .i64 (sizeV (Qk.has p 27) (Qk.has p 28) x4 x3 s.data.toList).2]) ∧ Below w.heap.size w w' := by
  have hle := ext_le s.data.toList
  rw [len] at hle
  have HP := Lib.hid (fun w => parts_any s w hs)
  have HX := Lib.hid (fun w => isExt_any (ba (extL s.data.toList)) x4 w (by rw [← len]; show (extL s.data.toList).length ≤ _; omega))
  have hb0 : (ba (Tgt.cutAt 59 s.data.toList).1).size ≤ 1000000000 := by rw [← len]; show (Tgt.cutAt 59 s.data.toList).1.length ≤ _; omega
  have HB := Lib.hid (fun w => bare_any (ba (Tgt.cutAt 59 s.data.toList).1) p hp w hb0)
  have hsl : (ba (sizeL (Qk.has p 27) (Qk.has p 28) s.data.toList)).size ≤ maxLen := by
    have h1 := piece_le (Qk.has p 27) (Qk.has p 28) (Tgt.cutAt 59 s.data.toList).1
    rw [← len]; show (pieceL _ _ _).length ≤ _; unfold maxLen; omega
  have HN := Lib.hid (fun w => Num.hexN_any x3 h3 (ba (sizeL (Qk.has p 27) (Qk.has p 28) s.data.toList)) w hsl)
  have e1 : (ba (sizeL (Qk.has p 27) (Qk.has p 28) s.data.toList)).data.toList = sizeL (Qk.has p 27) (Qk.has p 28) s.data.toList := rfl
  have e2 : (ba (extL s.data.toList)).data.toList = extL s.data.toList := rfl
  have e3 : pieceL (Qk.has p 27) (Qk.has p 28) (ba (Tgt.cutAt 59 s.data.toList).1).data.toList = sizeL (Qk.has p 27) (Qk.has p 28) s.data.toList := rfl
  rw [e1] at HN
  rw [e2] at HX
  rw [e3] at HB
  unfold sizeV
  clear e1 e2 e3 hsl hb0 hle
  generalize Num.readOf 16 x3 (sizeL (Qk.has p 27) (Qk.has p 28) s.data.toList) = R at *
  generalize ba (sizeL (Qk.has p 27) (Qk.has p 28) s.data.toList) = Z at *
  generalize isx x4 (extL s.data.toList) = q at *
  generalize ba (extL s.data.toList) = E at *
  generalize ba (Tgt.cutAt 59 s.data.toList).1 = C at *
  obtain ⟨r1, r2⟩ := R
  dsimp only at HN
  have HBB := Lib.hid (BB.new (Below.refl w.heap.size w) 29 x0 x1 x2 x3 x4 x5 x6 x7 ch od)
  cases q with
  | false =>
    rw [if_neg (by decide)]
    clear HN HB
    go_enter Tryz.func147, Tryz.ntmps147
    go_wp2_with (first
      | (go_at_call 173; (with_reducible refine (HX.out _).mono ?_); rintro e w2 ⟨rfl, hb⟩
         have HB2 := Lib.hid (HBB1.out.step hb)
         clear hb)
      | (go_at_call 172; (with_reducible refine (HP.out _).mono ?_); rintro e w1 ⟨rfl, m, hw⟩
         have HBB1 := Lib.hid (HBB.out.drew m)
         rw [← hw] at HBB1
         obtain ⟨⟨q0, q1, q2, q3, q4, q5, q6, q7, q8, q9⟩, hlt, hbk⟩ := HBB1.out
         clear hw hlt hbk))
    go_ret2
    exact ⟨rfl, HB2.out.b⟩
  | true =>
    rw [if_pos rfl]
    have hcase : (r2 = 22 ∧ numV (r1, r2) = (0, 400)) ∨ ((r2 == 22) = false ∧ r2 = 23 ∧ numV (r1, r2) = (0, 413)) ∨ ((r2 == 22) = false ∧ (r2 == 23) = false ∧ numV (r1, r2) = (r1, 0)) := by
      unfold numV
      by_cases h1 : r2 = 22
      · exact .inl ⟨h1, by rw [if_pos h1]⟩
      · by_cases h2 : r2 = 23
        · exact .inr (.inl ⟨by simp [h1], h2, by rw [if_neg h1, if_pos h2]⟩)
        · exact .inr (.inr ⟨by simp [h1], by simp [h2], by rw [if_neg h1, if_neg h2]⟩)
    generalize numV (r1, r2) = V at *
    have hcase' := Lib.hid hcase
    clear hcase
    go_enter Tryz.func147, Tryz.ntmps147
    go_upto_region 4 with (first
      | (go_at_call 173; (with_reducible refine (HX.out _).mono ?_); rintro e w2 ⟨rfl, hb⟩
         have HB2 := Lib.hid (HBB1.out.step hb)
         clear hb)
      | (go_at_call 172; (with_reducible refine (HP.out _).mono ?_); rintro e w1 ⟨rfl, m, hw⟩
         have HBB1 := Lib.hid (HBB.out.drew m)
         rw [← hw] at HBB1
         obtain ⟨⟨q0, q1, q2, q3, q4, q5, q6, q7, q8, q9⟩, hlt, hbk⟩ := HBB1.out
         clear hw hlt hbk))
    clear q0 q1 q2 q3 q4 q5 q6 q7 q8 q9 HBB HBB1 HX HP
    obtain ⟨⟨q0, q1, q2, q3, q4, q5, q6, q7, q8, q9⟩, hlt, hbk⟩ := HB2.out
    clear q0 q1 q2 q4 q5 q6 q7 q8 q9 hlt hbk
    generalize w.heap.size = g at *
    go_cut [10, 11] from 22 to 30 (fun a b wx => a = .int .i64 r1 ∧ b = .int .i64 r2 ∧ Hid (BB x0 x1 x2 x3 x4 x5 x6 x7 ch od w g wx))
    case first =>
      go_region_with (first
        | (go_at_call 174; (with_reducible refine (HN.out _).mono ?_); rintro e w4 ⟨rfl, hb⟩
           have HB4 := Lib.hid (HB3.out.step hb)
           clear hb)
        | (go_at_call 175; (with_reducible refine (HB.out _).mono ?_); rintro e w3 ⟨rfl, hb⟩
           have HB3 := Lib.hid ((HB2.out.drew 1).step hb)
           obtain ⟨⟨q0, q1, q2, q3, q4, q5, q6, q7, q8, q9⟩, hlt, hbk⟩ := HB3.out
           clear q0 q1 q2 q4 q5 q6 q7 q8 q9 hlt hbk hb))
      all_goals
        go_wp2_with fail
        go_meet
        case rel => exact ⟨rfl, rfl, HB4⟩
    case rest =>
      obtain ⟨rfl, rfl, HW⟩ := hcut
      rcases hcase'.out with ⟨rfl, rfl⟩ | ⟨t1, rfl, rfl⟩ | ⟨t1, t2, rfl⟩
      all_goals
        go_wp2_with fail
        go_ret2
        exact ⟨rfl, HW.out.b⟩
end code
end Go.Proofs.YtibnobdbmojjhaaGreatDoor.Chk

/-
  Layer 11 (chunk): how bytes in parts are written as chunks: package chunk's Put and the document's Chunks.
-/
namespace Go.Proofs.YtibnobdbmojjhaaGreatDoor.Chk
open Go.RowKit Base Txt

abbrev byteV (c : UInt8) : Value := .int .u8 (c.toNat : Int)
def vals (l : List UInt8) : List Value := l.map byteV
theorem vals_app (a b : List UInt8) : vals (a ++ b) = vals a ++ vals b := List.map_append
theorem vals_length (a : List UInt8) : (vals a).length = a.length := List.length_map _
theorem cells_of (s : ByteArray) : Lib.strCells s = vals s.data.toList := rfl
theorem vals_one (l : List UInt8) : ∀ u ∈ vals l, u.oneCell' = true := by
  intro u hu
  obtain ⟨b, _, rfl⟩ := List.mem_map.1 hu
  rfl
/-- The cells of a slice of bytes. -/
theorem vals_lie {w : World} {a : Option Addr} {n : Nat} {l : List UInt8} (h : Nums .u8 w a n (nums l)) : 0 < n → ∃ b off, a = some ⟨b, off, none⟩ ∧ ∀ j u, (vals l)[j]? = some u → w.cell? ⟨b, off + j, none⟩ = some u := by
  intro hn
  obtain ⟨b, off, rfl, _, hc⟩ := h.2 hn
  refine ⟨b, off, rfl, fun j u hu => ?_⟩
  have hl : l.length = n := by have := h.1; rwa [nums, List.length_map] at this
  have hj : j < l.length := by
    rcases Nat.lt_or_ge j l.length with h | h
    · exact h
    · rw [List.getElem?_eq_none (by rw [vals_length]; exact h)] at hu; cases hu
  rw [hc j (by omega), nums_at l j hj]
  rw [vals, List.getElem?_map, List.getElem?_eq_getElem hj] at hu
  exact hu
theorem nums_of_own {w : World} {base : Nat} {v : Value} {n : Nat} {bs : List UInt8} {e : TypeId} (h : w.ownsRow base e 1 v n (vals bs)) : ∃ A c, v = .slice A n c ∧ Nums .u8 w A n (Txt.nums bs) := by
  have hl : bs.length = n := by simpa [vals_length] using h.1
  rcases h.2 with ⟨rfl, rfl⟩ | ⟨g, cap, cur, rfl, _, hh, _, hc, _, ht⟩
  · obtain rfl : bs = [] := List.length_eq_zero_iff.1 hl
    exact ⟨none, 0, rfl, Nums.nil _ _ _⟩
  · refine ⟨_, _, rfl, ⟨by rw [Txt.nums, List.length_map]; exact hl, fun _ => ⟨g, 0, rfl, ?_, fun k hk => ?_⟩⟩⟩
    · rcases Nat.lt_or_ge g w.heap.size with hlt | hge
      · exact hlt
      · rw [Array.getElem?_eq_none hge] at hh; cases hh
    · rw [Nat.zero_add, cell_of_row w g k cur e (0, 0) hh, Txt.nums_at bs k (by omega)]
      have h1 : (vals bs)[k]? = some (byteV bs[k]) := by
        rw [vals, List.getElem?_map, List.getElem?_eq_getElem (by omega)]; rfl
      rw [← ht, List.getElem?_take_of_lt (by omega)] at h1
      simpa using h1

/-- The first k parts as chunks. -/
def bodyL (ls : List (List UInt8)) (k : Nat) : List UInt8 := (ls.take k).flatMap chunkL
theorem body_snoc (ls : List (List UInt8)) (k : Nat) (h : k < ls.length) : bodyL ls (k + 1) = bodyL ls k ++ chunkL (ls[k]?.getD []) := by
  unfold bodyL
  rw [List.take_succ_eq_append_getElem h, put_snoc, List.getElem?_eq_getElem h]; rfl
theorem body_all (ls : List (List UInt8)) : putL ls = bodyL ls ls.length ++ [48, 13, 10] := by
  unfold bodyL putL
  rw [List.take_length]
theorem body_le (ls : List (List UInt8)) (k : Nat) (h : k < ls.length) : (bodyL ls k).length + (chunkL (ls[k]?.getD [])).length + 3 ≤ (putL ls).length := by
  have h1 := congrArg List.length (body_snoc ls k h)
  rw [List.length_append] at h1
  have h2 : (putL ls).length = (bodyL ls (k + 1)).length + ((ls.drop (k + 1)).flatMap chunkL).length + 3 := by
    unfold putL bodyL
    conv => lhs; rw [← List.take_append_drop (k + 1) ls]
    rw [List.flatMap_append, List.length_append, List.length_append]; rfl
  omega
theorem chunk_of (l : List UInt8) (h : l ≠ []) : chunkL l = Num.spell 16 l.length ++ [13, 10] ++ l ++ [13, 10] := by unfold chunkL; rw [if_neg h]
/-- A row grown by a chunk's four parts. -/
theorem row_chunk {w : World} {B : Nat} {e : TypeId} {v : Value} {P l : List UInt8} {D : ByteArray} (hl : l ≠ []) (hD : D.data.toList = Num.spell 16 l.length) {n : Nat} (hn : n = P.length + D.size + 2 + l.length + 2)
    {xs : List Value} (hx : xs = vals P ++ vals D.data.toList ++ vals [13, 10] ++ vals l ++ vals [13, 10]) (h : w.ownsRow B e 1 v n xs) : w.ownsRow B e 1 v (P ++ chunkL l).length (vals (P ++ chunkL l)) := by
  have hd : D.size = (Num.spell 16 l.length).length := by rw [← hD, len]
  have e1 : vals (P ++ chunkL l) = xs := by
    rw [hx, chunk_of l hl, hD, vals_app, vals_app, vals_app, vals_app]; simp only [List.append_assoc]
  have e2 : (P ++ chunkL l).length = n := by
    rw [hn, hd, chunk_of l hl]; simp only [List.length_append, List.length_cons, List.length_nil]; omega
  rw [e1, e2]; exact h

section code
set_option maxHeartbeats 8000000
set_option maxRecDepth 100000
attribute [local go_sem] Base.some_undef
theorem rput_any (a : Option Addr) (n cap : Nat) (ls : List (List UInt8)) (w : World) (hv : Lines w a n ls) (hn : n ≤ maxLen) (hz : (putL ls).length ≤ 1000000000) :
    Calls Tryz.prog 38 #[.slice a n cap] w fun e w' => ∃ A c, e = .returned (.slice A (putL ls).length c) ∧ Nums .u8 w' A (putL ls).length (nums (putL ls)) ∧ Below w.heap.size w w' := by
  unfold maxLen at hn
  have HV := Lib.hid hv
  have HL := Lib.hid hv.1
  have HZ := Lib.hid hz
  clear hv hz
  obtain ⟨i0, hi0, hz0, hz1, hz2⟩ := info_parts Txt.byte_info
  have G1 := Lib.hid hi0; have G2 := Lib.hid hz0; have G3 := Lib.hid hz1; have G4 := Lib.hid hz2
  clear hi0 hz0 hz1 hz2
  go_enter Tryz.func38, Tryz.ntmps38
  go_wp2_with fail
  go_loopw [3, 4] (fun v i wr => ∃ k : Nat, k ≤ n ∧ i = .int .i64 k ∧ Hid (wr.ownsRow w.heap.size 5 1 v (bodyL ls k).length (vals (bodyL ls k))) ∧ Hid (Below w.heap.size w wr)) (fun _ i _ => n - (intOf i).toNat)
  case atStart => exact ⟨0, Nat.zero_le _, rfl, Lib.hid ⟨rfl, .inl ⟨rfl, rfl⟩⟩, Lib.hid (Below.refl _ _)⟩
  case round =>
    obtain ⟨k, hk, rfl, hS, hbr⟩ := hrel
    rcases Nat.lt_or_ge k n with hlt | hge
    · obtain ⟨bl, off, rfl, hbl, hc⟩ := HV.out.2 (by omega)
      obtain ⟨ak, ck, hck, hnk⟩ := hc k hlt
      have qc := (hbr.out.cell (p := ⟨bl, off + k, none⟩) hbl).trans hck
      have hkl : k < ls.length := by rw [HL.out]; exact hlt
      have hle := body_le ls k hkl
      have HSN := Lib.hid (body_snoc ls k hkl)
      have t1 : (k : Int) < (n : Int) := by omega
      have HCK := Lib.hid hck
      clear hc hck hkl
      have hz := HZ.out
      generalize bodyL ls k = P at *
      have HN := Lib.hid hnk
      clear hnk
      generalize ls[k]?.getD [] = l at *
      by_cases h0 : l = []
      · subst h0
        have HSN2 : Hid (bodyL ls (k + 1) = P) := Lib.hid (by rw [HSN.out]; unfold chunkL; rw [if_pos rfl, List.append_nil])
        clear HSN HN hle hz
        have qc2 : wr.cell? ⟨bl, off + k, none⟩ = some (.slice ak 0 ck) := qc
        clear qc
        go_wp2_with fail
        go_roundw
        case rel => exact ⟨k + 1, by omega, by go_num, Lib.hid (by rw [HSN2.out]; exact hS.out), hbr⟩
        case measure => simp [intOf]; omega
      · have hl0 : 0 < l.length := List.length_pos_iff.2 h0
        have t2 : (0 : Int) < (l.length : Int) := by omega
        obtain ⟨D, hD, HP⟩ : ∃ D : ByteArray, D.data.toList = Num.spell 16 l.length ∧ Hid (∀ w, Calls Tryz.prog 60 #[.int .i64 (l.length : Int)] w fun e w' => e = .returned (.string D) ∧ ∃ m, w' = w.drewN m) :=
          ⟨Num.str (Num.spell 16 l.length), rfl, Lib.hid (fun w => by
            have := Num.rputHex_any (l.length : Int) w (by omega) (by rw [chunk_of l h0] at hle; simp only [List.length_append] at hle; omega)
            rwa [Int.toNat_natCast] at this)⟩
        rw [chunk_of l h0, ← hD] at hle
        simp only [List.length_append, List.length_cons, List.length_nil, len] at hle
        have hsum : P.length + D.size + 2 + l.length + 2 ≤ 1000000000 := by omega
        have v1 : ¬ 9223372036854775807 < D.size + 2 := by omega
        have HSUM := Lib.hid hsum
        have HD := Lib.hid hD
        have H0 := Lib.hid h0
        clear hle hz hD hsum h0
        go_wp2_with (first
          | (at_builtin; (refine Lib.wpList_append_own_string _ rfl _ _ 22 9 rfl w.heap.size 5 i0 Tryz.underlying22 Tryz.underlying9 G1.out G2.out G3.out G4.out _ _ _ rfl hO3.out ⟨#[13, 10]⟩ rfl (by have := HSUM.out; show _ + 2 ≤ maxLen; unfold maxLen; omega) (by have := HSUM.out; show _ + 2 ≤ _; omega) HB3.out.size ?_)
             intro v4 w4' hO4' hg4 _
             have hO4 := Lib.hid hO4'
             have HB4 := Lib.hid (HB3.out.grown hg4 HB3.out.size (own_base hO3.out))
             clear hO4' hg4 hO3 HB3)
          | (at_builtin; (refine App.wpList_append_list _ rfl _ _ 22 rfl w.heap.size 5 i0 (.int .u8 0) 1 1 Tryz.underlying22 G1.out G2.out G3.out G4.out rfl (by decide) _ _ _ rfl hO2.out ak l.length ck (vals l) rfl (by rw [vals_length, Nat.mul_one]) (vals_lie (HN.out.below HB2.out)) (vals_one l) (by have := HSUM.out; unfold maxLen; omega) (by have := HSUM.out; omega) HB2.out.size ?_)
             intro v3 w3' hO3' hg3 _ _
             have hO3 := Lib.hid hO3'
             have HB3 := Lib.hid (HB2.out.grown hg3 HB2.out.size (own_base hO2.out))
             clear hO3' hg3 hO2 HB2)
          | (at_builtin; (refine Lib.wpList_append_own_string _ rfl _ _ 22 9 rfl w.heap.size 5 i0 Tryz.underlying22 Tryz.underlying9 G1.out G2.out G3.out G4.out _ _ _ rfl hO1.out ⟨#[13, 10]⟩ rfl (by have := HSUM.out; show _ + 2 ≤ maxLen; unfold maxLen; omega) (by have := HSUM.out; show _ + 2 ≤ _; omega) HB1.out.size ?_)
             intro v2 w2' hO2' hg2 _
             have hO2 : Hid (w2'.ownsRow w.heap.size 5 1 v2 (P.length + D.size + 2) (vals P ++ Lib.strCells D ++ Lib.strCells ⟨#[13, 10]⟩)) := Lib.hid hO2'
             have HB2 := Lib.hid (HB1.out.grown hg2 HB1.out.size (own_base hO1.out))
             have qc2 := (HB2.out.cell (p := ⟨bl, off + k, none⟩) hbl).trans HCK.out
             clear hO2' hg2 hO1 HB1)
          | (at_builtin; (refine Lib.wpList_append_own_string _ rfl _ _ 22 9 rfl w.heap.size 5 i0 Tryz.underlying22 Tryz.underlying9 G1.out G2.out G3.out G4.out _ _ _ rfl hO0.out D rfl (by have := HSUM.out; unfold maxLen; omega) (by have := HSUM.out; omega) HB0.out.size ?_)
             intro v1 w1' hO1' hg1 _
             have hO1 := Lib.hid hO1'
             have HB1 := Lib.hid (HB0.out.grown hg1 HB0.out.size (own_base hO0.out))
             clear hO1' hg1 hO0 HB0)
          | (go_at_call 60; (with_reducible refine (HP.out _).mono ?_); rintro e wp ⟨rfl, m, hw⟩
             have hO0 := Lib.hid (Ls.own_below hS.out (Base.below_drewN (Below.refl _ wr) m))
             have HB0 := Lib.hid (Base.below_drewN hbr.out m)
             rw [← hw] at hO0 HB0
             clear hw))
        go_roundw
        case rel =>
          refine ⟨k + 1, by omega, by go_num, Lib.hid ?_, HB4⟩
          rw [HSN.out]
          exact row_chunk H0.out HD.out rfl rfl hO4.out
        case measure => simp [intOf]; omega
    · obtain rfl : k = n := by omega
      have HA := Lib.hid (body_all ls)
      have hz := HZ.out
      rw [HA.out, List.length_append] at hz
      rw [HL.out] at HA hz
      have hz' : (bodyL ls k).length + 3 ≤ 1000000000 := hz
      have HZ2 := Lib.hid hz'
      clear hz hz'
      go_wp2_with (at_builtin; (refine Lib.wpList_append_own_string _ rfl _ _ 22 9 rfl w.heap.size 5 i0 Tryz.underlying22 Tryz.underlying9 G1.out G2.out G3.out G4.out _ _ _ rfl hS.out ⟨#[48, 13, 10]⟩ rfl (by have := HZ2.out; show _ + 3 ≤ maxLen; unfold maxLen; omega) (by have := HZ2.out; show _ + 3 ≤ _; omega) hbr.out.size ?_)
                   intro v4 w4' hO4' hg4 _
                   have hO4 : w4'.ownsRow w.heap.size 5 1 v4 (putL ls).length (vals (putL ls)) := by
                     rw [HA.out, vals_app, List.length_append]; exact hO4'
                   obtain ⟨A4, c4, rfl, hN4⟩ := nums_of_own hO4
                   have HN4 := Lib.hid hN4
                   have HB4 := Lib.hid (hbr.out.grown hg4 hbr.out.size (own_base hS.out))
                   clear hO4' hO4 hN4 hg4)
      go_ret
      exact ⟨A4, c4, rfl, HN4.out, HB4.out⟩
end code
end Go.Proofs.YtibnobdbmojjhaaGreatDoor.Chk
