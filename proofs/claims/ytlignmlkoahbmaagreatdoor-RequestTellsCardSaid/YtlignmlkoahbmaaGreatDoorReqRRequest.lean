/-
  Layer 8 (request): the document's first line, of every text up to a great size, every profile, all bounds: the same.
-/
import Derived.Test.YtlignmlkoahbmaaGreatDoorReqRParts
import Derived.Test.YtlignmlkoahbmaaGreatDoorTargetRef3
import Derived.Test.YtlignmlkoahbmaaGreatDoorBounds
namespace Go.Proofs.YtlignmlkoahbmaaGreatDoor.Rq
open Go.RowKit Base Txt

/-- The document's parts and what is picked of them. -/
theorem rpv_cases (c : Cl) (l : List UInt8) :
    (pick c l = none ∧ ∃ (M T V : ByteArray) (n : Nat) (ok : Bool), n ≤ l.length + 1 ∧ rpv c.bl l = .tuple #[.string M, .string T, .string V, .int .i64 (n : Nat), .bool ok] ∧ (ok = false ∨ (ok = true ∧ n = 2 ∧ c.nv = false) ∨ (ok = true ∧ 3 < n ∧ c.sp = false))) ∨
    (∃ m t, pick c l = some (m, t, []) ∧ c.nv = true ∧ rpv c.bl l = .tuple #[.string (ba m), .string ⟨#[]⟩, .string (ba t), .int .i64 2, .bool true]) ∨
    (∃ m t v n, pick c l = some (m, t, v) ∧ v ≠ [] ∧ n ≤ l.length + 1 ∧ (n = 3 ∨ (3 < n ∧ c.sp = true)) ∧ rpv c.bl l = .tuple #[.string (ba m), .string (ba t), .string (ba v), .int .i64 (n : Nat), .bool true]) := by
  unfold pick rpv
  cases hs : spans c.bl l with
  | none => exact .inl ⟨rfl, _, _, _, 0, false, by omega, rfl, .inl rfl⟩
  | some sp =>
    have hle : sp.length ≤ l.length + 1 := pcs_le _ _ _ _ hs
    dsimp only
    rcases Nat.lt_or_ge sp.length 2 with h2 | h2
    · rw [if_pos h2, if_neg (by simp; omega), if_neg (by simp; omega)]
      exact .inl ⟨rfl, _, _, _, _, false, hle, rfl, .inl rfl⟩
    · rw [if_neg (by omega : ¬ sp.length < 2)]
      by_cases h3 : (sp.length == 3 || (decide (3 < sp.length) && c.sp)) = true
      · rw [if_pos h3]
        have hn : sp.length = 3 ∨ (3 < sp.length ∧ c.sp = true) := by simpa using h3
        rw [if_pos (by omega : 2 < sp.length)]
        refine .inr (.inr ⟨_, _, _, sp.length, rfl, ?_, hle, hn, rfl⟩)
        intro e
        have := spans_pos hs (sp.length - 1) (by omega)
        rw [getD_at sp _ (by omega)] at e
        rw [e] at this; simp at this
      · rw [if_neg h3]
        by_cases hv : (sp.length == 2 && c.nv) = true
        · rw [if_pos hv]
          simp only [Bool.and_eq_true, beq_iff_eq] at hv
          obtain ⟨e2, hnv⟩ := hv
          rw [e2, if_neg (by decide)]
          exact .inr (.inl ⟨_, _, rfl, hnv, rfl⟩)
        · rw [if_neg hv]
          refine .inl ⟨rfl, _, _, _, sp.length, true, hle, rfl, .inr ?_⟩
          simp only [Bool.or_eq_true, beq_iff_eq, Bool.and_eq_true, decide_eq_true_eq, not_or, not_and, Bool.not_eq_true] at h3 hv
          rcases (by omega : sp.length = 2 ∨ 3 < sp.length) with h | h
          · exact .inl ⟨rfl, h, hv h⟩
          · exact .inr ⟨rfl, h, h3.2 h⟩

section code
set_option maxHeartbeats 16000000
attribute [local go_sem] Base.some_undef
set_option maxRecDepth 10000 in
theorem rrequest_parts (s : ByteArray) (p : Nat) (hp : p < 4294967296) (x0 x1 x2 x3 x4 x5 x6 x7 : Int) (ch old : Bool) (w : World) (hs : s.size ≤ 900000000) (M T V : ByteArray) (n : Nat) (ok : Bool) (hle : n ≤ s.size + 1) (hpv : rpv (Qk.has p 3) s.data.toList = .tuple #[.string M, .string T, .string V, .int .i64 (n : Nat), .bool ok])
    (hc : ok = false ∨ (ok = true ∧ n = 2 ∧ Qk.has p 6 = false) ∨ (ok = true ∧ 3 < n ∧ Qk.has p 7 = false)) (R : List UInt8 × List UInt8 × Nat × Nat) (hR : R = badR) :
    Calls Tryz.prog 11 #[.string s, .int .u32 (p : Nat), Bnd.bnd x0 x1 x2 x3 x4 x5 x6 x7 ch old] w fun e w' => e = .returned (rv R) ∧ Below w.heap.size w w' := by
  have HA0 := Lib.hid (Bnd.At.new w 28 x0 x1 x2 x3 x4 x5 x6 x7 ch old)
  have HG0 := Lib.hid (show w.heap.size < (w.alloc (.cells #[.int .i64 x0, .int .i64 x1, .int .i64 x2, .int .i64 x3, .int .i64 x4, .int .i64 x5, .int .i64 x6, .int .i64 x7, .bool ch, .bool old] 28)).heap.size by simp)
  have HW := Lib.hid (show Below w.heap.size w (w.alloc (.cells #[.int .i64 x0, .int .i64 x1, .int .i64 x2, .int .i64 x3, .int .i64 x4, .int .i64 x5, .int .i64 x6, .int .i64 x7, .bool ch, .bool old] 28)) from (Below.refl _ _).alloc (Nat.le_refl _) _)
  have H3 := Lib.hid (fun w => Qk.rhas_any p hp 3 w)
  have H6 := Lib.hid (fun w => Qk.rhas_any p hp 6 w)
  have H7 := Lib.hid (fun w => Qk.rhas_any p hp 7 w)
  have HP := Lib.hid (fun w => rparts_any s (Qk.has p 3) w hs)
  rw [hpv] at HP
  subst hR
  clear hpv
  generalize Qk.has p 3 = b3 at *
  generalize Qk.has p 6 = b6 at *
  generalize Qk.has p 7 = b7 at *
  rcases hc with rfl | ⟨rfl, rfl, rfl⟩ | ⟨rfl, h3, rfl⟩
  · go_enter Tryz.func11, Tryz.ntmps11
    go_wp2_with (first
      | (go_at_call 19; with_reducible refine (HP.out _).mono ?_; rintro e w1 ⟨rfl, hb⟩)
      | (go_at_call 20; with_reducible refine (H3.out _).mono ?_; rintro e w5 ⟨rfl, hw⟩; rw [hw]; clear hw))
    exact bodyPost_ret (v := .tuple #[.string ⟨#[]⟩, .string ⟨#[]⟩, .int .i64 0, .int .i64 400]) (by simp [results, Tryz.results11, go_sem]) rfl ⟨rfl, Base.below_step HW.out hb⟩
  · go_enter Tryz.func11, Tryz.ntmps11
    go_wp2_with (first
      | (go_at_call 19; with_reducible refine (HP.out _).mono ?_; rintro e w1 ⟨rfl, hb⟩)
      | (go_at_call 20; with_reducible refine (H3.out _).mono ?_; rintro e w5 ⟨rfl, hw⟩; rw [hw]; clear hw)
      | (go_at_call 20; with_reducible refine (H6.out _).mono ?_; rintro e w5 ⟨rfl, hw⟩; rw [hw]; clear hw))
    exact bodyPost_ret (v := .tuple #[.string ⟨#[]⟩, .string ⟨#[]⟩, .int .i64 0, .int .i64 400]) (by simp [results, Tryz.results11, go_sem]) rfl ⟨rfl, Base.below_step HW.out hb⟩
  · have c1 : ¬ (n : Int) < 2 := by omega
    have c2 : ¬ (n : Int) = 2 := by omega
    have c3 : (3 : Int) < (n : Int) := by omega
    go_enter Tryz.func11, Tryz.ntmps11
    go_wp2_with (first
      | (go_at_call 19; with_reducible refine (HP.out _).mono ?_; rintro e w1 ⟨rfl, hb⟩)
      | (go_at_call 20; with_reducible refine (H3.out _).mono ?_; rintro e w5 ⟨rfl, hw⟩; rw [hw]; clear hw)
      | (go_at_call 20; with_reducible refine (H7.out _).mono ?_; rintro e w5 ⟨rfl, hw⟩; rw [hw]; clear hw))
    exact bodyPost_ret (v := .tuple #[.string ⟨#[]⟩, .string ⟨#[]⟩, .int .i64 0, .int .i64 400]) (by simp [results, Tryz.results11, go_sem]) rfl ⟨rfl, Base.below_step HW.out hb⟩
set_option maxRecDepth 10000 in
theorem rrequest_two (s : ByteArray) (p : Nat) (hp : p < 4294967296) (x0 x1 x2 x3 x4 x5 x6 x7 : Int) (ch old : Bool) (w : World) (hs : s.size ≤ 900000000) (m t : List UInt8) (hm0 : 0 < m.length) (hms : m.length ≤ s.size) (ht0 : 0 < t.length) (hts : t.length ≤ s.size) (h6 : Qk.has p 6 = true)
    (hpv : rpv (Qk.has p 3) s.data.toList = .tuple #[.string (ba m), .string ⟨#[]⟩, .string (ba t), .int .i64 2, .bool true])
    (R : List UInt8 × List UInt8 × Nat × Nat) (hR : (if (methOk m && tgtOk (clOf p) m t) = true then (match verL (clOf p) [] with | none => verR | some k => if (k == 0 && !old) = true then verR else (m, t, k, 0)) else badR) = R) :
    Calls Tryz.prog 11 #[.string s, .int .u32 (p : Nat), Bnd.bnd x0 x1 x2 x3 x4 x5 x6 x7 ch old] w fun e w' => e = .returned (rv R) ∧ Below w.heap.size w w' := by
  have HA0 := Lib.hid (Bnd.At.new w 28 x0 x1 x2 x3 x4 x5 x6 x7 ch old)
  have HG0 := Lib.hid (show w.heap.size < (w.alloc (.cells #[.int .i64 x0, .int .i64 x1, .int .i64 x2, .int .i64 x3, .int .i64 x4, .int .i64 x5, .int .i64 x6, .int .i64 x7, .bool ch, .bool old] 28)).heap.size by simp)
  have HW := Lib.hid (show Below w.heap.size w (w.alloc (.cells #[.int .i64 x0, .int .i64 x1, .int .i64 x2, .int .i64 x3, .int .i64 x4, .int .i64 x5, .int .i64 x6, .int .i64 x7, .bool ch, .bool old] 28)) from (Below.refl _ _).alloc (Nat.le_refl _) _)
  have H3 := Lib.hid (fun w => Qk.rhas_any p hp 3 w)
  have H6 := Lib.hid (fun w => Qk.rhas_any p hp 6 w)
  have H7 := Lib.hid (fun w => Qk.rhas_any p hp 7 w)
  have HP := Lib.hid (fun w => rparts_any s (Qk.has p 3) w hs)
  have H8 := Lib.hid (fun w => Qk.rhas_any p hp 8 w)
  rw [hpv] at HP
  clear hpv
  have HT := Lib.hid (fun w => rbytes_any (ba t) p hp w (by rw [ba_size]; omega) (by rw [ba_size]; omega))
  have HA : Hid (∀ w a, Ints w a 1 [1] → Calls Tryz.prog 21 #[.string (ba m), .slice a 1 1] w fun e w' => e = .returned (.bool (Oct.allOf [1] m)) ∧ Below w.heap.size w w') := Lib.hid fun w a hk => (Oct.rall_any (ba m) a 1 1 [1] w (by rw [ba_size]; unfold maxLen; omega) hk (by decide)).mono (by
    rintro e w' ⟨rfl, q, rfl⟩
    exact ⟨rfl, Base.below_drewN (Below.refl _ _) q⟩)
  have HG := Lib.hid (fun w => Tgt.rtarget_any (ba m) (ba t) w (by rw [ba_size]; omega))
  have b1 : (ba m).data.toList = m := rfl
  have b2 : (ba t).data.toList = t := rfl
  rw [b1, b2] at HG
  rw [b2] at HT
  have hsm : (ba m).size = m.length := ba_size m
  clear b1 b2
  have htk : tgtOk (clOf p) m t = (tgtB (clOf p) t && (Qk.has p 7 || Qk.has p 8 || (Tgt.parse m t).isSome)) := rfl
  have hmk : methOk m = (decide (m.length ≤ 32) && Oct.allOf [1] m) := rfl
  rw [htk, hmk] at hR
  clear htk hmk
  generalize Oct.allOf [1] m = al at *
  generalize tgtB (clOf p) t = tb at *
  have hv2 : verL (clOf p) [] = some 0 := by unfold verL; rw [if_pos rfl]
  rw [hv2] at hR
  dsimp only at hR
  clear hv2
  have hans : ∃ (f : Int) (h1 p1 q1 : ByteArray) (a : Bool) (en : Int), Tgt.ans (Tgt.parse m t) = .tuple #[Tgt.tv f h1 p1 q1 a, .int .i64 en] ∧ (en = 0 ∧ (Tgt.parse m t).isSome = true ∨ en = 400 ∧ (Tgt.parse m t).isSome = false) := by
    cases Tgt.parse m t with
    | none => exact ⟨0, Tgt.E0, Tgt.E0, Tgt.E0, false, 400, rfl, .inr ⟨rfl, rfl⟩⟩
    | some g => exact ⟨_, _, _, _, _, 0, rfl, .inl ⟨rfl, rfl⟩⟩
  obtain ⟨f, h1, p1, q1, ta, en, hE, hen⟩ := hans
  rw [hE] at HG
  clear hE
  generalize (Tgt.parse m t).isSome = okp at *
  have c0 : ¬ ((ba m).size : Int) < 1 := by omega
  rw [h6] at H6
  clear h6
  generalize Qk.has p 7 = b7 at *
  generalize Qk.has p 8 = b8 at *
  generalize Qk.has p 3 = b3 at *
  rcases Nat.lt_or_ge 32 m.length with hl | hl
  · have c1 : (32 : Int) < ((ba m).size : Int) := by omega
    rw [decide_eq_false (by omega), Bool.false_and, Bool.false_and, if_neg (by decide)] at hR
    subst hR
    clear HG HT HA hen
    go_enter Tryz.func11, Tryz.ntmps11
    go_wp2_with (first
      | (go_at_call 19; with_reducible refine (HP.out _).mono ?_; rintro e w1 ⟨rfl, hb⟩
         have q9 := (HA0.out.below HG0.out hb).q9)
      | (go_at_call 20; with_reducible refine (H3.out _).mono ?_; rintro e w5 ⟨rfl, hw⟩; rw [hw]; clear hw)
      | (go_at_call 20; with_reducible refine (H6.out _).mono ?_; rintro e w5 ⟨rfl, hw⟩; rw [hw]; clear hw)
      | (go_at_call 20; with_reducible refine (H7.out _).mono ?_; rintro e w5 ⟨rfl, hw⟩; rw [hw]; clear hw)
      | (go_at_call 20; with_reducible refine (H8.out _).mono ?_; rintro e w5 ⟨rfl, hw⟩; rw [hw]; clear hw)
      | (go_at_call 21; with_reducible refine (HA.out _ _ (Ints.one _ _ rfl _ _)).mono ?_; rintro e w2 ⟨rfl, hb2⟩
         replace hb := Base.below_step (hb.alloc hb.size (.cells #[.int .i64 1] 3)) hb2
         clear hb2 q9
         have q9 := (HA0.out.below HG0.out hb).q9)
      | (go_at_call 22; with_reducible refine (HT.out _).mono ?_; rintro e w5 ⟨rfl, hw⟩; rw [hw]; clear hw)
      | (go_at_call 23; with_reducible refine (HG.out _).mono ?_; rintro e w3 ⟨rfl, hb3⟩
         replace hb := (Base.below_step hb hb3).alloc (Base.below_step hb hb3).size (.cells #[.int .i64 f, .string h1, .string p1, .string q1, .bool ta] 57)
         clear hb3 q9
         have q9 := (HA0.out.below HG0.out hb).q9)
      | (go_at_call 24; with_reducible refine (HV.out _).mono ?_; rintro e w4 ⟨rfl, hb4⟩
         replace hb := Base.below_step hb hb4
         clear hb4 q9
         have q9 := (HA0.out.below HG0.out hb).q9))
    exact bodyPost_ret (v := .tuple #[.string ⟨#[]⟩, .string ⟨#[]⟩, .int .i64 0, .int .i64 400]) (by simp [results, Tryz.results11, go_sem]) rfl ⟨rfl, Base.below_step HW.out hb⟩
  have c1 : ¬ (32 : Int) < ((ba m).size : Int) := by omega
  rw [decide_eq_true hl, Bool.true_and] at hR
  clear hl hsm
  cases al with
  | false =>
    rw [Bool.false_and, if_neg (by decide)] at hR
    subst hR
    clear HG HT hen
    go_enter Tryz.func11, Tryz.ntmps11
    go_wp2_with (first
      | (go_at_call 19; with_reducible refine (HP.out _).mono ?_; rintro e w1 ⟨rfl, hb⟩
         have q9 := (HA0.out.below HG0.out hb).q9)
      | (go_at_call 20; with_reducible refine (H3.out _).mono ?_; rintro e w5 ⟨rfl, hw⟩; rw [hw]; clear hw)
      | (go_at_call 20; with_reducible refine (H6.out _).mono ?_; rintro e w5 ⟨rfl, hw⟩; rw [hw]; clear hw)
      | (go_at_call 20; with_reducible refine (H7.out _).mono ?_; rintro e w5 ⟨rfl, hw⟩; rw [hw]; clear hw)
      | (go_at_call 20; with_reducible refine (H8.out _).mono ?_; rintro e w5 ⟨rfl, hw⟩; rw [hw]; clear hw)
      | (go_at_call 21; with_reducible refine (HA.out _ _ (Ints.one _ _ rfl _ _)).mono ?_; rintro e w2 ⟨rfl, hb2⟩
         replace hb := Base.below_step (hb.alloc hb.size (.cells #[.int .i64 1] 3)) hb2
         clear hb2 q9
         have q9 := (HA0.out.below HG0.out hb).q9)
      | (go_at_call 22; with_reducible refine (HT.out _).mono ?_; rintro e w5 ⟨rfl, hw⟩; rw [hw]; clear hw)
      | (go_at_call 23; with_reducible refine (HG.out _).mono ?_; rintro e w3 ⟨rfl, hb3⟩
         replace hb := (Base.below_step hb hb3).alloc (Base.below_step hb hb3).size (.cells #[.int .i64 f, .string h1, .string p1, .string q1, .bool ta] 57)
         clear hb3 q9
         have q9 := (HA0.out.below HG0.out hb).q9)
      | (go_at_call 24; with_reducible refine (HV.out _).mono ?_; rintro e w4 ⟨rfl, hb4⟩
         replace hb := Base.below_step hb hb4
         clear hb4 q9
         have q9 := (HA0.out.below HG0.out hb).q9))
    exact bodyPost_ret (v := .tuple #[.string ⟨#[]⟩, .string ⟨#[]⟩, .int .i64 0, .int .i64 400]) (by simp [results, Tryz.results11, go_sem]) rfl ⟨rfl, Base.below_step HW.out hb⟩
  | true =>
  rw [Bool.true_and] at hR
  cases tb with
  | false =>
    rw [Bool.false_and, if_neg (by decide)] at hR
    subst hR
    clear HG hen
    go_enter Tryz.func11, Tryz.ntmps11
    go_wp2_with (first
      | (go_at_call 19; with_reducible refine (HP.out _).mono ?_; rintro e w1 ⟨rfl, hb⟩
         have q9 := (HA0.out.below HG0.out hb).q9)
      | (go_at_call 20; with_reducible refine (H3.out _).mono ?_; rintro e w5 ⟨rfl, hw⟩; rw [hw]; clear hw)
      | (go_at_call 20; with_reducible refine (H6.out _).mono ?_; rintro e w5 ⟨rfl, hw⟩; rw [hw]; clear hw)
      | (go_at_call 20; with_reducible refine (H7.out _).mono ?_; rintro e w5 ⟨rfl, hw⟩; rw [hw]; clear hw)
      | (go_at_call 20; with_reducible refine (H8.out _).mono ?_; rintro e w5 ⟨rfl, hw⟩; rw [hw]; clear hw)
      | (go_at_call 21; with_reducible refine (HA.out _ _ (Ints.one _ _ rfl _ _)).mono ?_; rintro e w2 ⟨rfl, hb2⟩
         replace hb := Base.below_step (hb.alloc hb.size (.cells #[.int .i64 1] 3)) hb2
         clear hb2 q9
         have q9 := (HA0.out.below HG0.out hb).q9)
      | (go_at_call 22; with_reducible refine (HT.out _).mono ?_; rintro e w5 ⟨rfl, hw⟩; rw [hw]; clear hw)
      | (go_at_call 23; with_reducible refine (HG.out _).mono ?_; rintro e w3 ⟨rfl, hb3⟩
         replace hb := (Base.below_step hb hb3).alloc (Base.below_step hb hb3).size (.cells #[.int .i64 f, .string h1, .string p1, .string q1, .bool ta] 57)
         clear hb3 q9
         have q9 := (HA0.out.below HG0.out hb).q9)
      | (go_at_call 24; with_reducible refine (HV.out _).mono ?_; rintro e w4 ⟨rfl, hb4⟩
         replace hb := Base.below_step hb hb4
         clear hb4 q9
         have q9 := (HA0.out.below HG0.out hb).q9))
    exact bodyPost_ret (v := .tuple #[.string ⟨#[]⟩, .string ⟨#[]⟩, .int .i64 0, .int .i64 400]) (by simp [results, Tryz.results11, go_sem]) rfl ⟨rfl, Base.below_step HW.out hb⟩
  | true =>
  rw [Bool.true_and] at hR
  cases b7 with
  | true =>
    rw [Bool.true_or, Bool.true_or, if_pos rfl] at hR
    clear HG hen
    cases old with
    | false =>
      rw [if_pos (by decide)] at hR
      subst hR
      go_enter Tryz.func11, Tryz.ntmps11
      go_wp2_with (first
        | (go_at_call 19; with_reducible refine (HP.out _).mono ?_; rintro e w1 ⟨rfl, hb⟩
           have q9 := (HA0.out.below HG0.out hb).q9)
        | (go_at_call 20; with_reducible refine (H3.out _).mono ?_; rintro e w5 ⟨rfl, hw⟩; rw [hw]; clear hw)
        | (go_at_call 20; with_reducible refine (H6.out _).mono ?_; rintro e w5 ⟨rfl, hw⟩; rw [hw]; clear hw)
        | (go_at_call 20; with_reducible refine (H7.out _).mono ?_; rintro e w5 ⟨rfl, hw⟩; rw [hw]; clear hw)
        | (go_at_call 20; with_reducible refine (H8.out _).mono ?_; rintro e w5 ⟨rfl, hw⟩; rw [hw]; clear hw)
        | (go_at_call 21; with_reducible refine (HA.out _ _ (Ints.one _ _ rfl _ _)).mono ?_; rintro e w2 ⟨rfl, hb2⟩
           replace hb := Base.below_step (hb.alloc hb.size (.cells #[.int .i64 1] 3)) hb2
           clear hb2 q9
           have q9 := (HA0.out.below HG0.out hb).q9)
        | (go_at_call 22; with_reducible refine (HT.out _).mono ?_; rintro e w5 ⟨rfl, hw⟩; rw [hw]; clear hw)
        | (go_at_call 23; with_reducible refine (HG.out _).mono ?_; rintro e w3 ⟨rfl, hb3⟩
           replace hb := (Base.below_step hb hb3).alloc (Base.below_step hb hb3).size (.cells #[.int .i64 f, .string h1, .string p1, .string q1, .bool ta] 57)
           clear hb3 q9
           have q9 := (HA0.out.below HG0.out hb).q9)
        | (go_at_call 24; with_reducible refine (HV.out _).mono ?_; rintro e w4 ⟨rfl, hb4⟩
           replace hb := Base.below_step hb hb4
           clear hb4 q9
           have q9 := (HA0.out.below HG0.out hb).q9))
      exact bodyPost_ret (v := .tuple #[.string ⟨#[]⟩, .string ⟨#[]⟩, .int .i64 0, .int .i64 505]) (by simp [results, Tryz.results11, go_sem]) rfl ⟨rfl, Base.below_step HW.out hb⟩
    | true =>
      rw [if_neg (by decide)] at hR
      subst hR
      go_enter Tryz.func11, Tryz.ntmps11
      go_wp2_with (first
        | (go_at_call 19; with_reducible refine (HP.out _).mono ?_; rintro e w1 ⟨rfl, hb⟩
           have q9 := (HA0.out.below HG0.out hb).q9)
        | (go_at_call 20; with_reducible refine (H3.out _).mono ?_; rintro e w5 ⟨rfl, hw⟩; rw [hw]; clear hw)
        | (go_at_call 20; with_reducible refine (H6.out _).mono ?_; rintro e w5 ⟨rfl, hw⟩; rw [hw]; clear hw)
        | (go_at_call 20; with_reducible refine (H7.out _).mono ?_; rintro e w5 ⟨rfl, hw⟩; rw [hw]; clear hw)
        | (go_at_call 20; with_reducible refine (H8.out _).mono ?_; rintro e w5 ⟨rfl, hw⟩; rw [hw]; clear hw)
        | (go_at_call 21; with_reducible refine (HA.out _ _ (Ints.one _ _ rfl _ _)).mono ?_; rintro e w2 ⟨rfl, hb2⟩
           replace hb := Base.below_step (hb.alloc hb.size (.cells #[.int .i64 1] 3)) hb2
           clear hb2 q9
           have q9 := (HA0.out.below HG0.out hb).q9)
        | (go_at_call 22; with_reducible refine (HT.out _).mono ?_; rintro e w5 ⟨rfl, hw⟩; rw [hw]; clear hw)
        | (go_at_call 23; with_reducible refine (HG.out _).mono ?_; rintro e w3 ⟨rfl, hb3⟩
           replace hb := (Base.below_step hb hb3).alloc (Base.below_step hb hb3).size (.cells #[.int .i64 f, .string h1, .string p1, .string q1, .bool ta] 57)
           clear hb3 q9
           have q9 := (HA0.out.below HG0.out hb).q9)
        | (go_at_call 24; with_reducible refine (HV.out _).mono ?_; rintro e w4 ⟨rfl, hb4⟩
           replace hb := Base.below_step hb hb4
           clear hb4 q9
           have q9 := (HA0.out.below HG0.out hb).q9))
      exact bodyPost_ret (v := .tuple #[.string (ba m), .string (ba t), .int .i64 0, .int .i64 0]) (by simp [results, Tryz.results11, go_sem]) rfl ⟨rfl, Base.below_step HW.out hb⟩
  | false =>
  cases b8 with
  | true =>
    rw [Bool.or_true, Bool.true_or, if_pos rfl] at hR
    clear HG hen
    cases old with
    | false =>
      rw [if_pos (by decide)] at hR
      subst hR
      go_enter Tryz.func11, Tryz.ntmps11
      go_wp2_with (first
        | (go_at_call 19; with_reducible refine (HP.out _).mono ?_; rintro e w1 ⟨rfl, hb⟩
           have q9 := (HA0.out.below HG0.out hb).q9)
        | (go_at_call 20; with_reducible refine (H3.out _).mono ?_; rintro e w5 ⟨rfl, hw⟩; rw [hw]; clear hw)
        | (go_at_call 20; with_reducible refine (H6.out _).mono ?_; rintro e w5 ⟨rfl, hw⟩; rw [hw]; clear hw)
        | (go_at_call 20; with_reducible refine (H7.out _).mono ?_; rintro e w5 ⟨rfl, hw⟩; rw [hw]; clear hw)
        | (go_at_call 20; with_reducible refine (H8.out _).mono ?_; rintro e w5 ⟨rfl, hw⟩; rw [hw]; clear hw)
        | (go_at_call 21; with_reducible refine (HA.out _ _ (Ints.one _ _ rfl _ _)).mono ?_; rintro e w2 ⟨rfl, hb2⟩
           replace hb := Base.below_step (hb.alloc hb.size (.cells #[.int .i64 1] 3)) hb2
           clear hb2 q9
           have q9 := (HA0.out.below HG0.out hb).q9)
        | (go_at_call 22; with_reducible refine (HT.out _).mono ?_; rintro e w5 ⟨rfl, hw⟩; rw [hw]; clear hw)
        | (go_at_call 23; with_reducible refine (HG.out _).mono ?_; rintro e w3 ⟨rfl, hb3⟩
           replace hb := (Base.below_step hb hb3).alloc (Base.below_step hb hb3).size (.cells #[.int .i64 f, .string h1, .string p1, .string q1, .bool ta] 57)
           clear hb3 q9
           have q9 := (HA0.out.below HG0.out hb).q9)
        | (go_at_call 24; with_reducible refine (HV.out _).mono ?_; rintro e w4 ⟨rfl, hb4⟩
           replace hb := Base.below_step hb hb4
           clear hb4 q9
           have q9 := (HA0.out.below HG0.out hb).q9))
      exact bodyPost_ret (v := .tuple #[.string ⟨#[]⟩, .string ⟨#[]⟩, .int .i64 0, .int .i64 505]) (by simp [results, Tryz.results11, go_sem]) rfl ⟨rfl, Base.below_step HW.out hb⟩
    | true =>
      rw [if_neg (by decide)] at hR
      subst hR
      go_enter Tryz.func11, Tryz.ntmps11
      go_wp2_with (first
        | (go_at_call 19; with_reducible refine (HP.out _).mono ?_; rintro e w1 ⟨rfl, hb⟩
           have q9 := (HA0.out.below HG0.out hb).q9)
        | (go_at_call 20; with_reducible refine (H3.out _).mono ?_; rintro e w5 ⟨rfl, hw⟩; rw [hw]; clear hw)
        | (go_at_call 20; with_reducible refine (H6.out _).mono ?_; rintro e w5 ⟨rfl, hw⟩; rw [hw]; clear hw)
        | (go_at_call 20; with_reducible refine (H7.out _).mono ?_; rintro e w5 ⟨rfl, hw⟩; rw [hw]; clear hw)
        | (go_at_call 20; with_reducible refine (H8.out _).mono ?_; rintro e w5 ⟨rfl, hw⟩; rw [hw]; clear hw)
        | (go_at_call 21; with_reducible refine (HA.out _ _ (Ints.one _ _ rfl _ _)).mono ?_; rintro e w2 ⟨rfl, hb2⟩
           replace hb := Base.below_step (hb.alloc hb.size (.cells #[.int .i64 1] 3)) hb2
           clear hb2 q9
           have q9 := (HA0.out.below HG0.out hb).q9)
        | (go_at_call 22; with_reducible refine (HT.out _).mono ?_; rintro e w5 ⟨rfl, hw⟩; rw [hw]; clear hw)
        | (go_at_call 23; with_reducible refine (HG.out _).mono ?_; rintro e w3 ⟨rfl, hb3⟩
           replace hb := (Base.below_step hb hb3).alloc (Base.below_step hb hb3).size (.cells #[.int .i64 f, .string h1, .string p1, .string q1, .bool ta] 57)
           clear hb3 q9
           have q9 := (HA0.out.below HG0.out hb).q9)
        | (go_at_call 24; with_reducible refine (HV.out _).mono ?_; rintro e w4 ⟨rfl, hb4⟩
           replace hb := Base.below_step hb hb4
           clear hb4 q9
           have q9 := (HA0.out.below HG0.out hb).q9))
      exact bodyPost_ret (v := .tuple #[.string (ba m), .string (ba t), .int .i64 0, .int .i64 0]) (by simp [results, Tryz.results11, go_sem]) rfl ⟨rfl, Base.below_step HW.out hb⟩
  | false =>
  rw [Bool.or_false, Bool.false_or] at hR
  rcases hen with ⟨rfl, rfl⟩ | ⟨rfl, rfl⟩
  · rw [if_pos rfl] at hR
    cases old with
    | false =>
      rw [if_pos (by decide)] at hR
      subst hR
      go_enter Tryz.func11, Tryz.ntmps11
      go_wp2_with (first
        | (go_at_call 19; with_reducible refine (HP.out _).mono ?_; rintro e w1 ⟨rfl, hb⟩
           have q9 := (HA0.out.below HG0.out hb).q9)
        | (go_at_call 20; with_reducible refine (H3.out _).mono ?_; rintro e w5 ⟨rfl, hw⟩; rw [hw]; clear hw)
        | (go_at_call 20; with_reducible refine (H6.out _).mono ?_; rintro e w5 ⟨rfl, hw⟩; rw [hw]; clear hw)
        | (go_at_call 20; with_reducible refine (H7.out _).mono ?_; rintro e w5 ⟨rfl, hw⟩; rw [hw]; clear hw)
        | (go_at_call 20; with_reducible refine (H8.out _).mono ?_; rintro e w5 ⟨rfl, hw⟩; rw [hw]; clear hw)
        | (go_at_call 21; with_reducible refine (HA.out _ _ (Ints.one _ _ rfl _ _)).mono ?_; rintro e w2 ⟨rfl, hb2⟩
           replace hb := Base.below_step (hb.alloc hb.size (.cells #[.int .i64 1] 3)) hb2
           clear hb2 q9
           have q9 := (HA0.out.below HG0.out hb).q9)
        | (go_at_call 22; with_reducible refine (HT.out _).mono ?_; rintro e w5 ⟨rfl, hw⟩; rw [hw]; clear hw)
        | (go_at_call 23; with_reducible refine (HG.out _).mono ?_; rintro e w3 ⟨rfl, hb3⟩
           replace hb := (Base.below_step hb hb3).alloc (Base.below_step hb hb3).size (.cells #[.int .i64 f, .string h1, .string p1, .string q1, .bool ta] 57)
           clear hb3 q9
           have q9 := (HA0.out.below HG0.out hb).q9)
        | (go_at_call 24; with_reducible refine (HV.out _).mono ?_; rintro e w4 ⟨rfl, hb4⟩
           replace hb := Base.below_step hb hb4
           clear hb4 q9
           have q9 := (HA0.out.below HG0.out hb).q9))
      exact bodyPost_ret (v := .tuple #[.string ⟨#[]⟩, .string ⟨#[]⟩, .int .i64 0, .int .i64 505]) (by simp [results, Tryz.results11, go_sem]) rfl ⟨rfl, Base.below_step HW.out hb⟩
    | true =>
      rw [if_neg (by decide)] at hR
      subst hR
      go_enter Tryz.func11, Tryz.ntmps11
      go_wp2_with (first
        | (go_at_call 19; with_reducible refine (HP.out _).mono ?_; rintro e w1 ⟨rfl, hb⟩
           have q9 := (HA0.out.below HG0.out hb).q9)
        | (go_at_call 20; with_reducible refine (H3.out _).mono ?_; rintro e w5 ⟨rfl, hw⟩; rw [hw]; clear hw)
        | (go_at_call 20; with_reducible refine (H6.out _).mono ?_; rintro e w5 ⟨rfl, hw⟩; rw [hw]; clear hw)
        | (go_at_call 20; with_reducible refine (H7.out _).mono ?_; rintro e w5 ⟨rfl, hw⟩; rw [hw]; clear hw)
        | (go_at_call 20; with_reducible refine (H8.out _).mono ?_; rintro e w5 ⟨rfl, hw⟩; rw [hw]; clear hw)
        | (go_at_call 21; with_reducible refine (HA.out _ _ (Ints.one _ _ rfl _ _)).mono ?_; rintro e w2 ⟨rfl, hb2⟩
           replace hb := Base.below_step (hb.alloc hb.size (.cells #[.int .i64 1] 3)) hb2
           clear hb2 q9
           have q9 := (HA0.out.below HG0.out hb).q9)
        | (go_at_call 22; with_reducible refine (HT.out _).mono ?_; rintro e w5 ⟨rfl, hw⟩; rw [hw]; clear hw)
        | (go_at_call 23; with_reducible refine (HG.out _).mono ?_; rintro e w3 ⟨rfl, hb3⟩
           replace hb := (Base.below_step hb hb3).alloc (Base.below_step hb hb3).size (.cells #[.int .i64 f, .string h1, .string p1, .string q1, .bool ta] 57)
           clear hb3 q9
           have q9 := (HA0.out.below HG0.out hb).q9)
        | (go_at_call 24; with_reducible refine (HV.out _).mono ?_; rintro e w4 ⟨rfl, hb4⟩
           replace hb := Base.below_step hb hb4
           clear hb4 q9
           have q9 := (HA0.out.below HG0.out hb).q9))
      exact bodyPost_ret (v := .tuple #[.string (ba m), .string (ba t), .int .i64 0, .int .i64 0]) (by simp [results, Tryz.results11, go_sem]) rfl ⟨rfl, Base.below_step HW.out hb⟩
  · rw [if_neg (by decide)] at hR
    subst hR
    go_enter Tryz.func11, Tryz.ntmps11
    go_wp2_with (first
      | (go_at_call 19; with_reducible refine (HP.out _).mono ?_; rintro e w1 ⟨rfl, hb⟩
         have q9 := (HA0.out.below HG0.out hb).q9)
      | (go_at_call 20; with_reducible refine (H3.out _).mono ?_; rintro e w5 ⟨rfl, hw⟩; rw [hw]; clear hw)
      | (go_at_call 20; with_reducible refine (H6.out _).mono ?_; rintro e w5 ⟨rfl, hw⟩; rw [hw]; clear hw)
      | (go_at_call 20; with_reducible refine (H7.out _).mono ?_; rintro e w5 ⟨rfl, hw⟩; rw [hw]; clear hw)
      | (go_at_call 20; with_reducible refine (H8.out _).mono ?_; rintro e w5 ⟨rfl, hw⟩; rw [hw]; clear hw)
      | (go_at_call 21; with_reducible refine (HA.out _ _ (Ints.one _ _ rfl _ _)).mono ?_; rintro e w2 ⟨rfl, hb2⟩
         replace hb := Base.below_step (hb.alloc hb.size (.cells #[.int .i64 1] 3)) hb2
         clear hb2 q9
         have q9 := (HA0.out.below HG0.out hb).q9)
      | (go_at_call 22; with_reducible refine (HT.out _).mono ?_; rintro e w5 ⟨rfl, hw⟩; rw [hw]; clear hw)
      | (go_at_call 23; with_reducible refine (HG.out _).mono ?_; rintro e w3 ⟨rfl, hb3⟩
         replace hb := (Base.below_step hb hb3).alloc (Base.below_step hb hb3).size (.cells #[.int .i64 f, .string h1, .string p1, .string q1, .bool ta] 57)
         clear hb3 q9
         have q9 := (HA0.out.below HG0.out hb).q9)
      | (go_at_call 24; with_reducible refine (HV.out _).mono ?_; rintro e w4 ⟨rfl, hb4⟩
         replace hb := Base.below_step hb hb4
         clear hb4 q9
         have q9 := (HA0.out.below HG0.out hb).q9))
    exact bodyPost_ret (v := .tuple #[.string ⟨#[]⟩, .string ⟨#[]⟩, .int .i64 0, .int .i64 400]) (by simp [results, Tryz.results11, go_sem]) rfl ⟨rfl, Base.below_step HW.out hb⟩
set_option maxRecDepth 10000 in
theorem rrequest_three (s : ByteArray) (p : Nat) (hp : p < 4294967296) (x0 x1 x2 x3 x4 x5 x6 x7 : Int) (ch old : Bool) (w : World) (hs : s.size ≤ 900000000) (m t : List UInt8) (v : List UInt8) (hm0 : 0 < m.length) (hms : m.length ≤ s.size) (ht0 : 0 < t.length) (hts : t.length ≤ s.size) (hv0 : 0 < v.length)
    (hpv : rpv (Qk.has p 3) s.data.toList = .tuple #[.string (ba m), .string (ba t), .string (ba v), .int .i64 3, .bool true])
    (R : List UInt8 × List UInt8 × Nat × Nat) (hR : (if (methOk m && tgtOk (clOf p) m t) = true then (match verL (clOf p) v with | none => verR | some k => if (k == 0 && !old) = true then verR else (m, t, k, 0)) else badR) = R) :
    Calls Tryz.prog 11 #[.string s, .int .u32 (p : Nat), Bnd.bnd x0 x1 x2 x3 x4 x5 x6 x7 ch old] w fun e w' => e = .returned (rv R) ∧ Below w.heap.size w w' := by
  have HA0 := Lib.hid (Bnd.At.new w 28 x0 x1 x2 x3 x4 x5 x6 x7 ch old)
  have HG0 := Lib.hid (show w.heap.size < (w.alloc (.cells #[.int .i64 x0, .int .i64 x1, .int .i64 x2, .int .i64 x3, .int .i64 x4, .int .i64 x5, .int .i64 x6, .int .i64 x7, .bool ch, .bool old] 28)).heap.size by simp)
  have HW := Lib.hid (show Below w.heap.size w (w.alloc (.cells #[.int .i64 x0, .int .i64 x1, .int .i64 x2, .int .i64 x3, .int .i64 x4, .int .i64 x5, .int .i64 x6, .int .i64 x7, .bool ch, .bool old] 28)) from (Below.refl _ _).alloc (Nat.le_refl _) _)
  have H3 := Lib.hid (fun w => Qk.rhas_any p hp 3 w)
  have H6 := Lib.hid (fun w => Qk.rhas_any p hp 6 w)
  have H7 := Lib.hid (fun w => Qk.rhas_any p hp 7 w)
  have HP := Lib.hid (fun w => rparts_any s (Qk.has p 3) w hs)
  have H8 := Lib.hid (fun w => Qk.rhas_any p hp 8 w)
  rw [hpv] at HP
  clear hpv
  have HT := Lib.hid (fun w => rbytes_any (ba t) p hp w (by rw [ba_size]; omega) (by rw [ba_size]; omega))
  have HA : Hid (∀ w a, Ints w a 1 [1] → Calls Tryz.prog 21 #[.string (ba m), .slice a 1 1] w fun e w' => e = .returned (.bool (Oct.allOf [1] m)) ∧ Below w.heap.size w w') := Lib.hid fun w a hk => (Oct.rall_any (ba m) a 1 1 [1] w (by rw [ba_size]; unfold maxLen; omega) hk (by decide)).mono (by
    rintro e w' ⟨rfl, q, rfl⟩
    exact ⟨rfl, Base.below_drewN (Below.refl _ _) q⟩)
  have HG := Lib.hid (fun w => Tgt.rtarget_any (ba m) (ba t) w (by rw [ba_size]; omega))
  have b1 : (ba m).data.toList = m := rfl
  have b2 : (ba t).data.toList = t := rfl
  rw [b1, b2] at HG
  rw [b2] at HT
  have hsm : (ba m).size = m.length := ba_size m
  clear b1 b2
  have htk : tgtOk (clOf p) m t = (tgtB (clOf p) t && (Qk.has p 7 || Qk.has p 8 || (Tgt.parse m t).isSome)) := rfl
  have hmk : methOk m = (decide (m.length ≤ 32) && Oct.allOf [1] m) := rfl
  rw [htk, hmk] at hR
  clear htk hmk
  have HV0 := Lib.hid (fun w => rversion_any (ba v) p hp w (by rw [ba_size]; exact hv0))
  have b3 : (ba v).data.toList = v := rfl
  rw [b3] at HV0
  clear b3
  generalize Oct.allOf [1] m = al at *
  generalize tgtB (clOf p) t = tb at *
  have hans : ∃ (f : Int) (h1 p1 q1 : ByteArray) (a : Bool) (en : Int), Tgt.ans (Tgt.parse m t) = .tuple #[Tgt.tv f h1 p1 q1 a, .int .i64 en] ∧ (en = 0 ∧ (Tgt.parse m t).isSome = true ∨ en = 400 ∧ (Tgt.parse m t).isSome = false) := by
    cases Tgt.parse m t with
    | none => exact ⟨0, Tgt.E0, Tgt.E0, Tgt.E0, false, 400, rfl, .inr ⟨rfl, rfl⟩⟩
    | some g => exact ⟨_, _, _, _, _, 0, rfl, .inl ⟨rfl, rfl⟩⟩
  obtain ⟨f, h1, p1, q1, ta, en, hE, hen⟩ := hans
  rw [hE] at HG
  clear hE
  generalize (Tgt.parse m t).isSome = okp at *
  have c0 : ¬ ((ba m).size : Int) < 1 := by omega
  generalize Qk.has p 7 = b7 at *
  generalize Qk.has p 8 = b8 at *
  generalize Qk.has p 6 = b6 at *
  generalize Qk.has p 3 = b3 at *
  rcases Nat.lt_or_ge 32 m.length with hl | hl
  · have c1 : (32 : Int) < ((ba m).size : Int) := by omega
    rw [decide_eq_false (by omega), Bool.false_and, Bool.false_and, if_neg (by decide)] at hR
    subst hR
    clear HG HT HA hen
    go_enter Tryz.func11, Tryz.ntmps11
    go_wp2_with (first
      | (go_at_call 19; with_reducible refine (HP.out _).mono ?_; rintro e w1 ⟨rfl, hb⟩
         have q9 := (HA0.out.below HG0.out hb).q9)
      | (go_at_call 20; with_reducible refine (H3.out _).mono ?_; rintro e w5 ⟨rfl, hw⟩; rw [hw]; clear hw)
      | (go_at_call 20; with_reducible refine (H6.out _).mono ?_; rintro e w5 ⟨rfl, hw⟩; rw [hw]; clear hw)
      | (go_at_call 20; with_reducible refine (H7.out _).mono ?_; rintro e w5 ⟨rfl, hw⟩; rw [hw]; clear hw)
      | (go_at_call 20; with_reducible refine (H8.out _).mono ?_; rintro e w5 ⟨rfl, hw⟩; rw [hw]; clear hw)
      | (go_at_call 21; with_reducible refine (HA.out _ _ (Ints.one _ _ rfl _ _)).mono ?_; rintro e w2 ⟨rfl, hb2⟩
         replace hb := Base.below_step (hb.alloc hb.size (.cells #[.int .i64 1] 3)) hb2
         clear hb2 q9
         have q9 := (HA0.out.below HG0.out hb).q9)
      | (go_at_call 22; with_reducible refine (HT.out _).mono ?_; rintro e w5 ⟨rfl, hw⟩; rw [hw]; clear hw)
      | (go_at_call 23; with_reducible refine (HG.out _).mono ?_; rintro e w3 ⟨rfl, hb3⟩
         replace hb := (Base.below_step hb hb3).alloc (Base.below_step hb hb3).size (.cells #[.int .i64 f, .string h1, .string p1, .string q1, .bool ta] 57)
         clear hb3 q9
         have q9 := (HA0.out.below HG0.out hb).q9)
      | (go_at_call 24; with_reducible refine (HV.out _).mono ?_; rintro e w4 ⟨rfl, hb4⟩
         replace hb := Base.below_step hb hb4
         clear hb4 q9
         have q9 := (HA0.out.below HG0.out hb).q9))
    exact bodyPost_ret (v := .tuple #[.string ⟨#[]⟩, .string ⟨#[]⟩, .int .i64 0, .int .i64 400]) (by simp [results, Tryz.results11, go_sem]) rfl ⟨rfl, Base.below_step HW.out hb⟩
  have c1 : ¬ (32 : Int) < ((ba m).size : Int) := by omega
  rw [decide_eq_true hl, Bool.true_and] at hR
  clear hl hsm
  cases al with
  | false =>
    rw [Bool.false_and, if_neg (by decide)] at hR
    subst hR
    clear HG HT hen
    go_enter Tryz.func11, Tryz.ntmps11
    go_wp2_with (first
      | (go_at_call 19; with_reducible refine (HP.out _).mono ?_; rintro e w1 ⟨rfl, hb⟩
         have q9 := (HA0.out.below HG0.out hb).q9)
      | (go_at_call 20; with_reducible refine (H3.out _).mono ?_; rintro e w5 ⟨rfl, hw⟩; rw [hw]; clear hw)
      | (go_at_call 20; with_reducible refine (H6.out _).mono ?_; rintro e w5 ⟨rfl, hw⟩; rw [hw]; clear hw)
      | (go_at_call 20; with_reducible refine (H7.out _).mono ?_; rintro e w5 ⟨rfl, hw⟩; rw [hw]; clear hw)
      | (go_at_call 20; with_reducible refine (H8.out _).mono ?_; rintro e w5 ⟨rfl, hw⟩; rw [hw]; clear hw)
      | (go_at_call 21; with_reducible refine (HA.out _ _ (Ints.one _ _ rfl _ _)).mono ?_; rintro e w2 ⟨rfl, hb2⟩
         replace hb := Base.below_step (hb.alloc hb.size (.cells #[.int .i64 1] 3)) hb2
         clear hb2 q9
         have q9 := (HA0.out.below HG0.out hb).q9)
      | (go_at_call 22; with_reducible refine (HT.out _).mono ?_; rintro e w5 ⟨rfl, hw⟩; rw [hw]; clear hw)
      | (go_at_call 23; with_reducible refine (HG.out _).mono ?_; rintro e w3 ⟨rfl, hb3⟩
         replace hb := (Base.below_step hb hb3).alloc (Base.below_step hb hb3).size (.cells #[.int .i64 f, .string h1, .string p1, .string q1, .bool ta] 57)
         clear hb3 q9
         have q9 := (HA0.out.below HG0.out hb).q9)
      | (go_at_call 24; with_reducible refine (HV.out _).mono ?_; rintro e w4 ⟨rfl, hb4⟩
         replace hb := Base.below_step hb hb4
         clear hb4 q9
         have q9 := (HA0.out.below HG0.out hb).q9))
    exact bodyPost_ret (v := .tuple #[.string ⟨#[]⟩, .string ⟨#[]⟩, .int .i64 0, .int .i64 400]) (by simp [results, Tryz.results11, go_sem]) rfl ⟨rfl, Base.below_step HW.out hb⟩
  | true =>
  rw [Bool.true_and] at hR
  cases tb with
  | false =>
    rw [Bool.false_and, if_neg (by decide)] at hR
    subst hR
    clear HG hen
    go_enter Tryz.func11, Tryz.ntmps11
    go_wp2_with (first
      | (go_at_call 19; with_reducible refine (HP.out _).mono ?_; rintro e w1 ⟨rfl, hb⟩
         have q9 := (HA0.out.below HG0.out hb).q9)
      | (go_at_call 20; with_reducible refine (H3.out _).mono ?_; rintro e w5 ⟨rfl, hw⟩; rw [hw]; clear hw)
      | (go_at_call 20; with_reducible refine (H6.out _).mono ?_; rintro e w5 ⟨rfl, hw⟩; rw [hw]; clear hw)
      | (go_at_call 20; with_reducible refine (H7.out _).mono ?_; rintro e w5 ⟨rfl, hw⟩; rw [hw]; clear hw)
      | (go_at_call 20; with_reducible refine (H8.out _).mono ?_; rintro e w5 ⟨rfl, hw⟩; rw [hw]; clear hw)
      | (go_at_call 21; with_reducible refine (HA.out _ _ (Ints.one _ _ rfl _ _)).mono ?_; rintro e w2 ⟨rfl, hb2⟩
         replace hb := Base.below_step (hb.alloc hb.size (.cells #[.int .i64 1] 3)) hb2
         clear hb2 q9
         have q9 := (HA0.out.below HG0.out hb).q9)
      | (go_at_call 22; with_reducible refine (HT.out _).mono ?_; rintro e w5 ⟨rfl, hw⟩; rw [hw]; clear hw)
      | (go_at_call 23; with_reducible refine (HG.out _).mono ?_; rintro e w3 ⟨rfl, hb3⟩
         replace hb := (Base.below_step hb hb3).alloc (Base.below_step hb hb3).size (.cells #[.int .i64 f, .string h1, .string p1, .string q1, .bool ta] 57)
         clear hb3 q9
         have q9 := (HA0.out.below HG0.out hb).q9)
      | (go_at_call 24; with_reducible refine (HV.out _).mono ?_; rintro e w4 ⟨rfl, hb4⟩
         replace hb := Base.below_step hb hb4
         clear hb4 q9
         have q9 := (HA0.out.below HG0.out hb).q9))
    exact bodyPost_ret (v := .tuple #[.string ⟨#[]⟩, .string ⟨#[]⟩, .int .i64 0, .int .i64 400]) (by simp [results, Tryz.results11, go_sem]) rfl ⟨rfl, Base.below_step HW.out hb⟩
  | true =>
  rw [Bool.true_and] at hR
  cases b7 with
  | true =>
    rw [Bool.true_or, Bool.true_or, if_pos rfl] at hR
    clear HG hen
    cases hvl : verL (clOf p) v with
    | none =>
      rw [hvl] at hR HV0
      dsimp only at hR
      subst hR
      clear hvl
      have HV : Hid (∀ w, Calls Tryz.prog 24 #[.string (ba v), .int .u32 (p : Nat)] w fun e w' => (∃ k : Nat, e = .returned (.tuple #[.int .i64 (k : Int), .bool false])) ∧ Below w.heap.size w w') := Lib.hid fun w => (HV0.out w).mono (by rintro e w' ⟨⟨k, rfl, _⟩, hb⟩; exact ⟨⟨k, rfl⟩, hb⟩)
      clear HV0
      go_enter Tryz.func11, Tryz.ntmps11
      go_wp2_with (first
        | (go_at_call 19; with_reducible refine (HP.out _).mono ?_; rintro e w1 ⟨rfl, hb⟩
           have q9 := (HA0.out.below HG0.out hb).q9)
        | (go_at_call 20; with_reducible refine (H3.out _).mono ?_; rintro e w5 ⟨rfl, hw⟩; rw [hw]; clear hw)
        | (go_at_call 20; with_reducible refine (H6.out _).mono ?_; rintro e w5 ⟨rfl, hw⟩; rw [hw]; clear hw)
        | (go_at_call 20; with_reducible refine (H7.out _).mono ?_; rintro e w5 ⟨rfl, hw⟩; rw [hw]; clear hw)
        | (go_at_call 20; with_reducible refine (H8.out _).mono ?_; rintro e w5 ⟨rfl, hw⟩; rw [hw]; clear hw)
        | (go_at_call 21; with_reducible refine (HA.out _ _ (Ints.one _ _ rfl _ _)).mono ?_; rintro e w2 ⟨rfl, hb2⟩
           replace hb := Base.below_step (hb.alloc hb.size (.cells #[.int .i64 1] 3)) hb2
           clear hb2 q9
           have q9 := (HA0.out.below HG0.out hb).q9)
        | (go_at_call 22; with_reducible refine (HT.out _).mono ?_; rintro e w5 ⟨rfl, hw⟩; rw [hw]; clear hw)
        | (go_at_call 23; with_reducible refine (HG.out _).mono ?_; rintro e w3 ⟨rfl, hb3⟩
           replace hb := (Base.below_step hb hb3).alloc (Base.below_step hb hb3).size (.cells #[.int .i64 f, .string h1, .string p1, .string q1, .bool ta] 57)
           clear hb3 q9
           have q9 := (HA0.out.below HG0.out hb).q9)
        | (go_at_call 24; with_reducible refine (HV.out _).mono ?_; rintro e w4 ⟨⟨kk, rfl⟩, hb4⟩
           replace hb := Base.below_step hb hb4
           clear hb4 q9
           have q9 := (HA0.out.below HG0.out hb).q9))
      exact bodyPost_ret (v := .tuple #[.string ⟨#[]⟩, .string ⟨#[]⟩, .int .i64 0, .int .i64 505]) (by simp [results, Tryz.results11, go_sem]) rfl ⟨rfl, Base.below_step HW.out hb⟩
    | some k =>
      have h01 := verL_01 hvl
      rw [hvl] at hR HV0
      dsimp only at hR
      clear hvl
      have HV : Hid (∀ w, Calls Tryz.prog 24 #[.string (ba v), .int .u32 (p : Nat)] w fun e w' => e = .returned (.tuple #[.int .i64 (k : Int), .bool true]) ∧ Below w.heap.size w w') := Lib.hid fun w => (HV0.out w).mono (by rintro e w' ⟨⟨j, rfl, hj⟩, hb⟩; rw [hj k rfl]; exact ⟨rfl, hb⟩)
      clear HV0
      rcases h01 with rfl | rfl
      · cases old with
        | false =>
          rw [if_pos (by decide)] at hR
          subst hR
          go_enter Tryz.func11, Tryz.ntmps11
          go_wp2_with (first
            | (go_at_call 19; with_reducible refine (HP.out _).mono ?_; rintro e w1 ⟨rfl, hb⟩
               have q9 := (HA0.out.below HG0.out hb).q9)
            | (go_at_call 20; with_reducible refine (H3.out _).mono ?_; rintro e w5 ⟨rfl, hw⟩; rw [hw]; clear hw)
            | (go_at_call 20; with_reducible refine (H6.out _).mono ?_; rintro e w5 ⟨rfl, hw⟩; rw [hw]; clear hw)
            | (go_at_call 20; with_reducible refine (H7.out _).mono ?_; rintro e w5 ⟨rfl, hw⟩; rw [hw]; clear hw)
            | (go_at_call 20; with_reducible refine (H8.out _).mono ?_; rintro e w5 ⟨rfl, hw⟩; rw [hw]; clear hw)
            | (go_at_call 21; with_reducible refine (HA.out _ _ (Ints.one _ _ rfl _ _)).mono ?_; rintro e w2 ⟨rfl, hb2⟩
               replace hb := Base.below_step (hb.alloc hb.size (.cells #[.int .i64 1] 3)) hb2
               clear hb2 q9
               have q9 := (HA0.out.below HG0.out hb).q9)
            | (go_at_call 22; with_reducible refine (HT.out _).mono ?_; rintro e w5 ⟨rfl, hw⟩; rw [hw]; clear hw)
            | (go_at_call 23; with_reducible refine (HG.out _).mono ?_; rintro e w3 ⟨rfl, hb3⟩
               replace hb := (Base.below_step hb hb3).alloc (Base.below_step hb hb3).size (.cells #[.int .i64 f, .string h1, .string p1, .string q1, .bool ta] 57)
               clear hb3 q9
               have q9 := (HA0.out.below HG0.out hb).q9)
            | (go_at_call 24; with_reducible refine (HV.out _).mono ?_; rintro e w4 ⟨rfl, hb4⟩
               replace hb := Base.below_step hb hb4
               clear hb4 q9
               have q9 := (HA0.out.below HG0.out hb).q9))
          exact bodyPost_ret (v := .tuple #[.string ⟨#[]⟩, .string ⟨#[]⟩, .int .i64 0, .int .i64 505]) (by simp [results, Tryz.results11, go_sem]) rfl ⟨rfl, Base.below_step HW.out hb⟩
        | true =>
          rw [if_neg (by decide)] at hR
          subst hR
          go_enter Tryz.func11, Tryz.ntmps11
          go_wp2_with (first
            | (go_at_call 19; with_reducible refine (HP.out _).mono ?_; rintro e w1 ⟨rfl, hb⟩
               have q9 := (HA0.out.below HG0.out hb).q9)
            | (go_at_call 20; with_reducible refine (H3.out _).mono ?_; rintro e w5 ⟨rfl, hw⟩; rw [hw]; clear hw)
            | (go_at_call 20; with_reducible refine (H6.out _).mono ?_; rintro e w5 ⟨rfl, hw⟩; rw [hw]; clear hw)
            | (go_at_call 20; with_reducible refine (H7.out _).mono ?_; rintro e w5 ⟨rfl, hw⟩; rw [hw]; clear hw)
            | (go_at_call 20; with_reducible refine (H8.out _).mono ?_; rintro e w5 ⟨rfl, hw⟩; rw [hw]; clear hw)
            | (go_at_call 21; with_reducible refine (HA.out _ _ (Ints.one _ _ rfl _ _)).mono ?_; rintro e w2 ⟨rfl, hb2⟩
               replace hb := Base.below_step (hb.alloc hb.size (.cells #[.int .i64 1] 3)) hb2
               clear hb2 q9
               have q9 := (HA0.out.below HG0.out hb).q9)
            | (go_at_call 22; with_reducible refine (HT.out _).mono ?_; rintro e w5 ⟨rfl, hw⟩; rw [hw]; clear hw)
            | (go_at_call 23; with_reducible refine (HG.out _).mono ?_; rintro e w3 ⟨rfl, hb3⟩
               replace hb := (Base.below_step hb hb3).alloc (Base.below_step hb hb3).size (.cells #[.int .i64 f, .string h1, .string p1, .string q1, .bool ta] 57)
               clear hb3 q9
               have q9 := (HA0.out.below HG0.out hb).q9)
            | (go_at_call 24; with_reducible refine (HV.out _).mono ?_; rintro e w4 ⟨rfl, hb4⟩
               replace hb := Base.below_step hb hb4
               clear hb4 q9
               have q9 := (HA0.out.below HG0.out hb).q9))
          exact bodyPost_ret (v := .tuple #[.string (ba m), .string (ba t), .int .i64 0, .int .i64 0]) (by simp [results, Tryz.results11, go_sem]) rfl ⟨rfl, Base.below_step HW.out hb⟩
      · rw [if_neg (by simp)] at hR
        subst hR
        go_enter Tryz.func11, Tryz.ntmps11
        go_wp2_with (first
          | (go_at_call 19; with_reducible refine (HP.out _).mono ?_; rintro e w1 ⟨rfl, hb⟩
             have q9 := (HA0.out.below HG0.out hb).q9)
          | (go_at_call 20; with_reducible refine (H3.out _).mono ?_; rintro e w5 ⟨rfl, hw⟩; rw [hw]; clear hw)
          | (go_at_call 20; with_reducible refine (H6.out _).mono ?_; rintro e w5 ⟨rfl, hw⟩; rw [hw]; clear hw)
          | (go_at_call 20; with_reducible refine (H7.out _).mono ?_; rintro e w5 ⟨rfl, hw⟩; rw [hw]; clear hw)
          | (go_at_call 20; with_reducible refine (H8.out _).mono ?_; rintro e w5 ⟨rfl, hw⟩; rw [hw]; clear hw)
          | (go_at_call 21; with_reducible refine (HA.out _ _ (Ints.one _ _ rfl _ _)).mono ?_; rintro e w2 ⟨rfl, hb2⟩
             replace hb := Base.below_step (hb.alloc hb.size (.cells #[.int .i64 1] 3)) hb2
             clear hb2 q9
             have q9 := (HA0.out.below HG0.out hb).q9)
          | (go_at_call 22; with_reducible refine (HT.out _).mono ?_; rintro e w5 ⟨rfl, hw⟩; rw [hw]; clear hw)
          | (go_at_call 23; with_reducible refine (HG.out _).mono ?_; rintro e w3 ⟨rfl, hb3⟩
             replace hb := (Base.below_step hb hb3).alloc (Base.below_step hb hb3).size (.cells #[.int .i64 f, .string h1, .string p1, .string q1, .bool ta] 57)
             clear hb3 q9
             have q9 := (HA0.out.below HG0.out hb).q9)
          | (go_at_call 24; with_reducible refine (HV.out _).mono ?_; rintro e w4 ⟨rfl, hb4⟩
             replace hb := Base.below_step hb hb4
             clear hb4 q9
             have q9 := (HA0.out.below HG0.out hb).q9))
        exact bodyPost_ret (v := .tuple #[.string (ba m), .string (ba t), .int .i64 1, .int .i64 0]) (by simp [results, Tryz.results11, go_sem]) rfl ⟨rfl, Base.below_step HW.out hb⟩
  | false =>
  cases b8 with
  | true =>
    rw [Bool.or_true, Bool.true_or, if_pos rfl] at hR
    clear HG hen
    cases hvl : verL (clOf p) v with
    | none =>
      rw [hvl] at hR HV0
      dsimp only at hR
      subst hR
      clear hvl
      have HV : Hid (∀ w, Calls Tryz.prog 24 #[.string (ba v), .int .u32 (p : Nat)] w fun e w' => (∃ k : Nat, e = .returned (.tuple #[.int .i64 (k : Int), .bool false])) ∧ Below w.heap.size w w') := Lib.hid fun w => (HV0.out w).mono (by rintro e w' ⟨⟨k, rfl, _⟩, hb⟩; exact ⟨⟨k, rfl⟩, hb⟩)
      clear HV0
      go_enter Tryz.func11, Tryz.ntmps11
      go_wp2_with (first
        | (go_at_call 19; with_reducible refine (HP.out _).mono ?_; rintro e w1 ⟨rfl, hb⟩
           have q9 := (HA0.out.below HG0.out hb).q9)
        | (go_at_call 20; with_reducible refine (H3.out _).mono ?_; rintro e w5 ⟨rfl, hw⟩; rw [hw]; clear hw)
        | (go_at_call 20; with_reducible refine (H6.out _).mono ?_; rintro e w5 ⟨rfl, hw⟩; rw [hw]; clear hw)
        | (go_at_call 20; with_reducible refine (H7.out _).mono ?_; rintro e w5 ⟨rfl, hw⟩; rw [hw]; clear hw)
        | (go_at_call 20; with_reducible refine (H8.out _).mono ?_; rintro e w5 ⟨rfl, hw⟩; rw [hw]; clear hw)
        | (go_at_call 21; with_reducible refine (HA.out _ _ (Ints.one _ _ rfl _ _)).mono ?_; rintro e w2 ⟨rfl, hb2⟩
           replace hb := Base.below_step (hb.alloc hb.size (.cells #[.int .i64 1] 3)) hb2
           clear hb2 q9
           have q9 := (HA0.out.below HG0.out hb).q9)
        | (go_at_call 22; with_reducible refine (HT.out _).mono ?_; rintro e w5 ⟨rfl, hw⟩; rw [hw]; clear hw)
        | (go_at_call 23; with_reducible refine (HG.out _).mono ?_; rintro e w3 ⟨rfl, hb3⟩
           replace hb := (Base.below_step hb hb3).alloc (Base.below_step hb hb3).size (.cells #[.int .i64 f, .string h1, .string p1, .string q1, .bool ta] 57)
           clear hb3 q9
           have q9 := (HA0.out.below HG0.out hb).q9)
        | (go_at_call 24; with_reducible refine (HV.out _).mono ?_; rintro e w4 ⟨⟨kk, rfl⟩, hb4⟩
           replace hb := Base.below_step hb hb4
           clear hb4 q9
           have q9 := (HA0.out.below HG0.out hb).q9))
      exact bodyPost_ret (v := .tuple #[.string ⟨#[]⟩, .string ⟨#[]⟩, .int .i64 0, .int .i64 505]) (by simp [results, Tryz.results11, go_sem]) rfl ⟨rfl, Base.below_step HW.out hb⟩
    | some k =>
      have h01 := verL_01 hvl
      rw [hvl] at hR HV0
      dsimp only at hR
      clear hvl
      have HV : Hid (∀ w, Calls Tryz.prog 24 #[.string (ba v), .int .u32 (p : Nat)] w fun e w' => e = .returned (.tuple #[.int .i64 (k : Int), .bool true]) ∧ Below w.heap.size w w') := Lib.hid fun w => (HV0.out w).mono (by rintro e w' ⟨⟨j, rfl, hj⟩, hb⟩; rw [hj k rfl]; exact ⟨rfl, hb⟩)
      clear HV0
      rcases h01 with rfl | rfl
      · cases old with
        | false =>
          rw [if_pos (by decide)] at hR
          subst hR
          go_enter Tryz.func11, Tryz.ntmps11
          go_wp2_with (first
            | (go_at_call 19; with_reducible refine (HP.out _).mono ?_; rintro e w1 ⟨rfl, hb⟩
               have q9 := (HA0.out.below HG0.out hb).q9)
            | (go_at_call 20; with_reducible refine (H3.out _).mono ?_; rintro e w5 ⟨rfl, hw⟩; rw [hw]; clear hw)
            | (go_at_call 20; with_reducible refine (H6.out _).mono ?_; rintro e w5 ⟨rfl, hw⟩; rw [hw]; clear hw)
            | (go_at_call 20; with_reducible refine (H7.out _).mono ?_; rintro e w5 ⟨rfl, hw⟩; rw [hw]; clear hw)
            | (go_at_call 20; with_reducible refine (H8.out _).mono ?_; rintro e w5 ⟨rfl, hw⟩; rw [hw]; clear hw)
            | (go_at_call 21; with_reducible refine (HA.out _ _ (Ints.one _ _ rfl _ _)).mono ?_; rintro e w2 ⟨rfl, hb2⟩
               replace hb := Base.below_step (hb.alloc hb.size (.cells #[.int .i64 1] 3)) hb2
               clear hb2 q9
               have q9 := (HA0.out.below HG0.out hb).q9)
            | (go_at_call 22; with_reducible refine (HT.out _).mono ?_; rintro e w5 ⟨rfl, hw⟩; rw [hw]; clear hw)
            | (go_at_call 23; with_reducible refine (HG.out _).mono ?_; rintro e w3 ⟨rfl, hb3⟩
               replace hb := (Base.below_step hb hb3).alloc (Base.below_step hb hb3).size (.cells #[.int .i64 f, .string h1, .string p1, .string q1, .bool ta] 57)
               clear hb3 q9
               have q9 := (HA0.out.below HG0.out hb).q9)
            | (go_at_call 24; with_reducible refine (HV.out _).mono ?_; rintro e w4 ⟨rfl, hb4⟩
               replace hb := Base.below_step hb hb4
               clear hb4 q9
               have q9 := (HA0.out.below HG0.out hb).q9))
          exact bodyPost_ret (v := .tuple #[.string ⟨#[]⟩, .string ⟨#[]⟩, .int .i64 0, .int .i64 505]) (by simp [results, Tryz.results11, go_sem]) rfl ⟨rfl, Base.below_step HW.out hb⟩
        | true =>
          rw [if_neg (by decide)] at hR
          subst hR
          go_enter Tryz.func11, Tryz.ntmps11
          go_wp2_with (first
            | (go_at_call 19; with_reducible refine (HP.out _).mono ?_; rintro e w1 ⟨rfl, hb⟩
               have q9 := (HA0.out.below HG0.out hb).q9)
            | (go_at_call 20; with_reducible refine (H3.out _).mono ?_; rintro e w5 ⟨rfl, hw⟩; rw [hw]; clear hw)
            | (go_at_call 20; with_reducible refine (H6.out _).mono ?_; rintro e w5 ⟨rfl, hw⟩; rw [hw]; clear hw)
            | (go_at_call 20; with_reducible refine (H7.out _).mono ?_; rintro e w5 ⟨rfl, hw⟩; rw [hw]; clear hw)
            | (go_at_call 20; with_reducible refine (H8.out _).mono ?_; rintro e w5 ⟨rfl, hw⟩; rw [hw]; clear hw)
            | (go_at_call 21; with_reducible refine (HA.out _ _ (Ints.one _ _ rfl _ _)).mono ?_; rintro e w2 ⟨rfl, hb2⟩
               replace hb := Base.below_step (hb.alloc hb.size (.cells #[.int .i64 1] 3)) hb2
               clear hb2 q9
               have q9 := (HA0.out.below HG0.out hb).q9)
            | (go_at_call 22; with_reducible refine (HT.out _).mono ?_; rintro e w5 ⟨rfl, hw⟩; rw [hw]; clear hw)
            | (go_at_call 23; with_reducible refine (HG.out _).mono ?_; rintro e w3 ⟨rfl, hb3⟩
               replace hb := (Base.below_step hb hb3).alloc (Base.below_step hb hb3).size (.cells #[.int .i64 f, .string h1, .string p1, .string q1, .bool ta] 57)
               clear hb3 q9
               have q9 := (HA0.out.below HG0.out hb).q9)
            | (go_at_call 24; with_reducible refine (HV.out _).mono ?_; rintro e w4 ⟨rfl, hb4⟩
               replace hb := Base.below_step hb hb4
               clear hb4 q9
               have q9 := (HA0.out.below HG0.out hb).q9))
          exact bodyPost_ret (v := .tuple #[.string (ba m), .string (ba t), .int .i64 0, .int .i64 0]) (by simp [results, Tryz.results11, go_sem]) rfl ⟨rfl, Base.below_step HW.out hb⟩
      · rw [if_neg (by simp)] at hR
        subst hR
        go_enter Tryz.func11, Tryz.ntmps11
        go_wp2_with (first
          | (go_at_call 19; with_reducible refine (HP.out _).mono ?_; rintro e w1 ⟨rfl, hb⟩
             have q9 := (HA0.out.below HG0.out hb).q9)
          | (go_at_call 20; with_reducible refine (H3.out _).mono ?_; rintro e w5 ⟨rfl, hw⟩; rw [hw]; clear hw)
          | (go_at_call 20; with_reducible refine (H6.out _).mono ?_; rintro e w5 ⟨rfl, hw⟩; rw [hw]; clear hw)
          | (go_at_call 20; with_reducible refine (H7.out _).mono ?_; rintro e w5 ⟨rfl, hw⟩; rw [hw]; clear hw)
          | (go_at_call 20; with_reducible refine (H8.out _).mono ?_; rintro e w5 ⟨rfl, hw⟩; rw [hw]; clear hw)
          | (go_at_call 21; with_reducible refine (HA.out _ _ (Ints.one _ _ rfl _ _)).mono ?_; rintro e w2 ⟨rfl, hb2⟩
             replace hb := Base.below_step (hb.alloc hb.size (.cells #[.int .i64 1] 3)) hb2
             clear hb2 q9
             have q9 := (HA0.out.below HG0.out hb).q9)
          | (go_at_call 22; with_reducible refine (HT.out _).mono ?_; rintro e w5 ⟨rfl, hw⟩; rw [hw]; clear hw)
          | (go_at_call 23; with_reducible refine (HG.out _).mono ?_; rintro e w3 ⟨rfl, hb3⟩
             replace hb := (Base.below_step hb hb3).alloc (Base.below_step hb hb3).size (.cells #[.int .i64 f, .string h1, .string p1, .string q1, .bool ta] 57)
             clear hb3 q9
             have q9 := (HA0.out.below HG0.out hb).q9)
          | (go_at_call 24; with_reducible refine (HV.out _).mono ?_; rintro e w4 ⟨rfl, hb4⟩
             replace hb := Base.below_step hb hb4
             clear hb4 q9
             have q9 := (HA0.out.below HG0.out hb).q9))
        exact bodyPost_ret (v := .tuple #[.string (ba m), .string (ba t), .int .i64 1, .int .i64 0]) (by simp [results, Tryz.results11, go_sem]) rfl ⟨rfl, Base.below_step HW.out hb⟩
  | false =>
  rw [Bool.or_false, Bool.false_or] at hR
  rcases hen with ⟨rfl, rfl⟩ | ⟨rfl, rfl⟩
  · rw [if_pos rfl] at hR
    cases hvl : verL (clOf p) v with
    | none =>
      rw [hvl] at hR HV0
      dsimp only at hR
      subst hR
      clear hvl
      have HV : Hid (∀ w, Calls Tryz.prog 24 #[.string (ba v), .int .u32 (p : Nat)] w fun e w' => (∃ k : Nat, e = .returned (.tuple #[.int .i64 (k : Int), .bool false])) ∧ Below w.heap.size w w') := Lib.hid fun w => (HV0.out w).mono (by rintro e w' ⟨⟨k, rfl, _⟩, hb⟩; exact ⟨⟨k, rfl⟩, hb⟩)
      clear HV0
      go_enter Tryz.func11, Tryz.ntmps11
      go_wp2_with (first
        | (go_at_call 19; with_reducible refine (HP.out _).mono ?_; rintro e w1 ⟨rfl, hb⟩
           have q9 := (HA0.out.below HG0.out hb).q9)
        | (go_at_call 20; with_reducible refine (H3.out _).mono ?_; rintro e w5 ⟨rfl, hw⟩; rw [hw]; clear hw)
        | (go_at_call 20; with_reducible refine (H6.out _).mono ?_; rintro e w5 ⟨rfl, hw⟩; rw [hw]; clear hw)
        | (go_at_call 20; with_reducible refine (H7.out _).mono ?_; rintro e w5 ⟨rfl, hw⟩; rw [hw]; clear hw)
        | (go_at_call 20; with_reducible refine (H8.out _).mono ?_; rintro e w5 ⟨rfl, hw⟩; rw [hw]; clear hw)
        | (go_at_call 21; with_reducible refine (HA.out _ _ (Ints.one _ _ rfl _ _)).mono ?_; rintro e w2 ⟨rfl, hb2⟩
           replace hb := Base.below_step (hb.alloc hb.size (.cells #[.int .i64 1] 3)) hb2
           clear hb2 q9
           have q9 := (HA0.out.below HG0.out hb).q9)
        | (go_at_call 22; with_reducible refine (HT.out _).mono ?_; rintro e w5 ⟨rfl, hw⟩; rw [hw]; clear hw)
        | (go_at_call 23; with_reducible refine (HG.out _).mono ?_; rintro e w3 ⟨rfl, hb3⟩
           replace hb := (Base.below_step hb hb3).alloc (Base.below_step hb hb3).size (.cells #[.int .i64 f, .string h1, .string p1, .string q1, .bool ta] 57)
           clear hb3 q9
           have q9 := (HA0.out.below HG0.out hb).q9)
        | (go_at_call 24; with_reducible refine (HV.out _).mono ?_; rintro e w4 ⟨⟨kk, rfl⟩, hb4⟩
           replace hb := Base.below_step hb hb4
           clear hb4 q9
           have q9 := (HA0.out.below HG0.out hb).q9))
      exact bodyPost_ret (v := .tuple #[.string ⟨#[]⟩, .string ⟨#[]⟩, .int .i64 0, .int .i64 505]) (by simp [results, Tryz.results11, go_sem]) rfl ⟨rfl, Base.below_step HW.out hb⟩
    | some k =>
      have h01 := verL_01 hvl
      rw [hvl] at hR HV0
      dsimp only at hR
      clear hvl
      have HV : Hid (∀ w, Calls Tryz.prog 24 #[.string (ba v), .int .u32 (p : Nat)] w fun e w' => e = .returned (.tuple #[.int .i64 (k : Int), .bool true]) ∧ Below w.heap.size w w') := Lib.hid fun w => (HV0.out w).mono (by rintro e w' ⟨⟨j, rfl, hj⟩, hb⟩; rw [hj k rfl]; exact ⟨rfl, hb⟩)
      clear HV0
      rcases h01 with rfl | rfl
      · cases old with
        | false =>
          rw [if_pos (by decide)] at hR
          subst hR
          go_enter Tryz.func11, Tryz.ntmps11
          go_wp2_with (first
            | (go_at_call 19; with_reducible refine (HP.out _).mono ?_; rintro e w1 ⟨rfl, hb⟩
               have q9 := (HA0.out.below HG0.out hb).q9)
            | (go_at_call 20; with_reducible refine (H3.out _).mono ?_; rintro e w5 ⟨rfl, hw⟩; rw [hw]; clear hw)
            | (go_at_call 20; with_reducible refine (H6.out _).mono ?_; rintro e w5 ⟨rfl, hw⟩; rw [hw]; clear hw)
            | (go_at_call 20; with_reducible refine (H7.out _).mono ?_; rintro e w5 ⟨rfl, hw⟩; rw [hw]; clear hw)
            | (go_at_call 20; with_reducible refine (H8.out _).mono ?_; rintro e w5 ⟨rfl, hw⟩; rw [hw]; clear hw)
            | (go_at_call 21; with_reducible refine (HA.out _ _ (Ints.one _ _ rfl _ _)).mono ?_; rintro e w2 ⟨rfl, hb2⟩
               replace hb := Base.below_step (hb.alloc hb.size (.cells #[.int .i64 1] 3)) hb2
               clear hb2 q9
               have q9 := (HA0.out.below HG0.out hb).q9)
            | (go_at_call 22; with_reducible refine (HT.out _).mono ?_; rintro e w5 ⟨rfl, hw⟩; rw [hw]; clear hw)
            | (go_at_call 23; with_reducible refine (HG.out _).mono ?_; rintro e w3 ⟨rfl, hb3⟩
               replace hb := (Base.below_step hb hb3).alloc (Base.below_step hb hb3).size (.cells #[.int .i64 f, .string h1, .string p1, .string q1, .bool ta] 57)
               clear hb3 q9
               have q9 := (HA0.out.below HG0.out hb).q9)
            | (go_at_call 24; with_reducible refine (HV.out _).mono ?_; rintro e w4 ⟨rfl, hb4⟩
               replace hb := Base.below_step hb hb4
               clear hb4 q9
               have q9 := (HA0.out.below HG0.out hb).q9))
          exact bodyPost_ret (v := .tuple #[.string ⟨#[]⟩, .string ⟨#[]⟩, .int .i64 0, .int .i64 505]) (by simp [results, Tryz.results11, go_sem]) rfl ⟨rfl, Base.below_step HW.out hb⟩
        | true =>
          rw [if_neg (by decide)] at hR
          subst hR
          go_enter Tryz.func11, Tryz.ntmps11
          go_wp2_with (first
            | (go_at_call 19; with_reducible refine (HP.out _).mono ?_; rintro e w1 ⟨rfl, hb⟩
               have q9 := (HA0.out.below HG0.out hb).q9)
            | (go_at_call 20; with_reducible refine (H3.out _).mono ?_; rintro e w5 ⟨rfl, hw⟩; rw [hw]; clear hw)
            | (go_at_call 20; with_reducible refine (H6.out _).mono ?_; rintro e w5 ⟨rfl, hw⟩; rw [hw]; clear hw)
            | (go_at_call 20; with_reducible refine (H7.out _).mono ?_; rintro e w5 ⟨rfl, hw⟩; rw [hw]; clear hw)
            | (go_at_call 20; with_reducible refine (H8.out _).mono ?_; rintro e w5 ⟨rfl, hw⟩; rw [hw]; clear hw)
            | (go_at_call 21; with_reducible refine (HA.out _ _ (Ints.one _ _ rfl _ _)).mono ?_; rintro e w2 ⟨rfl, hb2⟩
               replace hb := Base.below_step (hb.alloc hb.size (.cells #[.int .i64 1] 3)) hb2
               clear hb2 q9
               have q9 := (HA0.out.below HG0.out hb).q9)
            | (go_at_call 22; with_reducible refine (HT.out _).mono ?_; rintro e w5 ⟨rfl, hw⟩; rw [hw]; clear hw)
            | (go_at_call 23; with_reducible refine (HG.out _).mono ?_; rintro e w3 ⟨rfl, hb3⟩
               replace hb := (Base.below_step hb hb3).alloc (Base.below_step hb hb3).size (.cells #[.int .i64 f, .string h1, .string p1, .string q1, .bool ta] 57)
               clear hb3 q9
               have q9 := (HA0.out.below HG0.out hb).q9)
            | (go_at_call 24; with_reducible refine (HV.out _).mono ?_; rintro e w4 ⟨rfl, hb4⟩
               replace hb := Base.below_step hb hb4
               clear hb4 q9
               have q9 := (HA0.out.below HG0.out hb).q9))
          exact bodyPost_ret (v := .tuple #[.string (ba m), .string (ba t), .int .i64 0, .int .i64 0]) (by simp [results, Tryz.results11, go_sem]) rfl ⟨rfl, Base.below_step HW.out hb⟩
      · rw [if_neg (by simp)] at hR
        subst hR
        go_enter Tryz.func11, Tryz.ntmps11
        go_wp2_with (first
          | (go_at_call 19; with_reducible refine (HP.out _).mono ?_; rintro e w1 ⟨rfl, hb⟩
             have q9 := (HA0.out.below HG0.out hb).q9)
          | (go_at_call 20; with_reducible refine (H3.out _).mono ?_; rintro e w5 ⟨rfl, hw⟩; rw [hw]; clear hw)
          | (go_at_call 20; with_reducible refine (H6.out _).mono ?_; rintro e w5 ⟨rfl, hw⟩; rw [hw]; clear hw)
          | (go_at_call 20; with_reducible refine (H7.out _).mono ?_; rintro e w5 ⟨rfl, hw⟩; rw [hw]; clear hw)
          | (go_at_call 20; with_reducible refine (H8.out _).mono ?_; rintro e w5 ⟨rfl, hw⟩; rw [hw]; clear hw)
          | (go_at_call 21; with_reducible refine (HA.out _ _ (Ints.one _ _ rfl _ _)).mono ?_; rintro e w2 ⟨rfl, hb2⟩
             replace hb := Base.below_step (hb.alloc hb.size (.cells #[.int .i64 1] 3)) hb2
             clear hb2 q9
             have q9 := (HA0.out.below HG0.out hb).q9)
          | (go_at_call 22; with_reducible refine (HT.out _).mono ?_; rintro e w5 ⟨rfl, hw⟩; rw [hw]; clear hw)
          | (go_at_call 23; with_reducible refine (HG.out _).mono ?_; rintro e w3 ⟨rfl, hb3⟩
             replace hb := (Base.below_step hb hb3).alloc (Base.below_step hb hb3).size (.cells #[.int .i64 f, .string h1, .string p1, .string q1, .bool ta] 57)
             clear hb3 q9
             have q9 := (HA0.out.below HG0.out hb).q9)
          | (go_at_call 24; with_reducible refine (HV.out _).mono ?_; rintro e w4 ⟨rfl, hb4⟩
             replace hb := Base.below_step hb hb4
             clear hb4 q9
             have q9 := (HA0.out.below HG0.out hb).q9))
        exact bodyPost_ret (v := .tuple #[.string (ba m), .string (ba t), .int .i64 1, .int .i64 0]) (by simp [results, Tryz.results11, go_sem]) rfl ⟨rfl, Base.below_step HW.out hb⟩
  · rw [if_neg (by decide)] at hR
    subst hR
    go_enter Tryz.func11, Tryz.ntmps11
    go_wp2_with (first
      | (go_at_call 19; with_reducible refine (HP.out _).mono ?_; rintro e w1 ⟨rfl, hb⟩
         have q9 := (HA0.out.below HG0.out hb).q9)
      | (go_at_call 20; with_reducible refine (H3.out _).mono ?_; rintro e w5 ⟨rfl, hw⟩; rw [hw]; clear hw)
      | (go_at_call 20; with_reducible refine (H6.out _).mono ?_; rintro e w5 ⟨rfl, hw⟩; rw [hw]; clear hw)
      | (go_at_call 20; with_reducible refine (H7.out _).mono ?_; rintro e w5 ⟨rfl, hw⟩; rw [hw]; clear hw)
      | (go_at_call 20; with_reducible refine (H8.out _).mono ?_; rintro e w5 ⟨rfl, hw⟩; rw [hw]; clear hw)
      | (go_at_call 21; with_reducible refine (HA.out _ _ (Ints.one _ _ rfl _ _)).mono ?_; rintro e w2 ⟨rfl, hb2⟩
         replace hb := Base.below_step (hb.alloc hb.size (.cells #[.int .i64 1] 3)) hb2
         clear hb2 q9
         have q9 := (HA0.out.below HG0.out hb).q9)
      | (go_at_call 22; with_reducible refine (HT.out _).mono ?_; rintro e w5 ⟨rfl, hw⟩; rw [hw]; clear hw)
      | (go_at_call 23; with_reducible refine (HG.out _).mono ?_; rintro e w3 ⟨rfl, hb3⟩
         replace hb := (Base.below_step hb hb3).alloc (Base.below_step hb hb3).size (.cells #[.int .i64 f, .string h1, .string p1, .string q1, .bool ta] 57)
         clear hb3 q9
         have q9 := (HA0.out.below HG0.out hb).q9)
      | (go_at_call 24; with_reducible refine (HV.out _).mono ?_; rintro e w4 ⟨rfl, hb4⟩
         replace hb := Base.below_step hb hb4
         clear hb4 q9
         have q9 := (HA0.out.below HG0.out hb).q9))
    exact bodyPost_ret (v := .tuple #[.string ⟨#[]⟩, .string ⟨#[]⟩, .int .i64 0, .int .i64 400]) (by simp [results, Tryz.results11, go_sem]) rfl ⟨rfl, Base.below_step HW.out hb⟩
set_option maxRecDepth 10000 in
theorem rrequest_more (s : ByteArray) (p : Nat) (hp : p < 4294967296) (x0 x1 x2 x3 x4 x5 x6 x7 : Int) (ch old : Bool) (w : World) (hs : s.size ≤ 900000000) (m t : List UInt8) (v : List UInt8) (n : Nat) (hm0 : 0 < m.length) (hms : m.length ≤ s.size) (ht0 : 0 < t.length) (hts : t.length ≤ s.size) (hv0 : 0 < v.length) (h3n : 3 < n) (h7 : Qk.has p 7 = true)
    (hpv : rpv (Qk.has p 3) s.data.toList = .tuple #[.string (ba m), .string (ba t), .string (ba v), .int .i64 (n : Nat), .bool true])
    (R : List UInt8 × List UInt8 × Nat × Nat) (hR : (if (methOk m && tgtOk (clOf p) m t) = true then (match verL (clOf p) v with | none => verR | some k => if (k == 0 && !old) = true then verR else (m, t, k, 0)) else badR) = R) :
    Calls Tryz.prog 11 #[.string s, .int .u32 (p : Nat), Bnd.bnd x0 x1 x2 x3 x4 x5 x6 x7 ch old] w fun e w' => e = .returned (rv R) ∧ Below w.heap.size w w' := by
  have HA0 := Lib.hid (Bnd.At.new w 28 x0 x1 x2 x3 x4 x5 x6 x7 ch old)
  have HG0 := Lib.hid (show w.heap.size < (w.alloc (.cells #[.int .i64 x0, .int .i64 x1, .int .i64 x2, .int .i64 x3, .int .i64 x4, .int .i64 x5, .int .i64 x6, .int .i64 x7, .bool ch, .bool old] 28)).heap.size by simp)
  have HW := Lib.hid (show Below w.heap.size w (w.alloc (.cells #[.int .i64 x0, .int .i64 x1, .int .i64 x2, .int .i64 x3, .int .i64 x4, .int .i64 x5, .int .i64 x6, .int .i64 x7, .bool ch, .bool old] 28)) from (Below.refl _ _).alloc (Nat.le_refl _) _)
  have H3 := Lib.hid (fun w => Qk.rhas_any p hp 3 w)
  have H6 := Lib.hid (fun w => Qk.rhas_any p hp 6 w)
  have H7 := Lib.hid (fun w => Qk.rhas_any p hp 7 w)
  have HP := Lib.hid (fun w => rparts_any s (Qk.has p 3) w hs)
  have H8 := Lib.hid (fun w => Qk.rhas_any p hp 8 w)
  rw [hpv] at HP
  clear hpv
  have HT := Lib.hid (fun w => rbytes_any (ba t) p hp w (by rw [ba_size]; omega) (by rw [ba_size]; omega))
  have HA : Hid (∀ w a, Ints w a 1 [1] → Calls Tryz.prog 21 #[.string (ba m), .slice a 1 1] w fun e w' => e = .returned (.bool (Oct.allOf [1] m)) ∧ Below w.heap.size w w') := Lib.hid fun w a hk => (Oct.rall_any (ba m) a 1 1 [1] w (by rw [ba_size]; unfold maxLen; omega) hk (by decide)).mono (by
    rintro e w' ⟨rfl, q, rfl⟩
    exact ⟨rfl, Base.below_drewN (Below.refl _ _) q⟩)
  have HG := Lib.hid (fun w => Tgt.rtarget_any (ba m) (ba t) w (by rw [ba_size]; omega))
  have b1 : (ba m).data.toList = m := rfl
  have b2 : (ba t).data.toList = t := rfl
  rw [b1, b2] at HG
  rw [b2] at HT
  have hsm : (ba m).size = m.length := ba_size m
  clear b1 b2
  have htk : tgtOk (clOf p) m t = (tgtB (clOf p) t && (Qk.has p 7 || Qk.has p 8 || (Tgt.parse m t).isSome)) := rfl
  have hmk : methOk m = (decide (m.length ≤ 32) && Oct.allOf [1] m) := rfl
  rw [htk, hmk] at hR
  clear htk hmk
  have HV0 := Lib.hid (fun w => rversion_any (ba v) p hp w (by rw [ba_size]; exact hv0))
  have b3 : (ba v).data.toList = v := rfl
  rw [b3] at HV0
  clear b3
  generalize Oct.allOf [1] m = al at *
  generalize tgtB (clOf p) t = tb at *
  have hans : ∃ (f : Int) (h1 p1 q1 : ByteArray) (a : Bool) (en : Int), Tgt.ans (Tgt.parse m t) = .tuple #[Tgt.tv f h1 p1 q1 a, .int .i64 en] ∧ (en = 0 ∧ (Tgt.parse m t).isSome = true ∨ en = 400 ∧ (Tgt.parse m t).isSome = false) := by
    cases Tgt.parse m t with
    | none => exact ⟨0, Tgt.E0, Tgt.E0, Tgt.E0, false, 400, rfl, .inr ⟨rfl, rfl⟩⟩
    | some g => exact ⟨_, _, _, _, _, 0, rfl, .inl ⟨rfl, rfl⟩⟩
  obtain ⟨f, h1, p1, q1, ta, en, hE, hen⟩ := hans
  rw [hE] at HG
  clear hE
  generalize (Tgt.parse m t).isSome = okp at *
  have c0 : ¬ ((ba m).size : Int) < 1 := by omega
  have n1 : ¬ (n : Int) < 2 := by omega
  have n2 : ¬ (n : Int) = 2 := by omega
  have n3 : (3 : Int) < (n : Int) := by omega
  rw [h7] at H7 hR
  clear h7 h3n
  generalize Qk.has p 8 = b8 at *
  generalize Qk.has p 6 = b6 at *
  generalize Qk.has p 3 = b3 at *
  rcases Nat.lt_or_ge 32 m.length with hl | hl
  · have c1 : (32 : Int) < ((ba m).size : Int) := by omega
    rw [decide_eq_false (by omega), Bool.false_and, Bool.false_and, if_neg (by decide)] at hR
    subst hR
    clear HG HT HA hen
    go_enter Tryz.func11, Tryz.ntmps11
    go_wp2_with (first
      | (go_at_call 19; with_reducible refine (HP.out _).mono ?_; rintro e w1 ⟨rfl, hb⟩
         have q9 := (HA0.out.below HG0.out hb).q9)
      | (go_at_call 20; with_reducible refine (H3.out _).mono ?_; rintro e w5 ⟨rfl, hw⟩; rw [hw]; clear hw)
      | (go_at_call 20; with_reducible refine (H6.out _).mono ?_; rintro e w5 ⟨rfl, hw⟩; rw [hw]; clear hw)
      | (go_at_call 20; with_reducible refine (H7.out _).mono ?_; rintro e w5 ⟨rfl, hw⟩; rw [hw]; clear hw)
      | (go_at_call 20; with_reducible refine (H8.out _).mono ?_; rintro e w5 ⟨rfl, hw⟩; rw [hw]; clear hw)
      | (go_at_call 21; with_reducible refine (HA.out _ _ (Ints.one _ _ rfl _ _)).mono ?_; rintro e w2 ⟨rfl, hb2⟩
         replace hb := Base.below_step (hb.alloc hb.size (.cells #[.int .i64 1] 3)) hb2
         clear hb2 q9
         have q9 := (HA0.out.below HG0.out hb).q9)
      | (go_at_call 22; with_reducible refine (HT.out _).mono ?_; rintro e w5 ⟨rfl, hw⟩; rw [hw]; clear hw)
      | (go_at_call 23; with_reducible refine (HG.out _).mono ?_; rintro e w3 ⟨rfl, hb3⟩
         replace hb := (Base.below_step hb hb3).alloc (Base.below_step hb hb3).size (.cells #[.int .i64 f, .string h1, .string p1, .string q1, .bool ta] 57)
         clear hb3 q9
         have q9 := (HA0.out.below HG0.out hb).q9)
      | (go_at_call 24; with_reducible refine (HV.out _).mono ?_; rintro e w4 ⟨rfl, hb4⟩
         replace hb := Base.below_step hb hb4
         clear hb4 q9
         have q9 := (HA0.out.below HG0.out hb).q9))
    exact bodyPost_ret (v := .tuple #[.string ⟨#[]⟩, .string ⟨#[]⟩, .int .i64 0, .int .i64 400]) (by simp [results, Tryz.results11, go_sem]) rfl ⟨rfl, Base.below_step HW.out hb⟩
  have c1 : ¬ (32 : Int) < ((ba m).size : Int) := by omega
  rw [decide_eq_true hl, Bool.true_and] at hR
  clear hl hsm
  cases al with
  | false =>
    rw [Bool.false_and, if_neg (by decide)] at hR
    subst hR
    clear HG HT hen
    go_enter Tryz.func11, Tryz.ntmps11
    go_wp2_with (first
      | (go_at_call 19; with_reducible refine (HP.out _).mono ?_; rintro e w1 ⟨rfl, hb⟩
         have q9 := (HA0.out.below HG0.out hb).q9)
      | (go_at_call 20; with_reducible refine (H3.out _).mono ?_; rintro e w5 ⟨rfl, hw⟩; rw [hw]; clear hw)
      | (go_at_call 20; with_reducible refine (H6.out _).mono ?_; rintro e w5 ⟨rfl, hw⟩; rw [hw]; clear hw)
      | (go_at_call 20; with_reducible refine (H7.out _).mono ?_; rintro e w5 ⟨rfl, hw⟩; rw [hw]; clear hw)
      | (go_at_call 20; with_reducible refine (H8.out _).mono ?_; rintro e w5 ⟨rfl, hw⟩; rw [hw]; clear hw)
      | (go_at_call 21; with_reducible refine (HA.out _ _ (Ints.one _ _ rfl _ _)).mono ?_; rintro e w2 ⟨rfl, hb2⟩
         replace hb := Base.below_step (hb.alloc hb.size (.cells #[.int .i64 1] 3)) hb2
         clear hb2 q9
         have q9 := (HA0.out.below HG0.out hb).q9)
      | (go_at_call 22; with_reducible refine (HT.out _).mono ?_; rintro e w5 ⟨rfl, hw⟩; rw [hw]; clear hw)
      | (go_at_call 23; with_reducible refine (HG.out _).mono ?_; rintro e w3 ⟨rfl, hb3⟩
         replace hb := (Base.below_step hb hb3).alloc (Base.below_step hb hb3).size (.cells #[.int .i64 f, .string h1, .string p1, .string q1, .bool ta] 57)
         clear hb3 q9
         have q9 := (HA0.out.below HG0.out hb).q9)
      | (go_at_call 24; with_reducible refine (HV.out _).mono ?_; rintro e w4 ⟨rfl, hb4⟩
         replace hb := Base.below_step hb hb4
         clear hb4 q9
         have q9 := (HA0.out.below HG0.out hb).q9))
    exact bodyPost_ret (v := .tuple #[.string ⟨#[]⟩, .string ⟨#[]⟩, .int .i64 0, .int .i64 400]) (by simp [results, Tryz.results11, go_sem]) rfl ⟨rfl, Base.below_step HW.out hb⟩
  | true =>
  rw [Bool.true_and] at hR
  cases tb with
  | false =>
    rw [Bool.false_and, if_neg (by decide)] at hR
    subst hR
    clear HG hen
    go_enter Tryz.func11, Tryz.ntmps11
    go_wp2_with (first
      | (go_at_call 19; with_reducible refine (HP.out _).mono ?_; rintro e w1 ⟨rfl, hb⟩
         have q9 := (HA0.out.below HG0.out hb).q9)
      | (go_at_call 20; with_reducible refine (H3.out _).mono ?_; rintro e w5 ⟨rfl, hw⟩; rw [hw]; clear hw)
      | (go_at_call 20; with_reducible refine (H6.out _).mono ?_; rintro e w5 ⟨rfl, hw⟩; rw [hw]; clear hw)
      | (go_at_call 20; with_reducible refine (H7.out _).mono ?_; rintro e w5 ⟨rfl, hw⟩; rw [hw]; clear hw)
      | (go_at_call 20; with_reducible refine (H8.out _).mono ?_; rintro e w5 ⟨rfl, hw⟩; rw [hw]; clear hw)
      | (go_at_call 21; with_reducible refine (HA.out _ _ (Ints.one _ _ rfl _ _)).mono ?_; rintro e w2 ⟨rfl, hb2⟩
         replace hb := Base.below_step (hb.alloc hb.size (.cells #[.int .i64 1] 3)) hb2
         clear hb2 q9
         have q9 := (HA0.out.below HG0.out hb).q9)
      | (go_at_call 22; with_reducible refine (HT.out _).mono ?_; rintro e w5 ⟨rfl, hw⟩; rw [hw]; clear hw)
      | (go_at_call 23; with_reducible refine (HG.out _).mono ?_; rintro e w3 ⟨rfl, hb3⟩
         replace hb := (Base.below_step hb hb3).alloc (Base.below_step hb hb3).size (.cells #[.int .i64 f, .string h1, .string p1, .string q1, .bool ta] 57)
         clear hb3 q9
         have q9 := (HA0.out.below HG0.out hb).q9)
      | (go_at_call 24; with_reducible refine (HV.out _).mono ?_; rintro e w4 ⟨rfl, hb4⟩
         replace hb := Base.below_step hb hb4
         clear hb4 q9
         have q9 := (HA0.out.below HG0.out hb).q9))
    exact bodyPost_ret (v := .tuple #[.string ⟨#[]⟩, .string ⟨#[]⟩, .int .i64 0, .int .i64 400]) (by simp [results, Tryz.results11, go_sem]) rfl ⟨rfl, Base.below_step HW.out hb⟩
  | true =>
  rw [Bool.true_and] at hR
  rw [Bool.true_or, Bool.true_or, if_pos rfl] at hR
  clear HG hen
  cases hvl : verL (clOf p) v with
  | none =>
    rw [hvl] at hR HV0
    dsimp only at hR
    subst hR
    clear hvl
    have HV : Hid (∀ w, Calls Tryz.prog 24 #[.string (ba v), .int .u32 (p : Nat)] w fun e w' => (∃ k : Nat, e = .returned (.tuple #[.int .i64 (k : Int), .bool false])) ∧ Below w.heap.size w w') := Lib.hid fun w => (HV0.out w).mono (by rintro e w' ⟨⟨k, rfl, _⟩, hb⟩; exact ⟨⟨k, rfl⟩, hb⟩)
    clear HV0
    go_enter Tryz.func11, Tryz.ntmps11
    go_wp2_with (first
      | (go_at_call 19; with_reducible refine (HP.out _).mono ?_; rintro e w1 ⟨rfl, hb⟩
         have q9 := (HA0.out.below HG0.out hb).q9)
      | (go_at_call 20; with_reducible refine (H3.out _).mono ?_; rintro e w5 ⟨rfl, hw⟩; rw [hw]; clear hw)
      | (go_at_call 20; with_reducible refine (H6.out _).mono ?_; rintro e w5 ⟨rfl, hw⟩; rw [hw]; clear hw)
      | (go_at_call 20; with_reducible refine (H7.out _).mono ?_; rintro e w5 ⟨rfl, hw⟩; rw [hw]; clear hw)
      | (go_at_call 20; with_reducible refine (H8.out _).mono ?_; rintro e w5 ⟨rfl, hw⟩; rw [hw]; clear hw)
      | (go_at_call 21; with_reducible refine (HA.out _ _ (Ints.one _ _ rfl _ _)).mono ?_; rintro e w2 ⟨rfl, hb2⟩
         replace hb := Base.below_step (hb.alloc hb.size (.cells #[.int .i64 1] 3)) hb2
         clear hb2 q9
         have q9 := (HA0.out.below HG0.out hb).q9)
      | (go_at_call 22; with_reducible refine (HT.out _).mono ?_; rintro e w5 ⟨rfl, hw⟩; rw [hw]; clear hw)
      | (go_at_call 23; with_reducible refine (HG.out _).mono ?_; rintro e w3 ⟨rfl, hb3⟩
         replace hb := (Base.below_step hb hb3).alloc (Base.below_step hb hb3).size (.cells #[.int .i64 f, .string h1, .string p1, .string q1, .bool ta] 57)
         clear hb3 q9
         have q9 := (HA0.out.below HG0.out hb).q9)
      | (go_at_call 24; with_reducible refine (HV.out _).mono ?_; rintro e w4 ⟨⟨kk, rfl⟩, hb4⟩
         replace hb := Base.below_step hb hb4
         clear hb4 q9
         have q9 := (HA0.out.below HG0.out hb).q9))
    exact bodyPost_ret (v := .tuple #[.string ⟨#[]⟩, .string ⟨#[]⟩, .int .i64 0, .int .i64 505]) (by simp [results, Tryz.results11, go_sem]) rfl ⟨rfl, Base.below_step HW.out hb⟩
  | some k =>
    have h01 := verL_01 hvl
    rw [hvl] at hR HV0
    dsimp only at hR
    clear hvl
    have HV : Hid (∀ w, Calls Tryz.prog 24 #[.string (ba v), .int .u32 (p : Nat)] w fun e w' => e = .returned (.tuple #[.int .i64 (k : Int), .bool true]) ∧ Below w.heap.size w w') := Lib.hid fun w => (HV0.out w).mono (by rintro e w' ⟨⟨j, rfl, hj⟩, hb⟩; rw [hj k rfl]; exact ⟨rfl, hb⟩)
    clear HV0
    rcases h01 with rfl | rfl
    · cases old with
      | false =>
        rw [if_pos (by decide)] at hR
        subst hR
        go_enter Tryz.func11, Tryz.ntmps11
        go_wp2_with (first
          | (go_at_call 19; with_reducible refine (HP.out _).mono ?_; rintro e w1 ⟨rfl, hb⟩
             have q9 := (HA0.out.below HG0.out hb).q9)
          | (go_at_call 20; with_reducible refine (H3.out _).mono ?_; rintro e w5 ⟨rfl, hw⟩; rw [hw]; clear hw)
          | (go_at_call 20; with_reducible refine (H6.out _).mono ?_; rintro e w5 ⟨rfl, hw⟩; rw [hw]; clear hw)
          | (go_at_call 20; with_reducible refine (H7.out _).mono ?_; rintro e w5 ⟨rfl, hw⟩; rw [hw]; clear hw)
          | (go_at_call 20; with_reducible refine (H8.out _).mono ?_; rintro e w5 ⟨rfl, hw⟩; rw [hw]; clear hw)
          | (go_at_call 21; with_reducible refine (HA.out _ _ (Ints.one _ _ rfl _ _)).mono ?_; rintro e w2 ⟨rfl, hb2⟩
             replace hb := Base.below_step (hb.alloc hb.size (.cells #[.int .i64 1] 3)) hb2
             clear hb2 q9
             have q9 := (HA0.out.below HG0.out hb).q9)
          | (go_at_call 22; with_reducible refine (HT.out _).mono ?_; rintro e w5 ⟨rfl, hw⟩; rw [hw]; clear hw)
          | (go_at_call 23; with_reducible refine (HG.out _).mono ?_; rintro e w3 ⟨rfl, hb3⟩
             replace hb := (Base.below_step hb hb3).alloc (Base.below_step hb hb3).size (.cells #[.int .i64 f, .string h1, .string p1, .string q1, .bool ta] 57)
             clear hb3 q9
             have q9 := (HA0.out.below HG0.out hb).q9)
          | (go_at_call 24; with_reducible refine (HV.out _).mono ?_; rintro e w4 ⟨rfl, hb4⟩
             replace hb := Base.below_step hb hb4
             clear hb4 q9
             have q9 := (HA0.out.below HG0.out hb).q9))
        exact bodyPost_ret (v := .tuple #[.string ⟨#[]⟩, .string ⟨#[]⟩, .int .i64 0, .int .i64 505]) (by simp [results, Tryz.results11, go_sem]) rfl ⟨rfl, Base.below_step HW.out hb⟩
      | true =>
        rw [if_neg (by decide)] at hR
        subst hR
        go_enter Tryz.func11, Tryz.ntmps11
        go_wp2_with (first
          | (go_at_call 19; with_reducible refine (HP.out _).mono ?_; rintro e w1 ⟨rfl, hb⟩
             have q9 := (HA0.out.below HG0.out hb).q9)
          | (go_at_call 20; with_reducible refine (H3.out _).mono ?_; rintro e w5 ⟨rfl, hw⟩; rw [hw]; clear hw)
          | (go_at_call 20; with_reducible refine (H6.out _).mono ?_; rintro e w5 ⟨rfl, hw⟩; rw [hw]; clear hw)
          | (go_at_call 20; with_reducible refine (H7.out _).mono ?_; rintro e w5 ⟨rfl, hw⟩; rw [hw]; clear hw)
          | (go_at_call 20; with_reducible refine (H8.out _).mono ?_; rintro e w5 ⟨rfl, hw⟩; rw [hw]; clear hw)
          | (go_at_call 21; with_reducible refine (HA.out _ _ (Ints.one _ _ rfl _ _)).mono ?_; rintro e w2 ⟨rfl, hb2⟩
             replace hb := Base.below_step (hb.alloc hb.size (.cells #[.int .i64 1] 3)) hb2
             clear hb2 q9
             have q9 := (HA0.out.below HG0.out hb).q9)
          | (go_at_call 22; with_reducible refine (HT.out _).mono ?_; rintro e w5 ⟨rfl, hw⟩; rw [hw]; clear hw)
          | (go_at_call 23; with_reducible refine (HG.out _).mono ?_; rintro e w3 ⟨rfl, hb3⟩
             replace hb := (Base.below_step hb hb3).alloc (Base.below_step hb hb3).size (.cells #[.int .i64 f, .string h1, .string p1, .string q1, .bool ta] 57)
             clear hb3 q9
             have q9 := (HA0.out.below HG0.out hb).q9)
          | (go_at_call 24; with_reducible refine (HV.out _).mono ?_; rintro e w4 ⟨rfl, hb4⟩
             replace hb := Base.below_step hb hb4
             clear hb4 q9
             have q9 := (HA0.out.below HG0.out hb).q9))
        exact bodyPost_ret (v := .tuple #[.string (ba m), .string (ba t), .int .i64 0, .int .i64 0]) (by simp [results, Tryz.results11, go_sem]) rfl ⟨rfl, Base.below_step HW.out hb⟩
    · rw [if_neg (by simp)] at hR
      subst hR
      go_enter Tryz.func11, Tryz.ntmps11
      go_wp2_with (first
        | (go_at_call 19; with_reducible refine (HP.out _).mono ?_; rintro e w1 ⟨rfl, hb⟩
           have q9 := (HA0.out.below HG0.out hb).q9)
        | (go_at_call 20; with_reducible refine (H3.out _).mono ?_; rintro e w5 ⟨rfl, hw⟩; rw [hw]; clear hw)
        | (go_at_call 20; with_reducible refine (H6.out _).mono ?_; rintro e w5 ⟨rfl, hw⟩; rw [hw]; clear hw)
        | (go_at_call 20; with_reducible refine (H7.out _).mono ?_; rintro e w5 ⟨rfl, hw⟩; rw [hw]; clear hw)
        | (go_at_call 20; with_reducible refine (H8.out _).mono ?_; rintro e w5 ⟨rfl, hw⟩; rw [hw]; clear hw)
        | (go_at_call 21; with_reducible refine (HA.out _ _ (Ints.one _ _ rfl _ _)).mono ?_; rintro e w2 ⟨rfl, hb2⟩
           replace hb := Base.below_step (hb.alloc hb.size (.cells #[.int .i64 1] 3)) hb2
           clear hb2 q9
           have q9 := (HA0.out.below HG0.out hb).q9)
        | (go_at_call 22; with_reducible refine (HT.out _).mono ?_; rintro e w5 ⟨rfl, hw⟩; rw [hw]; clear hw)
        | (go_at_call 23; with_reducible refine (HG.out _).mono ?_; rintro e w3 ⟨rfl, hb3⟩
           replace hb := (Base.below_step hb hb3).alloc (Base.below_step hb hb3).size (.cells #[.int .i64 f, .string h1, .string p1, .string q1, .bool ta] 57)
           clear hb3 q9
           have q9 := (HA0.out.below HG0.out hb).q9)
        | (go_at_call 24; with_reducible refine (HV.out _).mono ?_; rintro e w4 ⟨rfl, hb4⟩
           replace hb := Base.below_step hb hb4
           clear hb4 q9
           have q9 := (HA0.out.below HG0.out hb).q9))
      exact bodyPost_ret (v := .tuple #[.string (ba m), .string (ba t), .int .i64 1, .int .i64 0]) (by simp [results, Tryz.results11, go_sem]) rfl ⟨rfl, Base.below_step HW.out hb⟩

theorem rrequest_any (s : ByteArray) (p : Nat) (hp : p < 4294967296) (x0 x1 x2 x3 x4 x5 x6 x7 : Int) (ch old : Bool) (w : World) (hs : s.size ≤ 900000000) :
    Calls Tryz.prog 11 #[.string s, .int .u32 (p : Nat), Bnd.bnd x0 x1 x2 x3 x4 x5 x6 x7 ch old] w fun e w' => e = .returned (rv (request (clOf p) old s.data.toList)) ∧ Below w.heap.size w w' := by
  rcases rpv_cases (clOf p) s.data.toList with ⟨hp1, M, T, V, n, ok, hle, hpv, hc⟩ | ⟨m, t, hp1, hnv, hpv⟩ | ⟨m, t, v, n, hp1, hv, hle, hn, hpv⟩
  · rw [len] at hle
    exact rrequest_parts s p hp x0 x1 x2 x3 x4 x5 x6 x7 ch old w hs M T V n ok hle hpv hc _ (by unfold request; rw [hp1] <;> rfl)
  · obtain ⟨z1, z2, z3, z4, _⟩ := pick_some hp1
    rw [len] at z2 z4
    exact rrequest_two s p hp x0 x1 x2 x3 x4 x5 x6 x7 ch old w hs m t z1 z2 z3 z4 hnv hpv _ (by unfold request; rw [hp1] <;> rfl)
  · obtain ⟨z1, z2, z3, z4, _⟩ := pick_some hp1
    rw [len] at z2 z4 hle
    have hv0 : 0 < v.length := List.length_pos_iff.2 hv
    rcases hn with rfl | ⟨h3, hsp⟩
    · exact rrequest_three s p hp x0 x1 x2 x3 x4 x5 x6 x7 ch old w hs m t v z1 z2 z3 z4 hv0 hpv _ (by unfold request; rw [hp1] <;> rfl)
    · exact rrequest_more s p hp x0 x1 x2 x3 x4 x5 x6 x7 ch old w hs m t v n z1 z2 z3 z4 hv0 h3 hsp hpv _ (by unfold request; rw [hp1] <;> rfl)
end code
end Go.Proofs.YtlignmlkoahbmaaGreatDoor.Rq
