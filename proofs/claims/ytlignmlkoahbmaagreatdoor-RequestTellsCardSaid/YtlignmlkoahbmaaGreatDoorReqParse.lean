/-
  Layer 8 (request): what Parse and Put answer, of every line up to a great size, every profile, all bounds.
-/
import Derived.Test.YtlignmlkoahbmaaGreatDoorReqParts
import Derived.Test.YtlignmlkoahbmaaGreatDoorTargetAbs
namespace Go.Proofs.YtlignmlkoahbmaaGreatDoor.Rq
open Go.RowKit Base Txt

theorem verL_01 {c : Cl} {v : List UInt8} {k : Nat} (h : verL c v = some k) : k = 0 ∨ k = 1 := by
  unfold verL at h
  split at h
  · cases h; exact .inl rfl
  · split at h
    · split at h
      · cases h; exact .inl rfl
      · split at h
        · cases h; exact .inr rfl
        · cases h
    · cases h
theorem all_take (q : UInt8 → Bool) (l : List UInt8) (k : Nat) (h : k < l.length) (h1 : (l.take k).all q = true) (h2 : q l[k] = true) : (l.take (k + 1)).all q = true := by
  rw [List.take_succ_eq_append_getElem h, List.all_append, h1]; simp [h2]
theorem all_not (q : UInt8 → Bool) (l : List UInt8) (k : Nat) (h : k < l.length) (h2 : q l[k] = false) : l.all q = false := by
  rw [List.all_eq_false]
  exact ⟨l[k], List.getElem_mem h, by rw [h2]; decide⟩
/-- What is read, as a value. -/
def rv (r : List UInt8 × List UInt8 × Nat × Nat) : Value := .tuple #[.string (ba r.1), .string (ba r.2.1), .int .i64 (r.2.2.1 : Nat), .int .i64 (r.2.2.2 : Nat)]

section code
set_option maxHeartbeats 1000000
attribute [local go_sem] Base.some_undef
set_option maxRecDepth 10000 in
theorem isTarget_any (m t : ByteArray) (p : Nat) (hp : p < 4294967296) (w : World) (ht : t.size ≤ 900000000) : Calls Tryz.prog 17 #[.string m, .string t, .int .u32 (p : Nat)] w fun e w' =>
    e = .returned (.bool (tgtOk (clOf p) m.data.toList t.data.toList)) ∧ Below w.heap.size w w' := by
  have H7 := Lib.hid (fun w => Qk.has_any p hp 7 w)
  have H8 := Lib.hid (fun w => Qk.has_any p hp 8 w)
  have HT := Lib.hid (fun w => Tgt.parse_any m t w ht)
  have hlets : ∀ x, letsT (clOf p) x = (Oct.visible (x.toNat : Int) || (Qk.has p 7 && Oct.blank (x.toNat : Int) || Qk.has p 8 && Oct.control (x.toNat : Int))) := fun _ => rfl
  have hok : tgtOk (clOf p) m.data.toList t.data.toList = ((t.data.toList.all (letsT (clOf p))) && (Qk.has p 7 || Qk.has p 8 || (Tgt.parse m.data.toList t.data.toList).isSome)) := rfl
  rw [hok]
  clear hok
  generalize hq : letsT (clOf p) = q at *
  clear hq
  have HL := Lib.hid hlets
  clear hlets
  generalize Qk.has p 7 = sp at *
  generalize Qk.has p 8 = co at *
  have hans : ∃ (f : Int) (h1 p1 q1 : ByteArray) (a : Bool) (en : Int), Tgt.ans (Tgt.parse m.data.toList t.data.toList) = .tuple #[Tgt.tv f h1 p1 q1 a, .int .i64 en] ∧ (en = 0 ∧ (Tgt.parse m.data.toList t.data.toList).isSome = true ∨ en = 400 ∧ (Tgt.parse m.data.toList t.data.toList).isSome = false) := by
    cases Tgt.parse m.data.toList t.data.toList with
    | none => exact ⟨0, Tgt.E0, Tgt.E0, Tgt.E0, false, 400, rfl, .inr ⟨rfl, rfl⟩⟩
    | some g => exact ⟨_, _, _, _, _, 0, rfl, .inl ⟨rfl, rfl⟩⟩
  obtain ⟨f, h1, p1, q1, ta, en, hE, hen⟩ := hans
  rw [hE] at HT
  clear hE
  generalize (Tgt.parse m.data.toList t.data.toList).isSome = ok at *
  have HEN := Lib.hid hen
  clear hen
  cases sp <;> cases co
  all_goals
    go_enter Tryz.func17, Tryz.ntmps17
    go_upto_region 3 with (first
      | (go_at_call 27; with_reducible refine (H7.out _).mono ?_; rintro e w1 ⟨rfl, hw⟩; rw [hw]; clear hw)
      | (go_at_call 27; with_reducible refine (H8.out _).mono ?_; rintro e w1 ⟨rfl, hw⟩; rw [hw]; clear hw))
    go_loopw [19] (fun i wr => ∃ k : Nat, k ≤ t.size ∧ i = .int .i64 k ∧ wr = w ∧ Hid ((t.data.toList.take k).all q = true)) (fun i _ => t.size - (intOf i).toNat)
    case atStart => exact ⟨0, Nat.zero_le _, rfl, rfl, Lib.hid rfl⟩
    case round =>
      obtain ⟨k, hk, rfl, hwr, hpre⟩ := hrel
      subst hwr
      rcases Nat.lt_or_ge k t.size with hlt | hge
      · have i1 : (k : Int) < (t.size : Int) := by omega
        have HQ := Lib.hid (HL.out (t[k]))
        have HS := Lib.hid (all_take q t.data.toList k (by rw [len]; exact hlt) hpre.out)
        have HN := Lib.hid (all_not q t.data.toList k (by rw [len]; exact hlt))
        have hgt : t.data.toList[k]'(by rw [len]; exact hlt) = t[k] := rfl
        rw [hgt] at HS HN
        clear hgt
        obtain ⟨b, hb⟩ : ∃ b, t[k] = b := ⟨_, rfl⟩
        have hn : ∀ hh, t[k]'hh = b := fun _ => hb
        rw [hb] at HQ HS HN
        clear hb
        have HV := Lib.hid (fun w => Oct.visible_any (b.toNat : Int) w)
        have HB := Lib.hid (fun w => Oct.blank_any (b.toNat : Int) w)
        have HC := Lib.hid (fun w => Oct.control_any (b.toNat : Int) w)
        generalize Oct.visible (b.toNat : Int) = v at *
        generalize Oct.blank (b.toNat : Int) = bk at *
        generalize Oct.control (b.toNat : Int) = ct at *
        cases v
        · cases bk <;> cases ct
          all_goals
            go_wp2_with (first
              | (go_at_call 30; with_reducible refine (HV.out _).mono ?_; rintro e w1 ⟨rfl, hw⟩; rw [hw]; clear hw)
              | (go_at_call 31; with_reducible refine (HB.out _).mono ?_; rintro e w1 ⟨rfl, hw⟩; rw [hw]; clear hw)
              | (go_at_call 32; with_reducible refine (HC.out _).mono ?_; rintro e w1 ⟨rfl, hw⟩; rw [hw]; clear hw))
            first
              | (go_ret
                 exact ⟨by rw [HN.out (by rw [HQ.out]; rfl)]; rfl, Below.refl _ _⟩)
              | (go_roundw
                 case rel => exact ⟨k + 1, by omega, by go_num, by first | rfl | trivial, Lib.hid (HS.out (by rw [HQ.out]; rfl))⟩
                 case measure => simp [intOf]; omega)
        · go_wp2_with (go_at_call 30; with_reducible refine (HV.out _).mono ?_; rintro e w1 ⟨rfl, hw⟩; rw [hw]; clear hw)
          go_roundw
          case rel => exact ⟨k + 1, by omega, by go_num, by first | rfl | trivial, Lib.hid (HS.out (by rw [HQ.out]; rfl))⟩
          case measure => simp [intOf]; omega
      · obtain rfl : k = t.size := by omega
        have hall := hpre.out
        rw [take_all t _ (Nat.le_refl _)] at hall
        have HALL := Lib.hid hall
        clear hpre hall HL
        go_wp2_with (go_at_call 33; with_reducible refine (HT.out _).mono ?_; rintro e w1 ⟨rfl, hb⟩)
        go_ret
        rw [HALL.out]
        rcases HEN.out with ⟨rfl, rfl⟩ | ⟨rfl, rfl⟩
        all_goals first
          | exact ⟨rfl, Below.refl _ _⟩
          | exact ⟨rfl, hb.alloc hb.size _⟩
          | exact ⟨rfl, hb⟩

set_option maxRecDepth 10000 in
theorem parse_any (s : ByteArray) (p : Nat) (hp : p < 4294967296) (x0 x1 x2 x3 x4 x5 x6 x7 : Int) (ch old : Bool) (w : World) (hs : s.size ≤ 900000000) :
    Calls Tryz.prog 10 #[.string s, .int .u32 (p : Nat), Bnd.bnd x0 x1 x2 x3 x4 x5 x6 x7 ch old] w fun e w' => e = .returned (rv (request (clOf p) old s.data.toList)) ∧ Below w.heap.size w w' := by
  have HP := Lib.hid (fun w => parts_any s p hp w hs)
  have HA := Lib.hid (Bnd.At.new w 28 x0 x1 x2 x3 x4 x5 x6 x7 ch old)
  have HG := Lib.hid (show w.heap.size < (w.alloc (.cells #[.int .i64 x0, .int .i64 x1, .int .i64 x2, .int .i64 x3, .int .i64 x4, .int .i64 x5, .int .i64 x6, .int .i64 x7, .bool ch, .bool old] 28)).heap.size by simp)
  have HW := Lib.hid (show Below w.heap.size w (w.alloc (.cells #[.int .i64 x0, .int .i64 x1, .int .i64 x2, .int .i64 x3, .int .i64 x4, .int .i64 x5, .int .i64 x6, .int .i64 x7, .bool ch, .bool old] 28)) from (Below.refl _ _).alloc (Nat.le_refl _) _)
  have hR : ∃ R, request (clOf p) old s.data.toList = R := ⟨_, rfl⟩
  obtain ⟨R, hR⟩ := hR
  rw [hR]
  unfold request at hR
  cases hpk : pick (clOf p) s.data.toList with
  | none =>
    rw [hpk] at hR HP
    dsimp only [pv] at HP
    subst hR
    clear hpk
    go_enter Tryz.func10, Tryz.ntmps10
    go_wp2_with (go_at_call 15; with_reducible refine (HP.out _).mono ?_; rintro e w1 ⟨rfl, hb⟩)
    exact bodyPost_ret (v := .tuple #[.string ⟨#[]⟩, .string ⟨#[]⟩, .int .i64 0, .int .i64 400]) (by simp [results, Tryz.results10, go_sem]) rfl ⟨rfl, Base.below_step HW.out hb⟩
  | some mtv =>
    obtain ⟨m, t, v⟩ := mtv
    obtain ⟨z1, z2, z3, z4, z5⟩ := pick_some hpk
    rw [len] at z2 z4 z5
    rw [hpk] at hR HP
    dsimp only [pv] at HP
    dsimp only at hR
    clear hpk
    have HM := Lib.hid (fun w => method_any (ba m) w (by rw [ba_size]; exact z1))
    have HT := Lib.hid (fun w => isTarget_any (ba m) (ba t) p hp w (by rw [ba_size]; omega))
    have HV := Lib.hid (fun w => minorOf_any (ba v) p hp w)
    have b1 : (ba m).data.toList = m := rfl
    have b2 : (ba t).data.toList = t := rfl
    have b3 : (ba v).data.toList = v := rfl
    rw [b1] at HM
    rw [b1, b2] at HT
    rw [b3] at HV
    clear b1 b2 b3 z1 z2 z3 z4 z5
    generalize methOk m = mo at *
    generalize tgtOk (clOf p) m t = tk at *
    cases mo with
    | false =>
      rw [Bool.false_and, if_neg (by decide)] at hR
      subst hR
      clear HT HV
      go_enter Tryz.func10, Tryz.ntmps10
      go_wp2_with (first
        | (go_at_call 15; with_reducible refine (HP.out _).mono ?_; rintro e w1 ⟨rfl, hb⟩)
        | (go_at_call 16; with_reducible refine (HM.out _).mono ?_; rintro e w2 ⟨rfl, hb2⟩; replace hb := Base.below_step hb hb2; clear hb2))
      exact bodyPost_ret (v := .tuple #[.string ⟨#[]⟩, .string ⟨#[]⟩, .int .i64 0, .int .i64 400]) (by simp [results, Tryz.results10, go_sem]) rfl ⟨rfl, Base.below_step HW.out hb⟩
    | true =>
      cases tk with
      | false =>
        rw [Bool.and_false, if_neg (by decide)] at hR
        subst hR
        clear HV
        go_enter Tryz.func10, Tryz.ntmps10
        go_wp2_with (first
          | (go_at_call 15; with_reducible refine (HP.out _).mono ?_; rintro e w1 ⟨rfl, hb⟩)
          | (go_at_call 16; with_reducible refine (HM.out _).mono ?_; rintro e w2 ⟨rfl, hb2⟩; replace hb := Base.below_step hb hb2; clear hb2)
          | (go_at_call 17; with_reducible refine (HT.out _).mono ?_; rintro e w3 ⟨rfl, hb2⟩; replace hb := Base.below_step hb hb2; clear hb2))
        exact bodyPost_ret (v := .tuple #[.string ⟨#[]⟩, .string ⟨#[]⟩, .int .i64 0, .int .i64 400]) (by simp [results, Tryz.results10, go_sem]) rfl ⟨rfl, Base.below_step HW.out hb⟩
      | true =>
        rw [Bool.and_true, if_pos rfl] at hR
        cases hv : verL (clOf p) v with
        | none =>
          rw [hv] at hR HV
          dsimp only at hR
          subst hR
          clear hv
          go_enter Tryz.func10, Tryz.ntmps10
          go_wp2_with (first
            | (go_at_call 15; with_reducible refine (HP.out _).mono ?_; rintro e w1 ⟨rfl, hb⟩)
            | (go_at_call 16; with_reducible refine (HM.out _).mono ?_; rintro e w2 ⟨rfl, hb2⟩; replace hb := Base.below_step hb hb2; clear hb2)
            | (go_at_call 17; with_reducible refine (HT.out _).mono ?_; rintro e w3 ⟨rfl, hb2⟩; replace hb := Base.below_step hb hb2; clear hb2)
            | (go_at_call 18; with_reducible refine (HV.out _).mono ?_; rintro e w4 ⟨rfl, hb2⟩; replace hb := Base.below_step hb hb2; clear hb2))
          exact bodyPost_ret (v := .tuple #[.string ⟨#[]⟩, .string ⟨#[]⟩, .int .i64 0, .int .i64 505]) (by simp [results, Tryz.results10, go_sem]) rfl ⟨rfl, Base.below_step HW.out hb⟩
        | some k =>
          have h01 := verL_01 hv
          rw [hv] at hR HV
          dsimp only at hR
          clear hv
          rcases h01 with rfl | rfl
          · cases old with
            | false =>
              rw [if_pos (by decide)] at hR
              subst hR
              go_enter Tryz.func10, Tryz.ntmps10
              go_wp2_with (first
                | (go_at_call 15; with_reducible refine (HP.out _).mono ?_; rintro e w1 ⟨rfl, hb⟩)
                | (go_at_call 16; with_reducible refine (HM.out _).mono ?_; rintro e w2 ⟨rfl, hb2⟩; replace hb := Base.below_step hb hb2; clear hb2)
                | (go_at_call 17; with_reducible refine (HT.out _).mono ?_; rintro e w3 ⟨rfl, hb2⟩; replace hb := Base.below_step hb hb2; clear hb2)
                | (go_at_call 18; with_reducible refine (HV.out _).mono ?_; rintro e w4 ⟨rfl, hb2⟩; replace hb := Base.below_step hb hb2; clear hb2; obtain ⟨_, _, _, _, _, _, _, _, _, q9⟩ := HA.out.below HG.out hb))
              exact bodyPost_ret (v := .tuple #[.string ⟨#[]⟩, .string ⟨#[]⟩, .int .i64 0, .int .i64 505]) (by simp [results, Tryz.results10, go_sem]) rfl ⟨rfl, Base.below_step HW.out hb⟩
            | true =>
              rw [if_neg (by decide)] at hR
              subst hR
              go_enter Tryz.func10, Tryz.ntmps10
              go_wp2_with (first
                | (go_at_call 15; with_reducible refine (HP.out _).mono ?_; rintro e w1 ⟨rfl, hb⟩)
                | (go_at_call 16; with_reducible refine (HM.out _).mono ?_; rintro e w2 ⟨rfl, hb2⟩; replace hb := Base.below_step hb hb2; clear hb2)
                | (go_at_call 17; with_reducible refine (HT.out _).mono ?_; rintro e w3 ⟨rfl, hb2⟩; replace hb := Base.below_step hb hb2; clear hb2)
                | (go_at_call 18; with_reducible refine (HV.out _).mono ?_; rintro e w4 ⟨rfl, hb2⟩; replace hb := Base.below_step hb hb2; clear hb2; obtain ⟨_, _, _, _, _, _, _, _, _, q9⟩ := HA.out.below HG.out hb))
              exact bodyPost_ret (v := .tuple #[.string (ba m), .string (ba t), .int .i64 0, .int .i64 0]) (by simp [results, Tryz.results10, go_sem]) rfl ⟨rfl, Base.below_step HW.out hb⟩
          · rw [if_neg (by simp)] at hR
            subst hR
            go_enter Tryz.func10, Tryz.ntmps10
            go_wp2_with (first
              | (go_at_call 15; with_reducible refine (HP.out _).mono ?_; rintro e w1 ⟨rfl, hb⟩)
              | (go_at_call 16; with_reducible refine (HM.out _).mono ?_; rintro e w2 ⟨rfl, hb2⟩; replace hb := Base.below_step hb hb2; clear hb2)
              | (go_at_call 17; with_reducible refine (HT.out _).mono ?_; rintro e w3 ⟨rfl, hb2⟩; replace hb := Base.below_step hb hb2; clear hb2)
              | (go_at_call 18; with_reducible refine (HV.out _).mono ?_; rintro e w4 ⟨rfl, hb2⟩; replace hb := Base.below_step hb hb2; clear hb2))
            exact bodyPost_ret (v := .tuple #[.string (ba m), .string (ba t), .int .i64 1, .int .i64 0]) (by simp [results, Tryz.results10, go_sem]) rfl ⟨rfl, Base.below_step HW.out hb⟩

/-- A line's text, of whatever method and target. -/
def lineOf (m t : ByteArray) : ByteArray := ((((m ++ ⟨#[32]⟩) ++ t) ++ ⟨#[32]⟩) ++ ⟨#[72, 84, 84, 80, 47, 49, 46]⟩) ++ ⟨#[49]⟩
theorem lineOf_list (m t : ByteArray) : (lineOf m t).data.toList = m.data.toList ++ 32 :: (t.data.toList ++ [32, 72, 84, 84, 80, 47, 49, 46, 49]) := by
  simp [lineOf, ByteArray.data_append]
theorem put_any (m t : ByteArray) (w : World) (hm : m.size ≤ 140737488351232) (ht : t.size ≤ 140737488351232) : Calls Tryz.prog 12 #[.string m, .string t] w fun e w' => e = .returned (.string (lineOf m t)) ∧ w' = w := by
  have v1 : ¬ 9223372036854775807 < m.size + 1 := by omega
  have v2 : ¬ 9223372036854775807 < m.size + 1 + t.size := by omega
  have v3 : ¬ 9223372036854775807 < m.size + 1 + t.size + 8 := by omega
  have v4 : ¬ 9223372036854775807 < m.size + 1 + t.size + 1 := by omega
  have v5 : ¬ 9223372036854775807 < m.size + 1 + t.size + 1 + 7 := by omega
  have v6 : ¬ 9223372036854775807 < m.size + 1 + t.size + 1 + 7 + 1 := by omega
  go_enter Tryz.func12, Tryz.ntmps12
  go_wp2_with fail
  go_ret
  exact ⟨rfl, rfl⟩
end code
end Go.Proofs.YtlignmlkoahbmaaGreatDoor.Rq
