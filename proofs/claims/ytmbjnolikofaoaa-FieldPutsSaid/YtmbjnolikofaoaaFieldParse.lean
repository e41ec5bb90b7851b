/-
  Layer 9 (field): the contract of package field's Parse, at any line, any profile.
-/
import Derived.Test.YtmbjnolikofaoaaField
namespace Go.Proofs.Ytmbjnolikofaoaa.Fd
open Go.RowKit Base Txt Tgt

section code
set_option maxHeartbeats 4000000
set_option maxRecDepth 100000
attribute [local go_sem] Base.some_undef
theorem parse_any (s : ByteArray) (p : Nat) (hp : p < 4294967296) (w : World) (hs : s.size ≤ 1000000000) : Calls Try.prog 13 #[.string s, .int .u32 (p : Nat)] w fun e w' => e = .returned (rv (parse (clOf p) s.data.toList)) ∧ Below w.heap.size w w' := by
  have HC := Lib.hid (fun w => cut_any s 58 w hs)
  have hle := cutAt_le 58 s.data.toList
  rw [len] at hle
  obtain ⟨R, hR⟩ : ∃ R, parse (clOf p) s.data.toList = R := ⟨_, rfl⟩
  rw [hR]
  unfold parse at hR
  generalize (cutAt 58 s.data.toList).1 = n0 at *
  generalize (cutAt 58 s.data.toList).2.1 = v0 at *
  generalize (cutAt 58 s.data.toList).2.2 = ok at *
  have HK0 := Lib.hid (Keep.new w 25 E0 E0)
  cases ok with
  | false =>
    rw [if_neg (by decide)] at hR
    have HN := Lib.hid (fun w => none_any p hp 11 w)
    rw [show out (Qk.has p 11) = R from hR, rv_form] at HN
    rw [rv_form]
    clear hR hle
    generalize rn R = N at *
    generalize rvl R = V at *
    generalize rok R = O at *
    generalize rerr R = Z at *
    go_enter Try.func13, Try.ntmps13
    go_wp2_with (first
      | (go_at_call 24; with_reducible refine (HC.out _).mono ?_; rintro e w1 ⟨rfl, m, hw⟩; rw [hw]; clear hw)
      | (go_at_call 25; with_reducible refine (HN.out _).mono ?_; rintro e w2 ⟨rfl, hb⟩
         have HK := Lib.hid ((HK0.out.drew m).step hb)
         obtain ⟨⟨c0, c1, z0, z1⟩, hg, hbk⟩ := HK.out
         clear hg hbk hb))
    obtain ⟨W, hW, ⟨d0, d1, _, _⟩, hbW⟩ := Fb.put HK.out.f HK.out.b (Nat.le_refl _) N V
    rw [hW]
    exact bodyPost_ret (v := .tuple #[fv N V, .bool O, .int .i64 Z]) (by simp [results, Try.results13, go_sem, d0, d1]) rfl ⟨rfl, hbW⟩
  | true =>
    rw [if_pos rfl] at hR
    have HH := Lib.hid (fun w => Qk.has_any p hp 9 w)
    have HT := Lib.hid (fun w => trimEnd_any (ba n0) w (by rw [ba_size]; omega))
    have HV := Lib.hid (fun w => trim_any (ba v0) w (by rw [ba_size]; unfold maxLen; omega))
    rw [show trim (ba v0) = ba (trimL Txt.blank v0) from rfl] at HV
    rw [show (ba n0).data.toList = n0 from rfl] at HT
    have hv1 : (trimL Txt.blank v0).length ≤ s.size := Nat.le_trans (trimL_length _ _) hle.2
    have hn1 : (nameL (clOf p) n0).length ≤ s.size := Nat.le_trans (nameL_le _ _) hle.1
    have hnm : (if Qk.has p 9 = true then trimEnd n0 else n0) = nameL (clOf p) n0 := rfl
    generalize trimL Txt.blank v0 = v1 at *
    generalize nameL (clOf p) n0 = n1 at *
    have HNm := Lib.hid (fun w => isName_any (ba n1) p hp w (by rw [ba_size]; unfold maxLen; omega))
    have HVl := Lib.hid (fun w => isValue_any (ba v1) p hp w (by rw [ba_size]; unfold maxLen; omega))
    rw [show (ba n1).data.toList = n1 from rfl] at HNm
    rw [show (ba v1).data.toList = v1 from rfl] at HVl
    unfold read at hR
    have HN := Lib.hid (fun w => none_any p hp 12 w)
    rw [show Qk.has p 12 = (clOf p).nn from rfl] at HN
    generalize (clOf p).nn = nn at *
    generalize goodN (clOf p) n1 = gn at *
    generalize goodV (clOf p) v1 = gv at *
    clear hle hv1 hn1
    by_cases hn : n1 = []
    · rw [if_pos hn] at hR
      subst hn
      rw [hR, rv_form] at HN
      rw [rv_form]
      clear hR HNm HVl HV
      generalize rn R = N at *
      generalize rvl R = V at *
      generalize rok R = O at *
      generalize rerr R = Z at *
      generalize Qk.has p 9 = sp at *
      cases sp
      all_goals
        first | rw [if_pos rfl] at hnm | rw [if_neg (by decide)] at hnm
        first | subst hnm | (rw [hnm] at HT; clear hnm)
        try rw [show ba [] = E0 from rfl] at HT
        try rw [show ba [] = E0 from rfl] at HC
        go_enter Try.func13, Try.ntmps13
        go_wp2_with (first
          | (go_at_call 24; with_reducible refine (HC.out _).mono ?_; rintro e w1 ⟨rfl, m, hw⟩; rw [hw]; clear hw)
          | (go_at_call 26; with_reducible refine (HH.out _).mono ?_; rintro e w1 ⟨rfl, hw⟩; rw [hw]; clear hw)
          | (go_at_call 27; with_reducible refine (HT.out _).mono ?_; rintro e w1 ⟨rfl, hw⟩; rw [hw]; clear hw)
          | (go_at_call 25; with_reducible refine (HN.out _).mono ?_; rintro e w2 ⟨rfl, hb⟩
             have HK := Lib.hid ((HK0.out.drew m).step hb)
             obtain ⟨⟨c0, c1, z0, z1⟩, hg, hbk⟩ := HK.out
             clear hg hbk hb))
        obtain ⟨W, hW, ⟨d0, d1, _, _⟩, hbW⟩ := Fb.put HK.out.f HK.out.b (Nat.le_refl _) N V
        rw [hW]
        exact bodyPost_ret (v := .tuple #[fv N V, .bool O, .int .i64 Z]) (by simp [results, Try.results13, go_sem, d0, d1]) rfl ⟨rfl, hbW⟩
    · rw [if_neg hn] at hR
      have t0 := first_no (ba n1) (ba_pos hn)
      have hnm' : ba (if Qk.has p 9 = true then trimEnd n0 else n0) = ba n1 := congrArg ba hnm
      clear HN hn hnm
      generalize Qk.has p 9 = sp at *
      obtain ⟨T, hT⟩ : ∃ T, ba (trimEnd n0) = T := ⟨_, rfl⟩
      rw [hT] at HT
      generalize hN0 : ba n0 = N0 at *
      generalize ba v0 = V0 at *
      have hrv : rv R = if (gn && gv) = true then .tuple #[fv (ba n1) (ba v1), .bool true, .int .i64 0] else .tuple #[fv E0 E0, .bool false, .int .i64 400] := by
        rw [← hR]; split <;> rfl
      rw [hrv]
      clear hrv hR
      generalize ba n1 = N1 at *
      generalize ba v1 = V1 at *
      cases sp
      all_goals
        first | rw [if_pos rfl] at hnm' | rw [if_neg (by decide)] at hnm'
        first | (rw [hN0] at hnm'; replace hnm' := hnm'.symm; subst hnm') | (rw [hT] at hnm'; replace hnm' := hnm'.symm; subst hnm')
        clear hN0 hT
        cases gn
        · rw [if_neg (by simp)]
          go_enter Try.func13, Try.ntmps13
          go_wp2_with (first
            | (go_at_call 24; with_reducible refine (HC.out _).mono ?_; rintro e w1 ⟨rfl, m, hw⟩; rw [hw]; clear hw)
            | (go_at_call 26; with_reducible refine (HH.out _).mono ?_; rintro e w1 ⟨rfl, hw⟩; rw [hw]; clear hw)
            | (go_at_call 27; with_reducible refine (HT.out _).mono ?_; rintro e w1 ⟨rfl, hw⟩; rw [hw]; clear hw)
            | (go_at_call 28; with_reducible refine (HV.out _).mono ?_; rintro e w1 ⟨rfl, hw⟩; rw [hw]; clear hw)
            | (go_at_call 29; with_reducible refine (HNm.out _).mono ?_; rintro e w2 ⟨rfl, hb⟩
               have HK := Lib.hid ((HK0.out.drew m).step hb)
               obtain ⟨⟨c0, c1, z0, z1⟩, hg, hbk⟩ := HK.out
               clear hg hbk hb))
          obtain ⟨W, hW, ⟨d0, d1, _, _⟩, hbW⟩ := Fb.put HK.out.f HK.out.b (Nat.le_refl _) E0 E0
          rw [hW]
          exact bodyPost_ret (v := .tuple #[fv E0 E0, .bool false, .int .i64 400]) (by simp [results, Try.results13, go_sem, d0, d1]) rfl ⟨rfl, hbW⟩
        · cases gv
          · rw [if_neg (by decide)]
            go_enter Try.func13, Try.ntmps13
            go_wp2_with (first
              | (go_at_call 24; with_reducible refine (HC.out _).mono ?_; rintro e w1 ⟨rfl, m, hw⟩; rw [hw]; clear hw)
              | (go_at_call 26; with_reducible refine (HH.out _).mono ?_; rintro e w1 ⟨rfl, hw⟩; rw [hw]; clear hw)
              | (go_at_call 27; with_reducible refine (HT.out _).mono ?_; rintro e w1 ⟨rfl, hw⟩; rw [hw]; clear hw)
              | (go_at_call 28; with_reducible refine (HV.out _).mono ?_; rintro e w1 ⟨rfl, hw⟩; rw [hw]; clear hw)
              | (go_at_call 29; with_reducible refine (HNm.out _).mono ?_; rintro e w2 ⟨rfl, hb⟩
                 have HK := Lib.hid ((HK0.out.drew m).step hb)
                 clear hb)
              | (go_at_call 30; with_reducible refine (HVl.out _).mono ?_; rintro e w3 ⟨rfl, hb⟩
                 replace HK := Lib.hid (HK.out.step hb)
                 obtain ⟨⟨c0, c1, z0, z1⟩, hg, hbk⟩ := HK.out
                 clear hg hbk hb))
            obtain ⟨W, hW, ⟨d0, d1, _, _⟩, hbW⟩ := Fb.put HK.out.f HK.out.b (Nat.le_refl _) E0 E0
            rw [hW]
            exact bodyPost_ret (v := .tuple #[fv E0 E0, .bool false, .int .i64 400]) (by simp [results, Try.results13, go_sem, d0, d1]) rfl ⟨rfl, hbW⟩
          · rw [if_pos (by decide)]
            go_enter Try.func13, Try.ntmps13
            go_wp2_with (first
              | (go_at_call 24; with_reducible refine (HC.out _).mono ?_; rintro e w1 ⟨rfl, m, hw⟩; rw [hw]; clear hw)
              | (go_at_call 26; with_reducible refine (HH.out _).mono ?_; rintro e w1 ⟨rfl, hw⟩; rw [hw]; clear hw)
              | (go_at_call 27; with_reducible refine (HT.out _).mono ?_; rintro e w1 ⟨rfl, hw⟩; rw [hw]; clear hw)
              | (go_at_call 28; with_reducible refine (HV.out _).mono ?_; rintro e w1 ⟨rfl, hw⟩; rw [hw]; clear hw)
              | (go_at_call 29; with_reducible refine (HNm.out _).mono ?_; rintro e w2 ⟨rfl, hb⟩
                 have HK := Lib.hid ((HK0.out.drew m).step hb)
                 clear hb)
              | (go_at_call 30; with_reducible refine (HVl.out _).mono ?_; rintro e w3 ⟨rfl, hb⟩
                 replace HK := Lib.hid (HK.out.step hb)
                 obtain ⟨⟨c0, c1, z0, z1⟩, hg, hbk⟩ := HK.out
                 clear hg hbk hb))
            obtain ⟨W, hW, ⟨d0, d1, _, _⟩, hbW⟩ := Fb.put HK.out.f HK.out.b (Nat.le_refl _) N1 V1
            rw [hW]
            exact bodyPost_ret (v := .tuple #[fv N1 V1, .bool true, .int .i64 0]) (by simp [results, Try.results13, go_sem, d0, d1]) rfl ⟨rfl, hbW⟩
/-- .. of no clauses. -/
theorem parse0_any (s : ByteArray) (w : World) (hs : s.size ≤ 1000000000) : Calls Try.prog 13 #[.string s, .int .u32 0] w fun e w' => e = .returned (rv (parse c0 s.data.toList)) ∧ Below w.heap.size w w' := by
  rw [← clOf_zero]
  exact parse_any s 0 (by decide) w hs
end code
end Go.Proofs.Ytmbjnolikofaoaa.Fd
