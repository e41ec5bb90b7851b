/-
  Layer 19 (percent): the law on a path that was written in the one way: PercentOnce.
-/
import Derived.Test.YtojjhknejkhdhaaDoorPctTl
namespace Go.Proofs.YtojjhknejkhdhaaDoor.Pct
open Go.RowKit Base Txt

theorem norm_len {l a : List UInt8} (h : norm l = some a) (hl : l.length ≤ 110) : a.length ≤ 100000 := by
  cases l with
  | nil => cases h
  | cons b t =>
    unfold norm at h
    simp only at h
    split at h
    · obtain ⟨y, hy, rfl⟩ := Option.map_eq_some_iff.1 h
      have h0 := repl_len spell spell_le _ y hy
      have h1 := join_bound 110 (dots (segs y)) fun q hq => by
        rcases dots_mem hq with rfl | hq
        · simp
        · exact Nat.le_trans (segs_mem hq.1) (by omega)
      have h2 := dots_len (segs y)
      have h3 := segs_len y
      have h4 : (dots (segs y)).length * (110 + 1) ≤ 112 * (110 + 1) := Nat.mul_le_mul_right _ (by omega)
      omega
    · cases h

section code
set_option maxHeartbeats 4000000
set_option maxRecDepth 100000
attribute [local go_sem] Base.some_undef
theorem percentOnce_law (s : ByteArray) (la : Option Addr) (ln lcap : Nat) (zs : List Int) (w : World) (hv : Nums .u8 w la ln zs) (hz : ∀ n ∈ zs, (Lit.int .u8 n).wf = true) (hln : ln ≤ maxLen) :
    Calls Tryd.prog 4 #[.string s, .slice la ln lcap] w fun e w' => e = .returned (.bool true) ∧ Below w.heap.size w w' := by
  obtain ⟨bs, rfl⟩ := bytes_of zs (fun n hn => (show IntKind.u8.min ≤ n ∧ n ≤ IntKind.u8.max by have := hz n hn; simpa [Lit.wf] using this))
  clear hz
  have HV := Lib.hid hv
  clear hv
  unfold maxLen at hln
  have HK := Lib.hid (known_any w)
  by_cases ho : s.size ≤ 60 ∧ ln ≤ 6
  · obtain ⟨hs, hl6⟩ := ho
    have t1 : ¬ 60 < (s.size : Int) := by omega
    have t2 : ¬ 6 < (ln : Int) := by omega
    have v1 : ¬ 9223372036854775807 < 1 + s.size := by omega
    have HP := Lib.hid (fun (w' : World) (h : Below w.heap.size w w') => path_any la ln lcap bs w' (HV.out.below h) (by omega))
    go_enter Tryd.func4, Tryd.ntmps4
    go_wp2_with (first
      | (go_at_call 7; with_reducible refine HK.out.mono ?_; rintro e w1 ⟨rfl, hb1⟩
         have B1 := Lib.hid hb1
         clear hb1)
      | (go_at_call 8; with_reducible refine (HP.out _ B4.out).mono ?_; rintro e w5 ⟨p2, rfl, hp2, hb⟩
         have B5 := Lib.hid (Base.below_step B4.out hb)
         have v2 : ¬ 9223372036854775807 < p2.size + 1 := by omega
         clear hb)
      | (go_at_call 8; with_reducible refine (HP.out _ B1.out).mono ?_; rintro e w4 ⟨p1, rfl, hp1, hb⟩
         have B4 := Lib.hid (Base.below_step B1.out hb)
         clear hb))
    obtain ⟨X, hX⟩ : ∃ X, X = [⟨#[47]⟩ ++ s, p1, p2 ++ ⟨#[47]⟩] := ⟨_, rfl⟩
    have HXS : Hid (Strs (w5.alloc (.cells #[.string (⟨#[47]⟩ ++ s), .string p1, .string (p2 ++ ⟨#[47]⟩)] 9)) (some ⟨w5.heap.size, 0, none⟩) 3 X) := Lib.hid (by subst hX; exact Strs.made w5 w5.heap.size rfl _ [⟨#[47]⟩ ++ s, p1, p2 ++ ⟨#[47]⟩] 3 rfl)
    have HXZ : Hid (∀ j, j < 3 → (X[j]?.getD ByteArray.empty).size ≤ 110) := Lib.hid (by
      subst hX
      intro j hj
      match j, hj with
      | 0, _ => show (⟨#[47]⟩ ++ s : ByteArray).size ≤ 110; rw [ByteArray.size_append]; show 1 + s.size ≤ 110; omega
      | 1, _ => show p1.size ≤ 110; omega
      | 2, _ => show (p2 ++ ⟨#[47]⟩ : ByteArray).size ≤ 110; rw [ByteArray.size_append]; show p2.size + 1 ≤ 110; omega)
    have HB6 := Lib.hid (B5.out.alloc B5.out.size (.cells #[.string (⟨#[47]⟩ ++ s), .string p1, .string (p2 ++ ⟨#[47]⟩)] 9))
    generalize w5.alloc (.cells #[.string (⟨#[47]⟩ ++ s), .string p1, .string (p2 ++ ⟨#[47]⟩)] 9) = W6 at *
    generalize w5.heap.size = g6 at *
    clear hX B4 B5 v1 v2 HP B1
    go_loopw [36] (fun i wr => ∃ j : Nat, j ≤ 3 ∧ i = .int .i64 j ∧ Hid (Below w.heap.size w wr) ∧ Hid (Strs wr (some ⟨g6, 0, none⟩) 3 X)) (fun i _ => 3 - (intOf i).toNat)
    case atStart => exact ⟨0, Nat.zero_le _, rfl, HB6, HXS⟩
    case round =>
      obtain ⟨j, hj, rfl, hbr, hxs⟩ := hrel
      rcases Nat.lt_or_ge j 3 with hlt4 | hge4
      · obtain ⟨bl, off, e2, -, hc⟩ := hxs.out.2 (by decide)
        cases e2
        have hcj := hc j hlt4
        rw [Nat.zero_add] at hcj
        have hxz := HXZ.out j hlt4
        clear hc
        generalize X[j]?.getD ByteArray.empty = x at *
        have j4 : (j : Int) < 3 := by omega
        have N1 := Lib.hid (fun w => norm_any x w (by omega))
        cases hn : norm x.data.toList with
        | none =>
          rw [hn] at N1
          unfold ans at N1
          clear hn
          go_wp2_with (go_at_call 9; with_reducible refine (N1.out _).mono ?_; rintro e wa ⟨rfl, hb⟩
                       have Ba := Lib.hid (Base.below_step hbr.out hb)
                       have Xa := Lib.hid (hxs.out.below hb)
                       clear hb)
          go_roundw
          case rel => exact ⟨j + 1, by omega, by go_num, Ba, Xa⟩
          case measure => simp [intOf]; omega
        | some al =>
          obtain ⟨ho1, ⟨r, hr⟩, hlead, cl, dl, hc1, hd1, hle⟩ := norm_once hn
          have hal := norm_len hn (by rw [len]; omega)
          obtain ⟨A, hA⟩ : ∃ A, ba al = A := ⟨_, rfl⟩
          have hAl : A.data.toList = al := by rw [← hA]; rfl
          have hAz : A.size ≤ 100000 := by rw [← hA, ba_size]; exact hal
          have hA1 : 0 < A.size := by rw [← hA, ba_size, hr]; simp
          have e0 : ∀ hh, A[0]'hh = 47 := fun hh => by
            have : A.data.toList[0]? = some 47 := by rw [hAl, hr]; rfl
            rw [List.getElem?_eq_getElem (by rw [hAl, hr]; simp)] at this
            exact Option.some.inj this
          have n0 : ¬ A.toList = [] := by
            intro e
            have := (Ls.toList_iff A ⟨#[]⟩).1 (by rw [e]; decide +kernel)
            rw [this] at hA1; exact absurd hA1 (by decide)
          have n1 : A.toList.isEmpty = false := by cases h : A.toList with | nil => exact absurd h n0 | cons _ _ => rfl
          have n2 : (A.toList == []) = false := beq_eq_false_iff_ne.2 n0
          have N2 := Lib.hid (fun w => norm_any A w (by omega))
          have S1 := Lib.hid (fun w => segments_any A w (by omega))
          have D1 := Lib.hid (fun w => decode_any x w (by omega))
          have D2 := Lib.hid (fun w => decode_any A w (by omega))
          have HLd : Hid (∀ k, k < (segsB A).length → lead ((segsB A)[k]?.getD ByteArray.empty).data.toList = false) := Lib.hid (by
            intro k hk
            unfold segsB at hk ⊢
            rw [hAl] at hk ⊢
            rw [List.length_map] at hk
            rw [List.getElem?_map, List.getElem?_eq_getElem hk]
            exact hlead _ (List.getElem_mem hk))
          have hsl : (segsB A).length ≤ 100001 := by
            have := segs_len A.data.toList
            rw [len] at this
            unfold segsB; rw [List.length_map]; omega
          rw [hn] at N1
          rw [hAl, ho1] at N2
          rw [hc1] at D1
          rw [hAl, hd1] at D2
          have a1 : ans (some al) = .tuple #[.string A, .bool true] := by rw [← hA]; rfl
          have a2 : ans (some cl) = .tuple #[.string (ba cl), .bool true] := rfl
          have a3 : ans (some dl) = .tuple #[.string (ba dl), .bool true] := rfl
          rw [a1] at N1 N2
          rw [a2] at D1
          rw [a3] at D2
          clear a1 a2 a3
          have hcs : ((ba cl).size : Int) = (cl.length : Int) := by rw [ba_size]
          have hds : ((ba dl).size : Int) = (dl.length : Int) := by rw [ba_size]
          have hcmp : ¬ (cl.length : Int) < (dl.length : Int) := by omega
          have hcmp2 : ¬ ((ba cl).size : Int) < ((ba dl).size : Int) := by omega
          generalize ba cl = C at *
          generalize ba dl = DD at *
          generalize segsB A = S at *
          clear hn ho1 hr hlead hc1 hd1 hle hal hA hAl hcs hds hcmp
          go_wp2_with (first
            | (go_at_call 14; with_reducible refine (S1.out _).mono ?_; rintro e wc ⟨pa, pn, pc, rfl, hpn, hS, hb⟩
               have PS := Lib.hid hS
               have Bc := Lib.hid (Base.below_step Bb.out hb)
               have Xc := Lib.hid (Xb.out.below hb)
               clear hS hb)
            | (go_at_call 9; with_reducible refine (N2.out _).mono ?_; rintro e wb ⟨rfl, hb⟩
               have Bb := Lib.hid (Base.below_step Ba.out hb)
               have Xb := Lib.hid (Xa.out.below hb)
               clear hb)
            | (go_at_call 9; with_reducible refine (N1.out _).mono ?_; rintro e wa ⟨rfl, hb⟩
               have Ba := Lib.hid (Base.below_step hbr.out hb)
               have Xa := Lib.hid (hxs.out.below hb)
               clear hb))
          go_loop [12] (fun i => ∃ k : Nat, k ≤ pn ∧ i = .int .i64 k) (fun i => pn - (intOf i).toNat)
          case atStart => exact ⟨0, Nat.zero_le _, rfl⟩
          case round =>
            obtain ⟨k, hk, rfl⟩ := hrel
            rcases Nat.lt_or_ge k pn with hlt | hge
            · obtain ⟨b2, o2, rfl, -, hc2⟩ := PS.out.2 (by omega)
              have hck := hc2 k hlt
              have hld := HLd.out k (by omega)
              clear hc2
              generalize S[k]?.getD ByteArray.empty = y at *
              rcases lead_cases y with ⟨hq, -⟩ | ⟨-, hy1, hy2⟩
              · rw [hld] at hq; cases hq
              · have m2 := up_ne hy1
                have m3 := dot_ne hy2
                have m4 : (y.toList == [46, 46]) = false := beq_eq_false_iff_ne.2 m2
                have m5 : (y.toList == [46]) = false := beq_eq_false_iff_ne.2 m3
                clear hld hy1 hy2
                go_wp2
                go_round
                case rel => exact ⟨k + 1, by omega, by go_num⟩
                case measure => simp [intOf]; omega
            · obtain rfl : k = pn := by omega
              go_wp2_with (first
                | (go_at_call 11; with_reducible refine (D2.out _).mono ?_; rintro e we ⟨rfl, hb⟩
                   have Be := Lib.hid (Base.below_step Bd.out hb)
                   have Xe := Lib.hid (Xd.out.below hb)
                   clear hb)
                | (go_at_call 11; with_reducible refine (D1.out _).mono ?_; rintro e wd ⟨rfl, hb⟩
                   have Bd := Lib.hid (Base.below_step Bc.out hb)
                   have Xd := Lib.hid (Xc.out.below hb)
                   clear hb))
              go_roundw
              case rel => exact ⟨j + 1, by omega, by go_num, Be, Xe⟩
              case measure => simp [intOf]; omega
      · obtain rfl : j = 3 := by omega
        go_wp2
        go_ret
        exact ⟨rfl, hbr.out⟩
  · by_cases h1 : s.size ≤ 60
    · have t1 : ¬ 60 < (s.size : Int) := by omega
      have t2 : 6 < (ln : Int) := by omega
      clear ho h1
      go_enter Tryd.func4, Tryd.ntmps4
      go_wp2_with (go_at_call 7; with_reducible refine HK.out.mono ?_; rintro e w1 ⟨rfl, hb1⟩)
      go_ret
      exact ⟨rfl, hb1⟩
    · have t1 : 60 < (s.size : Int) := by omega
      clear ho h1
      go_enter Tryd.func4, Tryd.ntmps4
      go_wp2_with (go_at_call 7; with_reducible refine HK.out.mono ?_; rintro e w1 ⟨rfl, hb1⟩)
      go_ret
      exact ⟨rfl, hb1⟩
end code
end Go.Proofs.YtojjhknejkhdhaaDoor.Pct
