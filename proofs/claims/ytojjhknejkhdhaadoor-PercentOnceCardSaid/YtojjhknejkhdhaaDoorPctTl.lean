/-
  Layer 19 (percent): the law on each path in its one way to write it: PercentTells.
-/
import Derived.Test.YtojjhknejkhdhaaDoorPctK
namespace Go.Proofs.YtojjhknejkhdhaaDoor.Pct
open Go.RowKit Base Txt

theorem ans_form (o : Option (List UInt8)) : ∃ (v : ByteArray) (b : Bool), ans o = .tuple #[.string v, .bool b] := by
  cases o with
  | none => exact ⟨_, _, rfl⟩
  | some l => exact ⟨_, _, rfl⟩
def dotL : List Value := [.string ⟨#[46]⟩, .string ⟨#[46, 46]⟩, .string ⟨#[97]⟩, .string ⟨#[]⟩]
theorem dotL_at (q : Nat) (h : q < 4) : ∃ x : ByteArray, ∀ hh, dotL[q]'hh = .string x := by
  match q, h with
  | 0, _ => exact ⟨_, fun _ => rfl⟩
  | 1, _ => exact ⟨_, fun _ => rfl⟩
  | 2, _ => exact ⟨_, fun _ => rfl⟩
  | 3, _ => exact ⟨_, fun _ => rfl⟩

section code
set_option maxHeartbeats 4000000
set_option maxRecDepth 100000
attribute [local go_sem] Base.some_undef
theorem percentTells_law (s : ByteArray) (la : Option Addr) (ln lcap : Nat) (zs : List Int) (sa : Option Addr) (sn scap : Nat) (ss : List ByteArray) (w : World) (hv : Nums .u8 w la ln zs) (hz : ∀ n ∈ zs, (Lit.int .u8 n).wf = true) (hu : Strs w sa sn ss) (hln : ln ≤ maxLen) (hsn : sn ≤ maxLen) :
    Calls Tryd.prog 3 #[.string s, .slice la ln lcap, .slice sa sn scap] w fun e w' => e = .returned (.bool true) ∧ Below w.heap.size w w' := by
  obtain ⟨bs, rfl⟩ := bytes_of zs (fun n hn => (show IntKind.u8.min ≤ n ∧ n ≤ IntKind.u8.max by have := hz n hn; simpa [Lit.wf] using this))
  clear hz
  have HV := Lib.hid hv
  have HU := Lib.hid hu
  have HBL := Lib.hid (show bs.length = ln by have := hv.1; rwa [nums, List.length_map] at this)
  clear hv hu
  unfold maxLen at hln hsn
  obtain ⟨i0, hi, hz0, hz1, hz2⟩ := info_parts text_info
  have G1 := Lib.hid hi; have G2 := Lib.hid hz0; have G3 := Lib.hid hz1; have G4 := Lib.hid hz2
  clear hi hz0 hz1 hz2
  have HK := Lib.hid (known_any w)
  by_cases ho : s.size ≤ 80 ∧ ln ≤ 6 ∧ sn ≤ 10
  · obtain ⟨hs, hl6, hs10⟩ := ho
    have t1 : ¬ 80 < (s.size : Int) := by omega
    have t2 : ¬ 6 < (ln : Int) := by omega
    have t3 : ¬ 10 < (sn : Int) := by omega
    go_enter Tryd.func3, Tryd.ntmps3
    go_wp2_with (go_at_call 7; with_reducible refine HK.out.mono ?_; rintro e w1 ⟨rfl, hb1⟩
                 have B1 := Lib.hid hb1
                 clear hb1)
    have HV1 := Lib.hid (HV.out.below B1.out)
    have HU1 := Lib.hid (HU.out.below B1.out)
    go_loopw [7, 8] (fun v i wr => ∃ (k : Nat) (M : List ByteArray), k ≤ ln ∧ M.length = k ∧ i = .int .i64 k ∧ Hid (wr.ownsRow w.heap.size 9 1 v k (M.map Value.string)) ∧ Hid (Below w.heap.size w wr)) (fun _ i _ => ln - (intOf i).toNat)
    case atStart => exact ⟨0, [], Nat.zero_le _, rfl, rfl, Lib.hid ⟨rfl, .inl ⟨rfl, rfl⟩⟩, B1⟩
    case round =>
      obtain ⟨k, M, hk, hM, rfl, hown, hbr⟩ := hrel
      rcases Nat.lt_or_ge k ln with hlt | hge
      · obtain ⟨bl, off, rfl, hbl, hc⟩ := (HV.out.below hbr.out).2 (by omega)
        have hc0 := hc k hlt
        rw [nums_at bs k (by rw [HBL.out]; exact hlt)] at hc0
        generalize bs[k]'(by rw [HBL.out]; exact hlt) = z at *
        have hrem : Int.tmod ((z.toNat : Nat) : Int) 4 = ((z.toNat % 4 : Nat) : Int) := rem_byte z 4
        have hq : z.toNat % 4 < 4 := Nat.mod_lt _ (by decide)
        generalize z.toNat % 4 = q at *
        obtain ⟨x, hx⟩ := dotL_at q hq
        unfold dotL at hx
        have q4 : (q : Int) < 4 := by omega
        clear hc
        go_wp2_with (at_builtin; refine wpList_append_own _ rfl _ _ 23 rfl w.heap.size 9 i0 (.string ByteArray.empty) 1 16 Tryd.underlying23 G1.out G2.out G3.out G4.out rfl (by decide) _ _ _ rfl ((hown.out.alloc _).alloc _) ⟨wr.heap.size + 1, 0, none⟩ 1 1 [.string x] rfl rfl ?c1 ?c2 ?c3 ?c4 ?c5 ?_)
        case c1 =>
          have e : (wr.alloc (.cells #[.string ⟨#[46]⟩, .string ⟨#[46, 46]⟩, .string ⟨#[97]⟩, .string ⟨#[]⟩] 9)).heap.size = wr.heap.size + 1 := by simp
          rw [← e]; exact news_one _ _ _
        case c2 => intro u hu; obtain rfl : u = .string x := by simpa using hu
                   rfl
        case c3 => unfold maxLen; omega
        case c4 => omega
        case c5 => have := hbr.out.size; simp; omega
        intro v' w' hown' hgr _
        have H2 : Hid (w'.ownsRow w.heap.size 9 1 v' (k + 1) ((M ++ [x]).map Value.string)) := Lib.hid (by rw [List.map_append]; exact hown')
        have H3 := Lib.hid (((hbr.out.alloc hbr.out.size _).alloc (by have := hbr.out.size; simp; omega) _).grown hgr (by have := hbr.out.size; simp; omega) (own_base hown.out))
        clear hown' hgr hown hbr hx
        go_wp2
        go_roundw
        case rel => exact ⟨k + 1, M ++ [x], by omega, by simp [hM], by go_num, H2, H3⟩
        case measure => simp [intOf]; omega
      · obtain rfl : k = ln := by omega
        obtain ⟨ma, mc, rfl, hMS⟩ := Strs.of_own (n := k) (ss := M) hown.out
        have HMS := Lib.hid hMS
        clear hMS hown
        have HP := Lib.hid (fun (w' : World) (h : Below w.heap.size w w') => path_any la k lcap bs w' (HV.out.below h) (by omega))
        have v1 : ¬ 9223372036854775807 < 1 + s.size := by omega
        go_wp2_with (first
          | (go_at_call 8; with_reducible refine (HP.out _ B4.out).mono ?_; rintro e w5 ⟨p2, rfl, hp2, hb⟩
             have B5 := Lib.hid (Base.below_step B4.out hb)
             have HMS5 := Lib.hid (HMS4.out.below hb)
             have v2 : ¬ 9223372036854775807 < p2.size + 1 := by omega
             have v3 : ¬ 9223372036854775807 < p2.size + 1 + s.size := by omega
             clear hb)
          | (go_at_call 8; with_reducible refine (HP.out _ hbr.out).mono ?_; rintro e w4 ⟨p1, rfl, hp1, hb⟩
             have B4 := Lib.hid (Base.below_step hbr.out hb)
             have HMS4 := Lib.hid (HMS.out.below hb)
             clear hb))
        obtain ⟨X, hX⟩ : ∃ X, X = [s, p1, ⟨#[47]⟩ ++ s, p2 ++ ⟨#[47]⟩ ++ s] := ⟨_, rfl⟩
        have HXS : Hid (Strs (w5.alloc (.cells #[.string s, .string p1, .string (⟨#[47]⟩ ++ s), .string (p2 ++ ⟨#[47]⟩ ++ s)] 9)) (some ⟨w5.heap.size, 0, none⟩) 4 X) := Lib.hid (by subst hX; exact Strs.made w5 w5.heap.size rfl _ [s, p1, ⟨#[47]⟩ ++ s, p2 ++ ⟨#[47]⟩ ++ s] 4 rfl)
        have HXZ : Hid (∀ j, j < 4 → (X[j]?.getD ByteArray.empty).size ≤ 200) := Lib.hid (by
          subst hX
          intro j hj
          match j, hj with
          | 0, _ => show s.size ≤ 200; omega
          | 1, _ => show p1.size ≤ 200; omega
          | 2, _ => show (⟨#[47]⟩ ++ s : ByteArray).size ≤ 200; rw [ByteArray.size_append]; show 1 + s.size ≤ 200; omega
          | 3, _ => show (p2 ++ ⟨#[47]⟩ ++ s : ByteArray).size ≤ 200; rw [ByteArray.size_append, ByteArray.size_append]; show p2.size + 1 + s.size ≤ 200; omega)
        have HB6 := Lib.hid (B5.out.alloc B5.out.size (.cells #[.string s, .string p1, .string (⟨#[47]⟩ ++ s), .string (p2 ++ ⟨#[47]⟩ ++ s)] 9))
        have HM6 := Lib.hid (HMS5.out.below ((Below.refl w5.heap.size w5).alloc (Nat.le_refl _) (.cells #[.string s, .string p1, .string (⟨#[47]⟩ ++ s), .string (p2 ++ ⟨#[47]⟩ ++ s)] 9)))
        generalize w5.alloc (.cells #[.string s, .string p1, .string (⟨#[47]⟩ ++ s), .string (p2 ++ ⟨#[47]⟩ ++ s)] 9) = W6 at *
        generalize w5.heap.size = g6 at *
        clear hX HMS5 HMS4 B4 B5 v1 v2 v3 HP hbr HMS
        go_loopw [63] (fun i wr => ∃ j : Nat, j ≤ 4 ∧ i = .int .i64 j ∧ Hid (Below w.heap.size w wr) ∧ Hid (Strs wr (some ⟨g6, 0, none⟩) 4 X) ∧ Hid (Strs wr ma k M)) (fun i _ => 4 - (intOf i).toNat)
        case atStart => exact ⟨0, Nat.zero_le _, rfl, HB6, HXS, HM6⟩
        case round =>
          obtain ⟨j, hj, rfl, hbr, hxs, hms⟩ := hrel
          rcases Nat.lt_or_ge j 4 with hlt4 | hge4
          · obtain ⟨bl, off, e2, -, hc⟩ := hxs.out.2 (by decide)
            cases e2
            have hcj := hc j hlt4
            rw [Nat.zero_add] at hcj
            have hxz := HXZ.out j hlt4
            clear hc
            generalize X[j]?.getD ByteArray.empty = x at *
            have j4 : (j : Int) < 4 := by omega
            obtain ⟨v1, b1, h1⟩ := ans_form (norm x.data.toList)
            obtain ⟨v2, b2, h2⟩ := ans_form (repl plain x.data.toList)
            have N1 := Lib.hid (fun w => norm_any x w (by omega))
            have N2 := Lib.hid (fun w => rnorm_any x w (by omega))
            have D1 := Lib.hid (fun w => decode_any x w (by omega))
            have D2 := Lib.hid (fun w => rdecode_any x w (by omega))
            rw [h1] at N1 N2
            rw [h2] at D1 D2
            have S1 := Lib.hid (fun w => segments_any x w (by omega))
            have S2 := Lib.hid (fun w => rsegments_any x w (by omega))
            have hsl : (segsB x).length ≤ 201 := by
              have := segs_len x.data.toList
              rw [len] at this
              unfold segsB; rw [List.length_map]; omega
            generalize segsB x = S at *
            have ST : Hid (∀ (w : World) a n c b m d, Strs w a n S → Strs w b m S → n ≤ 1000000000 → m ≤ 1000000000 → Calls Tryd.prog 13 #[.slice a n c, .slice b m d] w fun e w' => e = .returned (.bool true) ∧ ∃ q, w' = w.drewN q) :=
              Lib.hid (fun w a n c b m d ha hb hn hm => (rstrings_any a n c S b m d S w ha hb hn hm).mono (by rintro e w' ⟨rfl, hq⟩; exact ⟨by rw [decide_eq_true rfl], hq⟩))
            clear h1 h2 hxz
            go_wp2_with (first
              | (go_at_call 13; with_reducible refine (ST.out _ _ _ _ _ _ _ T1.out T2.out m1 m2).mono ?_; rintro e w7 ⟨rfl, q, hw⟩
                 have B7 : Hid (Below w.heap.size w w7) := Lib.hid (by rw [hw]; exact Base.below_drewN Bf.out q)
                 have X7 : Hid (Strs w7 (some ⟨g6, 0, none⟩) 4 X) := Lib.hid (by rw [hw]; exact Xf.out)
                 have M7 : Hid (Strs w7 ma k M) := Lib.hid (by rw [hw]; exact Mf.out)
                 clear hw)
              | (go_at_call 15; with_reducible refine (S2.out _).mono ?_; rintro e wf ⟨a2, n2, c2, rfl, hn2, hS2, hb⟩
                 have T1 := Lib.hid (T0.out.below hb)
                 have T2 := Lib.hid hS2
                 have m2 : n2 ≤ 1000000000 := by omega
                 have Bf := Lib.hid (Base.below_step Be.out hb)
                 have Xf := Lib.hid (Xe.out.below hb)
                 have Mf := Lib.hid (Me.out.below hb)
                 clear hS2 hb hn2)
              | (go_at_call 14; with_reducible refine (S1.out _).mono ?_; rintro e we ⟨a1, n1, c1, rfl, hn1, hS1, hb⟩
                 have T0 := Lib.hid hS1
                 have m1 : n1 ≤ 1000000000 := by omega
                 have Be := Lib.hid (Base.below_step Bd.out hb)
                 have Xe := Lib.hid (Xd.out.below hb)
                 have Me := Lib.hid (Md.out.below hb)
                 clear hS1 hb hn1)
              | (go_at_call 12; with_reducible refine (D2.out _).mono ?_; rintro e wd ⟨rfl, hb⟩
                 have Bd := Lib.hid (Base.below_step Bc.out hb)
                 have Xd := Lib.hid (Xc.out.below hb)
                 have Md := Lib.hid (Mc.out.below hb)
                 clear hb)
              | (go_at_call 11; with_reducible refine (D1.out _).mono ?_; rintro e wc ⟨rfl, hb⟩
                 have Bc := Lib.hid (Base.below_step Bb.out hb)
                 have Xc := Lib.hid (Xb.out.below hb)
                 have Mc := Lib.hid (Mb.out.below hb)
                 clear hb)
              | (go_at_call 10; with_reducible refine (N2.out _).mono ?_; rintro e wb ⟨rfl, hb⟩
                 have Bb := Lib.hid (Base.below_step Ba.out hb)
                 have Xb := Lib.hid (Xa.out.below hb)
                 have Mb := Lib.hid (Ma.out.below hb)
                 clear hb)
              | (go_at_call 9; with_reducible refine (N1.out _).mono ?_; rintro e wa ⟨rfl, hb⟩
                 have Ba := Lib.hid (Base.below_step hbr.out hb)
                 have Xa := Lib.hid (hxs.out.below hb)
                 have Ma := Lib.hid (hms.out.below hb)
                 clear hb))
            go_roundw
            case rel => exact ⟨j + 1, by omega, by go_num, B7, X7, M7⟩
            case measure => simp [intOf]; omega
          · obtain rfl : j = 4 := by omega
            clear HB6 HXS HM6 hxs
            have hkz : k ≤ 1000000000 := by omega
            have hsz : sn ≤ 1000000000 := by omega
            have UR := Lib.hid (HU.out.below hbr.out)
            have d1 : (dotsB M).length ≤ 1000000000 := by
              have := dots_len (listL M)
              unfold dotsB; rw [List.length_map]
              unfold listL at this; rw [List.length_map, hM] at this; unfold listL; omega
            have d2 : (dotsB ss).length ≤ 1000000000 := by
              have := dots_len (listL ss)
              have hl := HU.out.1
              unfold dotsB; rw [List.length_map]
              unfold listL at this; rw [List.length_map, hl] at this; unfold listL; omega
            have DM := Lib.hid (fun (w : World) c (h : Strs w ma k M) => dots_any ma k c M w h hkz)
            have EM := Lib.hid (fun (w : World) c (h : Strs w ma k M) => rdots_any ma k c M w h hkz)
            have DS := Lib.hid (fun (w : World) c (h : Strs w sa sn ss) => dots_any sa sn c ss w h hsz)
            have ES := Lib.hid (fun (w : World) c (h : Strs w sa sn ss) => rdots_any sa sn c ss w h hsz)
            have DN : Hid (∀ w : World, Calls Tryd.prog 16 #[.slice none 0 0] w fun e w' => ∃ a c, e = .returned (.slice a 1 c) ∧ Below w.heap.size w w') :=
              Lib.hid (fun w => (dots_any none 0 0 [] w (Strs.nil _ _) (by decide)).mono (by rintro e w' ⟨a, n, c, rfl, hn, -, hb⟩; obtain rfl : n = 1 := hn; exact ⟨a, c, rfl, hb⟩))
            have ST : Hid (∀ (S : List ByteArray) (w : World) a n c b m d, Strs w a n S → Strs w b m S → n ≤ 1000000000 → m ≤ 1000000000 → Calls Tryd.prog 13 #[.slice a n c, .slice b m d] w fun e w' => e = .returned (.bool true) ∧ ∃ q, w' = w.drewN q) :=
              Lib.hid (fun S w a n c b m d ha hb hn hm => (rstrings_any a n c S b m d S w ha hb hn hm).mono (by rintro e w' ⟨rfl, hq⟩; exact ⟨by rw [decide_eq_true rfl], hq⟩))
            generalize dotsB M = D1 at *
            generalize dotsB ss = D2 at *
            clear HV HU HV1 HU1 B1 HXZ
            go_wp2_with (first
              | (go_at_call 16; with_reducible refine (DN.out _).mono ?_; rintro e wg ⟨a9, c9, rfl, hb⟩
                 have Bg := Lib.hid (Base.below_step Bf.out hb)
                 clear hb)
              | (go_at_call 13; with_reducible refine (ST.out D2 _ _ _ _ _ _ _ T3.out T4.out m3 m4).mono ?_; rintro e wf ⟨rfl, q, hw⟩
                 have Bf : Hid (Below w.heap.size w wf) := Lib.hid (by rw [hw]; exact Base.below_drewN Be.out q)
                 clear hw)
              | (go_at_call 17; with_reducible refine (ES.out _ _ Ud.out).mono ?_; rintro e we ⟨a4, n4, c4, rfl, hn4, hS4, hb⟩
                 have T3 := Lib.hid (T2.out.below hb)
                 have T4 := Lib.hid hS4
                 have m4 : n4 ≤ 1000000000 := by omega
                 have Be := Lib.hid (Base.below_step Bd.out hb)
                 clear hS4 hb hn4)
              | (go_at_call 16; with_reducible refine (DS.out _ _ Uc.out).mono ?_; rintro e wd ⟨a3, n3, c3, rfl, hn3, hS3, hb⟩
                 have T2 := Lib.hid hS3
                 have m3 : n3 ≤ 1000000000 := by omega
                 have Bd := Lib.hid (Base.below_step Bc.out hb)
                 have Ud := Lib.hid (Uc.out.below hb)
                 clear hS3 hb hn3)
              | (go_at_call 13; with_reducible refine (ST.out D1 _ _ _ _ _ _ _ T0.out T1.out m1 m2).mono ?_; rintro e wc ⟨rfl, q, hw⟩
                 have Bc : Hid (Below w.heap.size w wc) := Lib.hid (by rw [hw]; exact Base.below_drewN Bb.out q)
                 have Uc : Hid (Strs wc sa sn ss) := Lib.hid (by rw [hw]; exact Ub.out)
                 clear hw)
              | (go_at_call 17; with_reducible refine (EM.out _ _ Ma.out).mono ?_; rintro e wb ⟨a2, n2, c2, rfl, hn2, hS2, hb⟩
                 have T0 := Lib.hid (Ta.out.below hb)
                 have T1 := Lib.hid hS2
                 have m2 : n2 ≤ 1000000000 := by omega
                 have Bb := Lib.hid (Base.below_step Ba.out hb)
                 have Ub := Lib.hid (Ua.out.below hb)
                 clear hS2 hb hn2)
              | (go_at_call 16; with_reducible refine (DM.out _ _ hms.out).mono ?_; rintro e wa ⟨a1, n1, c1, rfl, hn1, hS1, hb⟩
                 have Ta := Lib.hid hS1
                 have m1 : n1 ≤ 1000000000 := by omega
                 have Ba := Lib.hid (Base.below_step hbr.out hb)
                 have Ma := Lib.hid (hms.out.below hb)
                 have Ua := Lib.hid (UR.out.below hb)
                 clear hS1 hb hn1))
            go_ret
            exact ⟨rfl, Bg.out⟩
  · by_cases h1 : s.size ≤ 80
    · by_cases h2 : ln ≤ 6
      · have t1 : ¬ 80 < (s.size : Int) := by omega
        have t2 : ¬ 6 < (ln : Int) := by omega
        have t3 : 10 < (sn : Int) := by omega
        clear ho h1 h2
        go_enter Tryd.func3, Tryd.ntmps3
        go_wp2_with (go_at_call 7; with_reducible refine HK.out.mono ?_; rintro e w1 ⟨rfl, hb1⟩)
        go_ret
        exact ⟨rfl, hb1⟩
      · have t1 : ¬ 80 < (s.size : Int) := by omega
        have t2 : 6 < (ln : Int) := by omega
        clear ho h1 h2
        go_enter Tryd.func3, Tryd.ntmps3
        go_wp2_with (go_at_call 7; with_reducible refine HK.out.mono ?_; rintro e w1 ⟨rfl, hb1⟩)
        go_ret
        exact ⟨rfl, hb1⟩
    · have t1 : 80 < (s.size : Int) := by omega
      clear ho h1
      go_enter Tryd.func3, Tryd.ntmps3
      go_wp2_with (go_at_call 7; with_reducible refine HK.out.mono ?_; rintro e w1 ⟨rfl, hb1⟩)
      go_ret
      exact ⟨rfl, hb1⟩
end code
end Go.Proofs.YtojjhknejkhdhaaDoor.Pct
