/-
  Layer 5 (quirks): contracts, further: lists of clauses, the search by name, the document's Needs and Name.
-/
import Derived.Test.YtlikkpkpbjkcoaaDoorQuirks
import Derived.Test.YtlikkpkpbjkcoaaDoorTable
import Derived.Maps.AppendAt
import Derived.ChangeSame
namespace Go.Proofs.YtlikkpkpbjkcoaaDoor.Qk
open Go.RowKit Base

theorem string_info : (Tryd.prog.info? 9).map (fun i => (i.zero, i.size, i.bytes)) = some (some (.string ByteArray.empty), 1, 16) := by kernel_rfl
theorem int_info : (Tryd.prog.info? 3).map (fun i => (i.zero, i.size, i.bytes)) = some (some (.int .i64 0), 1, 8) := by kernel_rfl
theorem snoc_some {zs : List Int} {k : Nat} (h : k < zs.length) : zs.take (k + 1) = zs.take k ++ [zs[k]?.getD 0] := ints_snoc zs k h

section code
set_option maxHeartbeats 1000000
attribute [local go_sem] Base.some_undef
theorem rneeds_any (c : Int) (p : Nat) (hp : p < 4294967296) (x0 x1 x2 x3 x4 x5 x6 x7 : Int) (ch old : Bool) (w : World) : Calls Tryd.prog 14 #[.int .i64 c, .int .u32 p, Bnd.bnd x0 x1 x2 x3 x4 x5 x6 x7 ch old] w
    fun e w' => e = .returned (.bool (needs c p ch old)) ∧ Below w.heap.size w w' := by
  have H1 := Lib.hid (rhas_any p hp 14); have H2 := Lib.hid (rhas_any p hp 25); have H3 := Lib.hid (rhas_any p hp 21); have H4 := Lib.hid (rhas_any p hp 19); have H5 := Lib.hid (rhas_any p hp 22)
  by_cases hc : c ≠ 6 ∧ c ≠ 17 ∧ c ≠ 18 ∧ c ≠ 21 ∧ c ≠ 27 ∧ c ≠ 28 ∧ c ≠ 29 ∧ c ≠ 20 ∧ c ≠ 22 ∧ c ≠ 26
  · obtain ⟨n0, n1, n2, n3, n4, n5, n6, n7, n8, n9⟩ := hc
    have hq : needs c p ch old = known c := by simp [needs, n0, n1, n2, n3, n4, n5, n6, n7, n8, n9]
    rw [hq]
    clear hq
    rcases Int.lt_or_le c 0 with h | h
    · go_enter Tryd.func14, Tryd.ntmps14
      go_wp2
      go_ret
      exact ⟨ret_bool (by simp [known]; omega), (Below.refl _ _).alloc (Nat.le_refl _) _⟩
    · go_enter Tryd.func14, Tryd.ntmps14
      go_wp2
      go_ret
      exact ⟨ret_bool (by simp [known]; omega), (Below.refl _ _).alloc (Nat.le_refl _) _⟩
  unfold needs
  generalize has p 14 = a1 at *
  generalize has p 25 = a2 at *
  generalize has p 21 = a3 at *
  generalize has p 19 = a4 at *
  generalize has p 22 = a5 at *
  rcases (by omega : c = 6 ∨ c = 17 ∨ c = 18 ∨ c = 21 ∨ c = 27 ∨ c = 28 ∨ c = 29 ∨ c = 22 ∨ c = 26 ∨ c = 20) with rfl | rfl | rfl | rfl | rfl | rfl | rfl | rfl | rfl | rfl
  case inr.inr.inr.inr.inr.inr.inr.inr.inr =>
    cases old; rotate_left 1; cases ch; cases a4; cases a5; rotate_left 1; cases a3
    all_goals
      go_enter Tryd.func14, Tryd.ntmps14
      go_wp2_with (go_at_call 10; first
        | (with_reducible refine (H3.out _).mono ?_; rintro e w1 ⟨rfl, hw⟩; rw [hw]; clear hw)
        | (with_reducible refine (H4.out _).mono ?_; rintro e w1 ⟨rfl, hw⟩; rw [hw]; clear hw)
        | (with_reducible refine (H5.out _).mono ?_; rintro e w1 ⟨rfl, hw⟩; rw [hw]; clear hw))
      go_ret
      exact ⟨rfl, (Below.refl _ _).alloc (Nat.le_refl _) _⟩
  all_goals
    go_enter Tryd.func14, Tryd.ntmps14
    go_wp2_with (go_at_call 10; first
        | (with_reducible refine (H1.out _).mono ?_; rintro e w1 ⟨rfl, hw⟩; rw [hw]; clear hw)
        | (with_reducible refine (H2.out _).mono ?_; rintro e w1 ⟨rfl, hw⟩; rw [hw]; clear hw)
        | (with_reducible refine (H3.out _).mono ?_; rintro e w1 ⟨rfl, hw⟩; rw [hw]; clear hw))
    go_ret
    exact ⟨rfl, (Below.refl _ _).alloc (Nat.le_refl _) _⟩
theorem rname_any (c : Int) (w : World) : Calls Tryd.prog 12 #[.int .i64 c] w fun e w' => e = .returned (.string (nameOf c)) ∧ Below w.heap.size w w' := by
  have H := Lib.hid (rnames_any w)
  rcases (by omega : c < 0 ∨ (0 ≤ c ∧ 30 ≤ c) ∨ (0 ≤ c ∧ c < 30)) with h | ⟨h, h1⟩ | ⟨h, h1⟩
  · go_enter Tryd.func12, Tryd.ntmps12
    go_wp2
    go_ret
    exact ⟨by rw [nameOf, if_neg (by simp [known]; omega)]; rfl, Below.refl _ _⟩
  · go_enter Tryd.func12, Tryd.ntmps12
    go_wp2
    go_ret
    exact ⟨by rw [nameOf, if_neg (by simp [known]; omega)]; rfl, Below.refl _ _⟩
  · go_enter Tryd.func12, Tryd.ntmps12
    go_wp2_with (go_at_call 27; with_reducible refine H.out.mono ?_; rintro e w1 ⟨rfl, ⟨_, hn⟩, hb⟩; have hc := hn c.toNat (by omega); clear hn)
    go_ret
    exact ⟨by rw [nameOf, if_pos (by simp [known]; omega)]; rfl, hb⟩

theorem of_any (a : Option Addr) (n cap : Nat) (zs : List Int) (w : World) (hv : Ints w a n zs) (hn : n ≤ maxLen) : Calls Tryd.prog 20 #[.slice a n cap] w fun e w' => e = .returned (.int .u32 (ofL zs : Nat)) ∧ w' = w := by
  have HV := Lib.hid hv
  have HL := Lib.hid hv.1
  clear hv
  unfold maxLen at hn
  go_enter Tryd.func20, Tryd.ntmps20
  go_wp2
  go_loopw [3, 8] (fun v i wr => ∃ k : Nat, k ≤ n ∧ i = .int .i64 k ∧ v = .int .u32 (ofL (zs.take k) : Nat) ∧ wr = w) (fun _ i _ => n - (intOf i).toNat)
  case atStart => exact ⟨0, Nat.zero_le _, rfl, rfl, rfl⟩
  case round =>
    obtain ⟨k, hk, rfl, rfl, hwr⟩ := hrel
    subst hwr
    rcases Nat.lt_or_ge k n with hlt | hge
    · obtain ⟨bl, off, rfl, _, hc⟩ := HV.out.2 (by omega)
      have hck := hc k hlt
      clear hc
      have HS := Lib.hid (show (ofL (zs.take (k + 1)) : Int) = bits .or .u32 (ofL (zs.take k) : Nat) (bitOf (zs[k]?.getD 0) : Nat) from by
        rw [ints_snoc zs k (by rw [HL.out]; exact hlt), ofL_snoc, u32_or_nat _ _ (Nat.lt_trans (ofL_lt _) (by decide)) (Nat.lt_trans (bitOf_lt _) (by decide))])
      have HB := Lib.hid (bit_any (zs[k]?.getD 0))
      generalize zs[k]?.getD 0 = z at *
      generalize bitOf z = B at *
      generalize ofL (zs.take k) = O at *
      go_wp2_with (go_at_call 25; with_reducible refine (HB.out _).mono ?_; rintro e w1 ⟨rfl, hw⟩; rw [hw]; clear hw)
      go_roundw
      case rel => exact ⟨k + 1, by omega, by go_num, by rw [HS.out], by first | rfl | trivial⟩
      case measure => simp [intOf]; omega
    · obtain rfl : k = n := by omega
      go_wp2
      go_ret
      exact ⟨by rw [List.take_of_length_le (by rw [HL.out]; omega)]; rfl, rfl⟩
theorem rof_any (a : Option Addr) (n cap : Nat) (zs : List Int) (w : World) (hv : Ints w a n zs) (hn : n ≤ maxLen) : Calls Tryd.prog 21 #[.slice a n cap] w fun e w' => e = .returned (.int .u32 (ofL zs : Nat)) ∧ w' = w := by
  have HV := Lib.hid hv
  have HL := Lib.hid hv.1
  clear hv
  unfold maxLen at hn
  go_enter Tryd.func21, Tryd.ntmps21
  go_wp2
  go_loopw [3, 4] (fun v i wr => ∃ k : Nat, k ≤ n ∧ i = .int .i64 k ∧ v = .int .u32 (ofL (zs.take k) : Nat) ∧ wr = w) (fun _ i _ => n - (intOf i).toNat)
  case atStart => exact ⟨0, Nat.zero_le _, rfl, rfl, rfl⟩
  case round =>
    obtain ⟨k, hk, rfl, rfl, hwr⟩ := hrel
    subst hwr
    rcases Nat.lt_or_ge k n with hlt | hge
    · obtain ⟨bl, off, rfl, _, hc⟩ := HV.out.2 (by omega)
      have hck := hc k hlt
      clear hc
      have HS := Lib.hid (show (ofL (zs.take (k + 1)) : Int) = bits .or .u32 (ofL (zs.take k) : Nat) (bitOf (zs[k]?.getD 0) : Nat) from by
        rw [ints_snoc zs k (by rw [HL.out]; exact hlt), ofL_snoc, u32_or_nat _ _ (Nat.lt_trans (ofL_lt _) (by decide)) (Nat.lt_trans (bitOf_lt _) (by decide))])
      have HT := Lib.hid (show (ofL (zs.take (k + 1)) : Nat) = ofL (zs.take k) ||| bitOf (zs[k]?.getD 0) from by rw [ints_snoc zs k (by rw [HL.out]; exact hlt), ofL_snoc])
      generalize zs[k]?.getD 0 = z at *
      generalize ofL (zs.take k) = O at *
      rcases (by omega : z < 0 ∨ (0 ≤ z ∧ 30 ≤ z) ∨ (0 ≤ z ∧ z < 30)) with h | ⟨h, h1⟩ | ⟨h, h1⟩
      · have hb : bitOf z = 0 := by rw [bitOf, if_neg (by simp [known]; omega)]
        rw [hb, Nat.or_zero] at HT
        clear hb
        go_wp2
        go_roundw
        case rel => exact ⟨k + 1, by omega, by go_num, by rw [HT.out], by first | rfl | trivial⟩
        case measure => simp [intOf]; omega
      · have hb : bitOf z = 0 := by rw [bitOf, if_neg (by simp [known]; omega)]
        rw [hb, Nat.or_zero] at HT
        clear hb
        go_wp2
        go_roundw
        case rel => exact ⟨k + 1, by omega, by go_num, by rw [HT.out], by first | rfl | trivial⟩
        case measure => simp [intOf]; omega
      · have hb : bitOf z = 2 ^ z.toNat := by rw [bitOf, if_pos (by simp [known]; omega)]
        have hs := Lib.hid (shl_one z h h1)
        rw [hb] at HS
        clear hb
        go_wp2
        go_roundw
        case rel => exact ⟨k + 1, by omega, by go_num, by rw [HS.out, hs.out], by first | rfl | trivial⟩
        case measure => simp [intOf]; omega
    · obtain rfl : k = n := by omega
      go_wp2
      go_ret
      exact ⟨by rw [List.take_of_length_le (by rw [HL.out]; omega)]; rfl, rfl⟩

theorem list_any (p : Nat) (hp : p < 4294967296) (w : World) : Calls Tryd.prog 23 #[.int .u32 p] w
    fun e w' => ∃ v, e = .returned v ∧ w'.ownsRow w.heap.size 3 1 v (upTo p 30).length ((upTo p 30).map (Value.int .i64)) ∧ Below w.heap.size w w' := by
  obtain ⟨i0, hi, hz0, hz1, hz2⟩ := info_parts int_info
  have G1 := Lib.hid hi; have G2 := Lib.hid hz0; have G3 := Lib.hid hz1; have G4 := Lib.hid hz2
  clear hi hz0 hz1 hz2
  go_enter Tryd.func23, Tryd.ntmps23
  go_wp2
  go_loopw [3, 5] (fun v i wr => ∃ k : Nat, k ≤ 30 ∧ i = .int .i64 k ∧ Hid (wr.ownsRow w.heap.size 3 1 v (upTo p k).length ((upTo p k).map (Value.int .i64))) ∧ Hid (Below w.heap.size w wr)) (fun _ i _ => 30 - (intOf i).toNat)
  case atStart => exact ⟨0, Nat.zero_le _, rfl, Lib.hid ⟨rfl, .inl ⟨rfl, rfl⟩⟩, Lib.hid (Below.refl _ _)⟩
  case round =>
    obtain ⟨k, hk, rfl, hown, hbr⟩ := hrel
    rcases Nat.lt_or_ge k 30 with hlt | hge
    · have hk30 : (k : Int) < 30 := by omega
      have HS := Lib.hid (upTo_succ p k)
      have HL := upTo_le p k
      have hq : has p k = p.testBit k := by rw [has, show known (k : Int) = true from by simp [known]; omega, Bool.true_and, Int.toNat_natCast]
      have HC := Lib.hid (has_any p hp k)
      rw [hq] at HC
      clear hq
      generalize upTo p k = L at *
      cases hb : p.testBit k with
      | false =>
        rw [hb] at HC
        rw [hb, if_neg (by decide), List.append_nil] at HS
        clear hb
        go_wp2_with (go_at_call 9; with_reducible refine (HC.out _).mono ?_; rintro e w1 ⟨rfl, hw⟩; rw [hw]; clear hw)
        go_roundw
        case rel => exact ⟨k + 1, by omega, by go_num, by rw [HS.out]; exact hown, hbr⟩
        case measure => simp [intOf]; omega
      | true =>
        rw [hb] at HC
        rw [hb, if_pos rfl] at HS
        clear hb
        go_wp2_with (first
          | (go_at_call 9; with_reducible refine (HC.out _).mono ?_; rintro e w1 ⟨rfl, hw⟩; rw [hw]; clear hw)
          | (at_builtin; refine wpList_append_own _ rfl _ _ 23 rfl w.heap.size 3 i0 (.int .i64 0) 1 8 Tryd.underlying23 G1.out G2.out G3.out G4.out rfl (by decide) _ _ _ rfl (hown.out.alloc _) ⟨wr.heap.size, 0, none⟩ 1 1 [.int .i64 (k : Int)] rfl rfl ?c1 ?c2 ?c3 ?c4 ?c5 ?_))
        case c1 => exact news_one wr _ _
        case c2 => intro u hu; obtain rfl : u = .int .i64 (k : Int) := by simpa using hu
                   rfl
        case c3 => unfold maxLen; omega
        case c4 => omega
        case c5 => have := hbr.out.size; simp; omega
        intro v' w' hown' hgr _
        have H2 : Hid (w'.ownsRow w.heap.size 3 1 v' (upTo p (k + 1)).length ((upTo p (k + 1)).map (Value.int .i64))) := Lib.hid (by rw [HS.out]; simpa using hown')
        have H3 : Hid (Below w.heap.size w w') := Lib.hid ((hbr.out.alloc hbr.out.size _).grown hgr (by have := hbr.out.size; simp; omega) (own_base hown.out))
        clear hown' hgr hown
        go_wp2
        go_roundw
        case rel => exact ⟨k + 1, by omega, by go_num, H2, H3⟩
        case measure => simp [intOf]; omega
    · obtain rfl : k = 30 := by omega
      go_wp2
      go_ret
      exact ⟨_, rfl, hown.out, hbr.out⟩
theorem rlist_any (p : Nat) (hp : p < 4294967296) (w : World) : Calls Tryd.prog 24 #[.int .u32 p] w
    fun e w' => ∃ v, e = .returned v ∧ w'.ownsRow w.heap.size 3 1 v (upTo p 30).length ((upTo p 30).map (Value.int .i64)) ∧ Below w.heap.size w w' := by
  obtain ⟨i0, hi, hz0, hz1, hz2⟩ := info_parts int_info
  have G1 := Lib.hid hi; have G2 := Lib.hid hz0; have G3 := Lib.hid hz1; have G4 := Lib.hid hz2
  clear hi hz0 hz1 hz2
  go_enter Tryd.func24, Tryd.ntmps24
  go_wp2
  go_loopw [3, 4] (fun v i wr => ∃ k : Nat, k ≤ 30 ∧ i = .int .i64 k ∧ Hid (wr.ownsRow w.heap.size 3 1 v (upTo p k).length ((upTo p k).map (Value.int .i64))) ∧ Hid (Below w.heap.size w wr)) (fun _ i _ => 30 - (intOf i).toNat)
  case atStart => exact ⟨0, Nat.zero_le _, rfl, Lib.hid ⟨rfl, .inl ⟨rfl, rfl⟩⟩, Lib.hid (Below.refl _ _)⟩
  case round =>
    obtain ⟨k, hk, rfl, hown, hbr⟩ := hrel
    rcases Nat.lt_or_ge k 30 with hlt | hge
    · have hk30 : (k : Int) < 30 := by omega
      have HS := Lib.hid (upTo_succ p k)
      have HL := upTo_le p k
      have hq : has p k = p.testBit k := by rw [has, show known (k : Int) = true from by simp [known]; omega, Bool.true_and, Int.toNat_natCast]
      have HC := Lib.hid (rhas_any p hp k)
      rw [hq] at HC
      clear hq
      generalize upTo p k = L at *
      cases hb : p.testBit k with
      | false =>
        rw [hb] at HC
        rw [hb, if_neg (by decide), List.append_nil] at HS
        clear hb
        go_wp2_with (go_at_call 10; with_reducible refine (HC.out _).mono ?_; rintro e w1 ⟨rfl, hw⟩; rw [hw]; clear hw)
        go_roundw
        case rel => exact ⟨k + 1, by omega, by go_num, by rw [HS.out]; exact hown, hbr⟩
        case measure => simp [intOf]; omega
      | true =>
        rw [hb] at HC
        rw [hb, if_pos rfl] at HS
        clear hb
        go_wp2_with (first
          | (go_at_call 10; with_reducible refine (HC.out _).mono ?_; rintro e w1 ⟨rfl, hw⟩; rw [hw]; clear hw)
          | (at_builtin; refine wpList_append_own _ rfl _ _ 23 rfl w.heap.size 3 i0 (.int .i64 0) 1 8 Tryd.underlying23 G1.out G2.out G3.out G4.out rfl (by decide) _ _ _ rfl (hown.out.alloc _) ⟨wr.heap.size, 0, none⟩ 1 1 [.int .i64 (k : Int)] rfl rfl ?c1 ?c2 ?c3 ?c4 ?c5 ?_))
        case c1 => exact news_one wr _ _
        case c2 => intro u hu; obtain rfl : u = .int .i64 (k : Int) := by simpa using hu
                   rfl
        case c3 => unfold maxLen; omega
        case c4 => omega
        case c5 => have := hbr.out.size; simp; omega
        intro v' w' hown' hgr _
        have H2 : Hid (w'.ownsRow w.heap.size 3 1 v' (upTo p (k + 1)).length ((upTo p (k + 1)).map (Value.int .i64))) := Lib.hid (by rw [HS.out]; simpa using hown')
        have H3 : Hid (Below w.heap.size w w') := Lib.hid ((hbr.out.alloc hbr.out.size _).grown hgr (by have := hbr.out.size; simp; omega) (own_base hown.out))
        clear hown' hgr hown
        go_wp2
        go_roundw
        case rel => exact ⟨k + 1, by omega, by go_num, H2, H3⟩
        case measure => simp [intOf]; omega
    · obtain rfl : k = 30 := by omega
      go_wp2
      go_ret
      exact ⟨_, rfl, hown.out, hbr.out⟩
end code
end Go.Proofs.YtlikkpkpbjkcoaaDoor.Qk
