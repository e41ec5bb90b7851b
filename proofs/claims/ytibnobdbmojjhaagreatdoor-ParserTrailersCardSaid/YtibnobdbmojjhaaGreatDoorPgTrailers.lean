/-
  Layer 13 (parser): the law that trailers are read as fields are, and how many there may be. (Printed by tools/gen_pgtrailers.py.)
-/
import Derived.Test.YtibnobdbmojjhaaGreatDoorPgKnown
import Derived.Test.YtibnobdbmojjhaaGreatDoorPgTgtW
import Derived.Test.YtibnobdbmojjhaaGreatDoorPgFinW
namespace Go.Proofs.YtibnobdbmojjhaaGreatDoor.Pg
open Go.RowKit Base Txt Mem Par

theorem trailF_length : ∀ k, (trailF k).length = k
  | 0 => rfl
  | k + 1 => by
    show (trailF k ++ [_]).length = k + 1
    rw [List.length_append, trailF_length k]; rfl
theorem trailF_at : ∀ (k i : Nat), i < k → ∀ P : ByteArray, P.data.toList = Num.spell 10 i → ((trailF k)[i]?.getD dflt).1 = (⟨#[84]⟩ : ByteArray) ∧ ((trailF k)[i]?.getD dflt).2 = P
  | 0, _, h, _, _ => by cases h
  | k + 1, i, h, P, hP => by
    have hl := trailF_length k
    show ((trailF k ++ [(ba [84], ba (Num.spell 10 k))])[i]?.getD dflt).1 = _ ∧ ((trailF k ++ [(ba [84], ba (Num.spell 10 k))])[i]?.getD dflt).2 = P
    by_cases hi : i < k
    · rw [List.getElem?_append_left (by omega)]
      exact trailF_at k i hi P hP
    · obtain rfl : i = k := by omega
      rw [List.getElem?_append_right (by omega), hl, Nat.sub_self]
      exact ⟨rfl, Ls.ba_ext hP.symm⟩
theorem fld_inj : ∀ (l l' : List Fld), l.map (fun f => (f.1.data.toList, f.2.data.toList)) = l'.map (fun f => (f.1.data.toList, f.2.data.toList)) → l = l'
  | [], [], _ => rfl
  | [], _ :: _, h => by cases h
  | _ :: _, [], h => by cases h
  | x :: l, y :: l', h => by
    simp only [List.map_cons, List.cons.injEq, Prod.mk.injEq] at h
    obtain ⟨⟨h1, h2⟩, h3⟩ := h
    rw [fld_inj l l' h3, show x = y from Prod.ext (Ls.ba_ext h1) (Ls.ba_ext h2)]
theorem one_of (out : List Rec.R) (l : List Fld) (n : Nat) (h : out.map (fun r => (r.ts.map (fun f => (f.1.data.toList, f.2.data.toList)), r.body.length)) = [(l.map (fun f => (f.1.data.toList, f.2.data.toList)), n)]) : ∃ r, out = [r] ∧ r.ts = l ∧ r.body.length = n := by
  match out, h with
  | [], h => cases h
  | r :: rest, h =>
    simp only [List.map_cons, List.cons.injEq, Prod.mk.injEq, List.map_eq_nil_iff] at h
    obtain ⟨⟨h1, h2⟩, rfl⟩ := h
    exact ⟨r, rfl, fld_inj _ _ h1, h2⟩
theorem drew_drew (w : World) (a b : Nat) : (w.drewN a).drewN b = w.drewN (a + b) := by
  simp
theorem put_at (q : Nat) (h : q < 8) : ∃ P : ByteArray, Hid (∀ w : World, Calls Tryz.prog 37 #[.int .i64 (q : Int)] w fun e w' => e = .returned (.string P) ∧ ∃ m, w' = w.drewN m) ∧ Hid (P.data.toList = Num.spell 10 q) ∧ P.size = 1 := by
  refine ⟨Num.str (Num.spell 10 (q : Int).toNat), Lib.hid fun w => Num.rput_any (q : Int) w (by omega) (by omega), Lib.hid (by rw [Int.toNat_natCast]; rfl), ?_⟩
  rw [Int.toNat_natCast, ← len]
  show (Num.spell 10 q).length = 1
  rcases (by omega : q = 0 ∨ q = 1 ∨ q = 2 ∨ q = 3 ∨ q = 4 ∨ q = 5 ∨ q = 6 ∨ q = 7) with rfl | rfl | rfl | rfl | rfl | rfl | rfl | rfl <;> decide +kernel
section code
set_option maxHeartbeats 8000000
set_option maxRecDepth 100000
attribute [local go_sem] Base.some_undef
theorem parserTrailers_law (n most : Int) (body : Bool) (w : World) (hn : 0 ≤ n) (hm : 0 ≤ most) : Calls Tryz.prog 12 #[.int .u8 n, .int .u8 most, .bool body] w fun e w' => e = .returned (.bool true) ∧ Below w.heap.size w w' := by
  obtain ⟨k, hk, hnk⟩ := rem_of n 8 (by decide) hn
  obtain ⟨m, hmm, hmo⟩ := rem_of most 6 (by decide) hm
  have hk8 : k < 8 := by omega
  have hm6 : m < 6 := by omega
  have w2 : (-9223372036854775808 : Int) ≤ (k : Int) ∧ (k : Int) ≤ 9223372036854775807 := ⟨by omega, by omega⟩
  have w3 : (-9223372036854775808 : Int) ≤ (m : Int) ∧ (m : Int) ≤ 9223372036854775807 := ⟨by omega, by omega⟩
  have HK := Lib.hid (And.intro hnk (Rec.wraps (k : Int) w2))
  have HM := Lib.hid (And.intro hmo (Rec.wraps (m : Int) w3))
  clear hn hm hk hmm hnk hmo w2 w3
  cases body
  · go_enter Tryz.func12, Tryz.ntmps12
    go_upto_region 4 with (first
      | (go_at_call 34; with_reducible refine (Bnd.rusual_any _).mono ?_; rintro r w2 ⟨rfl, hb⟩
         have HB2 := Lib.hid (Base.below_step HB1.out hb)
         clear hb)
      | (go_at_call 15; with_reducible refine (known_any _).mono ?_; rintro r w1 ⟨rfl, hb⟩
         have HB1 := Lib.hid hb
         clear hb))
    have HZ2 := Lib.hid (Rec.Bk.new w2 w2.heap.size rfl 29 [.int .i64 1024, .int .i64 32, .int .i64 8192, .int .i64 65536, .int .i64 32, .int .i64 8, .int .i64 4, .int .i64 20, .bool true, .bool true])
    have HBW := Lib.hid (HB2.out.alloc HB2.out.size (.cells #[.int .i64 1024, .int .i64 32, .int .i64 8192, .int .i64 65536, .int .i64 32, .int .i64 8, .int .i64 4, .int .i64 20, .bool true, .bool true] 29))
    have HGB := Lib.hid HB2.out.size
    generalize w2.alloc (.cells #[.int .i64 1024, .int .i64 32, .int .i64 8192, .int .i64 65536, .int .i64 32, .int .i64 8, .int .i64 4, .int .i64 20, .bool true, .bool true] 29) = W2 at *
    generalize w2.heap.size = gB at *
    have y5 := HZ2.out.c 5 _ rfl; have z5 := HZ2.out.z 5 (by simp)
    obtain ⟨f1, f2, f3⟩ := HM.out
    obtain ⟨g1, g2, g3⟩ := HK.out
    go_upto_region 11 with fail
    clear f1 f2 f3 g1 g2 g3 y5 z5
    have HZ3 := Lib.hid (HZ2.out.set 5 (.int .i64 (m : Int)) (by simp))
    have HB3 := Lib.hid (show Below w.heap.size w (W2.setCell ⟨gB, 5, none⟩ (.int .i64 (m : Int))) from HBW.out.setCell HGB.out _)
    generalize W2.setCell ⟨gB, 5, none⟩ (.int .i64 (m : Int)) = W3 at *
    go_loopw [8, 10] (fun s i wr => ∃ (q d : Nat) (S : ByteArray), q ≤ k ∧ i = .int .i64 q ∧ s = .string S ∧ S.size ≤ 100 + 6 * q ∧ wr = W3.drewN d ∧ Hid (S.data.toList = trailL false q)) (fun _ i _ => k - (intOf i).toNat)
    case atStart => exact ⟨0, 0, _, Nat.zero_le _, rfl, rfl, by decide, rfl, Lib.hid rfl⟩
    case round =>
      obtain ⟨q, d, S, hq, rfl, rfl, hS, hwr, hL⟩ := hrel
      have HWR := Lib.hid hwr
      clear hwr
      rcases Nat.lt_or_ge q k with hlt | hge
      · have t1 : (q : Int) < (k : Int) := by omega
        have hq8 : q < 8 := by omega
        obtain ⟨P, HPU, HPL, hPs⟩ := put_at q hq8
        have v1 : ¬ 9223372036854775807 < S.size + 3 := by omega
        have v2 : ¬ 9223372036854775807 < S.size + 3 + 1 := by omega
        have v3 : ¬ 9223372036854775807 < S.size + 3 + 1 + 2 := by omega
        have HL2 : Hid ((((S ++ (⟨#[84, 58, 32]⟩ : ByteArray)) ++ P) ++ (⟨#[13, 10]⟩ : ByteArray)).data.toList = trailL false (q + 1)) := Lib.hid (by
          simp only [ByteArray.data_append, Array.toList_append, hL.out, HPL.out]
          unfold trailL
          show _ = _ ++ (trailsL q ++ ([84, 58, 32] ++ Num.spell 10 q ++ [13, 10]))
          simp only [List.append_assoc])
        have HSZ : Hid ((((S ++ (⟨#[84, 58, 32]⟩ : ByteArray)) ++ P) ++ (⟨#[13, 10]⟩ : ByteArray)).size ≤ 100 + 6 * (q + 1)) := Lib.hid (by
          simp only [ByteArray.size_append, hPs, len_mk, List.length_cons, List.length_nil]; omega)
        go_wp2_with (go_at_call 37; with_reducible refine (HPU.out _).mono ?_; rintro r w3 ⟨rfl, mk, rfl⟩)
        go_roundw
        case rel => exact ⟨q + 1, d + mk, _, by omega, by go_num, rfl, HSZ.out, by rw [HWR.out]; exact drew_drew _ _ _, HL2⟩
        case measure => simp [intOf]; omega
      · obtain rfl : q = k := by omega
        have t1 : ¬ (q : Int) < (q : Int) := by omega
        have v1 : ¬ 9223372036854775807 < S.size + 2 := by omega
        have HBR := Lib.hid (show Below w.heap.size w wr by rw [HWR.out]; exact Base.below_drewN HB3.out d)
        have HZR := Lib.hid (show Rec.Bk wr gB [.int .i64 1024, .int .i64 32, .int .i64 8192, .int .i64 65536, .int .i64 32, .int .i64 (m : Int), .int .i64 4, .int .i64 20, .bool true, .bool true] by rw [HWR.out]; exact HZ3.out.drew d)
        obtain ⟨N, hN⟩ : ∃ N, S.size = N := ⟨_, rfl⟩
        obtain ⟨W5, cap, hcv, hby, hlt5, hb5⟩ := By.conv_bytes (S ++ (⟨#[13, 10]⟩ : ByteArray)) wr
        have hsz3 : (S ++ (⟨#[13, 10]⟩ : ByteArray)).size = N + 2 := by rw [ByteArray.size_append, hN]; rfl
        have hl3 : (S ++ (⟨#[13, 10]⟩ : ByteArray)).data.toList = trailL false q ++ [13, 10] := by rw [ByteArray.data_append, Array.toList_append, hL.out]
        have hbt := Bts.conv (L := []) (in_nil wr) _ hby hlt5
        have hlen : (trailL false q ++ [13, 10]).length = N + 2 := by rw [← hl3, len]; exact hsz3
        rw [hl3] at hbt
        rw [hsz3] at hcv
        have k3 := trails_all ⟨m, hm6⟩ ⟨q, hk8⟩ false
        have y0 := HZR.out.c 0 _ rfl; have y1 := HZR.out.c 1 _ rfl; have y2 := HZR.out.c 2 _ rfl; have y3 := HZR.out.c 3 _ rfl; have y4 := HZR.out.c 4 _ rfl; have y5 := HZR.out.c 5 _ rfl; have y6 := HZR.out.c 6 _ rfl; have y7 := HZR.out.c 7 _ rfl; have y8 := HZR.out.c 8 _ rfl; have y9 := HZR.out.c 9 _ rfl
        by_cases hov : m < q
        · have k3 : (Q.read 0 (trailB (m : Int)) (trailL false q ++ [13, 10])).err = 431 ∧ (Q.read 0 (trailB (m : Int)) (trailL false q ++ [13, 10])).out.length = 0 := by rw [if_pos hov] at k3; exact k3
          obtain ⟨cl, hcl⟩ : ∃ cl, (Q.read 0 (trailB (m : Int)) (trailL false q ++ [13, 10])).clean = cl := ⟨_, rfl⟩
          have hrd := read_said (p := 0) (by decide) (trailB (m : Int)) W5 _ cap _ hbt (by rw [hlen]; omega) 431 cl [] k3.1 hcl (List.eq_nil_of_length_eq_zero k3.2)
          rw [hlen] at hrd
          have HRD := Lib.hid (show Calls Tryz.prog 32 #[.int .u32 0, .agg #[.int .i64 1024, .int .i64 32, .int .i64 8192, .int .i64 65536, .int .i64 32, .int .i64 (m : Int), .int .i64 4, .int .i64 20, .bool true, .bool true], .slice (some ⟨wr.heap.size, 0, none⟩) (N + 2) cap] W5 fun r w' => ∃ o, r = .returned (.tuple #[o, .int .i64 431, .bool cl]) ∧ Said w' o [] ∧ Below W5.heap.size W5 w' from hrd)
          have HB5 := Lib.hid hb5
          have t9 : (m : Int) < (q : Int) := by omega
          clear hby hlt5 hb5 hsz3 hl3 hbt hlen k3 hrd hcl hov hS hL
          go_wp2_with
            (go_at_call 32; with_reducible refine HRD.out.mono ?_; rintro r w6 ⟨o, rfl, hT, hb⟩
             have hb6 := HB5.out.trans (hb.mono HB5.out.size)
             have x5 := (HZR.out.below hb6).c 5 _ rfl
             obtain ⟨a8, c8, e8, -⟩ := hT
             have e8 : o = .slice a8 0 c8 := e8
             subst e8
             have HB6 := Lib.hid hb6
             clear hb hb6 y0 y1 y2 y3 y4 y5 y6 y7 y8 y9)
          go_ret
          exact ⟨rfl, Base.below_step HBR.out HB6.out⟩
        · have k3 : (Q.read 0 (trailB (m : Int)) (trailL false q ++ [13, 10])).err = 0 ∧ (Q.read 0 (trailB (m : Int)) (trailL false q ++ [13, 10])).clean = true ∧
              (Q.read 0 (trailB (m : Int)) (trailL false q ++ [13, 10])).out.map (fun r => (r.ts.map (fun f => (f.1.data.toList, f.2.data.toList)), r.body.length)) = [((trailF q).map (fun f => (f.1.data.toList, f.2.data.toList)), if false = true then 2 else 0)] := by rw [if_neg hov] at k3; exact k3
          obtain ⟨r1, ho1, hts, hbd⟩ := one_of _ _ _ k3.2.2
          have hrd := read_said (p := 0) (by decide) (trailB (m : Int)) W5 _ cap _ hbt (by rw [hlen]; omega) 0 true [r1] k3.1 k3.2.1 ho1
          rw [hlen] at hrd
          have HRD := Lib.hid (show Calls Tryz.prog 32 #[.int .u32 0, .agg #[.int .i64 1024, .int .i64 32, .int .i64 8192, .int .i64 65536, .int .i64 32, .int .i64 (m : Int), .int .i64 4, .int .i64 20, .bool true, .bool true], .slice (some ⟨wr.heap.size, 0, none⟩) (N + 2) cap] W5 fun r w' => ∃ o, r = .returned (.tuple #[o, .int .i64 0, .bool true]) ∧ Said w' o [r1] ∧ Below W5.heap.size W5 w' from hrd)
          have HB5 := Lib.hid hb5
          have HTS := Lib.hid hts; have HBD := Lib.hid (show r1.body.length = 0 from hbd)
          have htl : r1.ts.length = q := by rw [hts]; exact trailF_length q
          have HTL := Lib.hid htl
          have t9 : ¬ (m : Int) < (q : Int) := by omega
          clear hby hlt5 hb5 hsz3 hl3 hbt hlen k3 hrd hov hS hL ho1 hts hbd htl
          go_upto_region 20 with
            (go_at_call 32; with_reducible refine HRD.out.mono ?_; rintro r w6 ⟨o, rfl, hT, hb⟩
             have hb6 := HB5.out.trans (hb.mono HB5.out.size)
             have x5 := (HZR.out.below hb6).c 5 _ rfl
             obtain ⟨a8, c1, e8, hc8⟩ := hT
             obtain ⟨bk, rfl, hbk, hr8⟩ := hc8 Nat.zero_lt_one
             obtain ⟨fa, fc, ba1, bc, ta, tc, p1, p2, p3, d0, d1, d2, d3, d4, d5, d6⟩ := hr8 0 Nat.zero_lt_one
             have e8 : o = .slice (some ⟨bk, 0, none⟩) 1 c1 := e8
             subst e8
             replace d5 : w6.cell? ⟨bk, 0 + 5, none⟩ = some (.slice ba1 r1.body.length bc) := d5
             rw [HBD.out] at d5
             replace d6 : w6.cell? ⟨bk, 0 + 6, none⟩ = some (.slice ta r1.ts.length tc) := d6
             rw [HTL.out] at d6
             have HB6 := Lib.hid hb6; have HBK := Lib.hid hbk; have HD6 := Lib.hid d6; have HP3 := Lib.hid (show Flds w6 ta r1.ts.length r1.ts from p3)
             clear hb hb6 p1 p2 p3 d0 d1 d2 d3 d4 hc8 hr8 y0 y1 y2 y3 y4 y5 y6 y7 y8 y9)
          clear HRD x5 d5 d6 t9
          go_loopw [14] (fun i wq => ∃ i9 : Nat, i9 ≤ q ∧ i = .int .i64 i9 ∧ Hid (Below w6.heap.size w6 wq)) (fun i _ => q - (intOf i).toNat)
          case atStart => exact ⟨0, Nat.zero_le _, rfl, Lib.hid (Below.refl _ _)⟩
          case round =>
            obtain ⟨i, hi, rfl, hbr⟩ := hrel
            rcases Nat.lt_or_ge i q with hlt | hge
            · have t1 : (i : Int) < (q : Int) := by omega
              obtain ⟨P, HPU, HPL, hPs⟩ := put_at i (by omega)
              have hp3 := HP3.out
              rw [HTS.out, trailF_length] at hp3
              obtain ⟨tb, toff, rfl, htb, hcs⟩ := hp3.2 (by omega)
              have hci := hcs i hlt
              obtain ⟨e1, e2⟩ := trailF_at q i hlt P HPL.out
              rw [e1, e2] at hci
              have hbd := Base.below_drewN hbr.out 1
              have HC0 := Lib.hid ((hbd.cell (p := ⟨tb, toff + i * 2, none⟩) htb).trans hci.1); have HC1 := Lib.hid ((hbd.cell (p := ⟨tb, toff + i * 2 + 1, none⟩) htb).trans hci.2)
              have HTB := Lib.hid (Nat.lt_of_lt_of_le htb hbd.size)
              have HD9 := Lib.hid ((hbd.cell (p := ⟨bk, 0 + 6, none⟩) HBK.out).trans HD6.out)
              have HBK9 := Lib.hid (Nat.lt_of_lt_of_le HBK.out hbd.size)
              have HIK := Lib.hid hlt
              clear hp3 hcs hci e1 e2 hbd htb hlt hPs
              go_upto_region 22 with fail
              refine Each.region_all 11 [96, 97, 98, 99, 100, 101, 102, 103, 104, 105, 106]
                  [fun v _ => v = .slice (some ⟨bk, 0, none⟩) 1 c1,
                    fun v _ => v = .pointer (some ⟨bk, 0, none⟩),
                    fun v _ => v = .pointer (some ⟨bk, 6, none⟩),
                    fun v _ => v = .slice (some ⟨tb, toff, none⟩) q tc,
                    fun v _ => v = .int .i64 (i : Int),
                    fun v _ => v = .pointer (some ⟨tb, toff + i * 2, none⟩),
                    fun v _ => v = .agg #[.string ⟨#[84]⟩, .string P],
                    fun v _ => v = .int .i64 (i : Int),
                    fun v _ => v = .string P,
                    fun v _ => v = .agg #[.string ⟨#[84]⟩, .string P],
                    fun v _ => v = .bool false]
                   (by kernel_rfl) (by kernel_rfl) (by kernel_rfl) (by kernel_rfl) (fun _ _ d _ _ h => by cases d <;> exact h) (by rfl) (by rfl)
                  ⟨Each.Lasts.eq _, Each.Lasts.eq _, Each.Lasts.eq _, Each.Lasts.eq _, Each.Lasts.eq _, Each.Lasts.eq _, Each.Lasts.eq _, Each.Lasts.eq _, Each.Lasts.eq _, Each.Lasts.eq _, Each.Lasts.eq _, trivial⟩ ?_ ?_
              · refine ⟨?_, ?_, ?_, ?_, ?_, ?_, ?_, ?_, ?_, ?_, ?_, trivial⟩
                · refine Each.fine rfl (fun ev w1 hR hb hh => ?_)
                  clear hh
                  have e11 := hR.old 11 rfl
                  simp only [Array.getD_eq_getD_getElem?, List.getElem?_toArray, List.getElem?_cons_succ, List.getElem?_cons_zero, Option.getD_some] at e11
                  refine Each.Goes.same ?_
                  go_simp
                  try with_reducible rfl
                · refine Each.fine rfl (fun ev w1 hR hb hh => ?_)
                  have e96 : (ev (.tmp 96) = .slice (some ⟨bk, 0, none⟩) 1 c1) := hh.at 0
                  clear hh
                  have ec := hR.const
                  refine Each.Goes.same ?_
                  go_simp
                  try with_reducible rfl
                · refine Each.fine rfl (fun ev w1 hR hb hh => ?_)
                  have e97 : (ev (.tmp 97) = .pointer (some ⟨bk, 0, none⟩)) := hh.at 0
                  clear hh
                  refine Each.Goes.same ?_
                  go_simp
                  try with_reducible rfl
                · refine Each.fine rfl (fun ev w1 hR hb hh => ?_)
                  have e98 : (ev (.tmp 98) = .pointer (some ⟨bk, 6, none⟩)) := hh.at 0
                  clear hh
                  have q6 := (hb.cell (p := ⟨bk, 0 + 6, none⟩) HBK9.out).trans HD9.out
                  refine Each.Goes.same ?_
                  go_simp
                  try with_reducible rfl
                · refine Each.fine rfl (fun ev w1 hR hb hh => ?_)
                  clear hh
                  have e14 := hR.old 14 rfl
                  simp only [Array.getD_eq_getD_getElem?, List.getElem?_toArray, List.getElem?_cons_succ, List.getElem?_cons_zero, Option.getD_some] at e14
                  refine Each.Goes.same ?_
                  go_simp
                  try with_reducible rfl
                · refine Each.fine rfl (fun ev w1 hR hb hh => ?_)
                  have e99 : (ev (.tmp 99) = .slice (some ⟨tb, toff, none⟩) q tc) := hh.at 0
                  have e100 : (ev (.tmp 100) = .int .i64 (i : Int)) := hh.at 1
                  clear hh
                  have j1 := HIK.out
                  have j2 : (i : Int) < (q : Int) := by omega
                  refine Each.Goes.same ?_
                  go_simp
                  try with_reducible rfl
                · refine Each.fine rfl (fun ev w1 hR hb hh => ?_)
                  have e101 : (ev (.tmp 101) = .pointer (some ⟨tb, toff + i * 2, none⟩)) := hh.at 0
                  clear hh
                  have y0 := (hb.cell (p := ⟨tb, toff + i * 2, none⟩) HTB.out).trans HC0.out; have y1 := (hb.cell (p := ⟨tb, toff + i * 2 + 1, none⟩) HTB.out).trans HC1.out
                  refine Each.Goes.same ?_
                  go_simp
                  try with_reducible rfl
                · refine Each.fine rfl (fun ev w1 hR hb hh => ?_)
                  clear hh
                  have e14 := hR.old 14 rfl
                  simp only [Array.getD_eq_getD_getElem?, List.getElem?_toArray, List.getElem?_cons_succ, List.getElem?_cons_zero, Option.getD_some] at e14
                  refine Each.Goes.same ?_
                  go_simp
                  try with_reducible rfl
                · refine Each.fine rfl (fun ev w1 hR hb hh => ?_)
                  have e103 : (ev (.tmp 103) = .int .i64 (i : Int)) := hh.at 0
                  clear hh
                  have ef := hR.func
                  refine Each.Goes.enter 37 #[.int .i64 (i : Int)] (by go_simp) ((HPU.out w1).mono ?_)
                  rintro r w2 ⟨rfl, mk, rfl⟩
                  exact ⟨_, rfl, Base.below_drewN (Below.refl _ _) mk, rfl⟩
                · refine Each.fine rfl (fun ev w1 hR hb hh => ?_)
                  have e104 : (ev (.tmp 104) = .string P) := hh.at 0
                  clear hh
                  have ec := hR.const
                  refine Each.Goes.same ?_
                  go_simp
                  try with_reducible rfl
                · refine Each.fine rfl (fun ev w1 hR hb hh => ?_)
                  have e102 : (ev (.tmp 102) = .agg #[.string ⟨#[84]⟩, .string P]) := hh.at 0
                  have e105 : (ev (.tmp 105) = .agg #[.string ⟨#[84]⟩, .string P]) := hh.at 1
                  clear hh
                  refine Each.Goes.same ?_
                  go_simp
                  try with_reducible rfl
              intro g1 w7 hb hf
              have z106 : (g1 106 = .bool false) := hf.at 10
              clear hf
              simp only [Each.putg, Act.put, List.setIfInBounds_toArray, List.set_cons_zero, List.set_cons_succ]
              rw [z106]
              go_wp2_with fail
              go_roundw
              case rel => exact ⟨i + 1, by have := HIK.out; omega, by go_num, Lib.hid (Base.below_step hbr.out hb)⟩
              case measure => have := HIK.out; simp [intOf]; omega
            · obtain rfl : i = q := by omega
              have t1 : ¬ (i : Int) < (i : Int) := by omega
              go_wp2_with fail
              go_ret
              exact ⟨rfl, Base.below_step (Base.below_step HBR.out HB6.out) hbr.out⟩
  · go_enter Tryz.func12, Tryz.ntmps12
    go_upto_region 4 with (first
      | (go_at_call 34; with_reducible refine (Bnd.rusual_any _).mono ?_; rintro r w2 ⟨rfl, hb⟩
         have HB2 := Lib.hid (Base.below_step HB1.out hb)
         clear hb)
      | (go_at_call 15; with_reducible refine (known_any _).mono ?_; rintro r w1 ⟨rfl, hb⟩
         have HB1 := Lib.hid hb
         clear hb))
    have HZ2 := Lib.hid (Rec.Bk.new w2 w2.heap.size rfl 29 [.int .i64 1024, .int .i64 32, .int .i64 8192, .int .i64 65536, .int .i64 32, .int .i64 8, .int .i64 4, .int .i64 20, .bool true, .bool true])
    have HBW := Lib.hid (HB2.out.alloc HB2.out.size (.cells #[.int .i64 1024, .int .i64 32, .int .i64 8192, .int .i64 65536, .int .i64 32, .int .i64 8, .int .i64 4, .int .i64 20, .bool true, .bool true] 29))
    have HGB := Lib.hid HB2.out.size
    generalize w2.alloc (.cells #[.int .i64 1024, .int .i64 32, .int .i64 8192, .int .i64 65536, .int .i64 32, .int .i64 8, .int .i64 4, .int .i64 20, .bool true, .bool true] 29) = W2 at *
    generalize w2.heap.size = gB at *
    have y5 := HZ2.out.c 5 _ rfl; have z5 := HZ2.out.z 5 (by simp)
    obtain ⟨f1, f2, f3⟩ := HM.out
    obtain ⟨g1, g2, g3⟩ := HK.out
    go_upto_region 11 with fail
    clear f1 f2 f3 g1 g2 g3 y5 z5
    have HZ3 := Lib.hid (HZ2.out.set 5 (.int .i64 (m : Int)) (by simp))
    have HB3 := Lib.hid (show Below w.heap.size w (W2.setCell ⟨gB, 5, none⟩ (.int .i64 (m : Int))) from HBW.out.setCell HGB.out _)
    generalize W2.setCell ⟨gB, 5, none⟩ (.int .i64 (m : Int)) = W3 at *
    go_loopw [8, 10] (fun s i wr => ∃ (q d : Nat) (S : ByteArray), q ≤ k ∧ i = .int .i64 q ∧ s = .string S ∧ S.size ≤ 100 + 6 * q ∧ wr = W3.drewN d ∧ Hid (S.data.toList = trailL true q)) (fun _ i _ => k - (intOf i).toNat)
    case atStart => exact ⟨0, 0, _, Nat.zero_le _, rfl, rfl, by decide, rfl, Lib.hid rfl⟩
    case round =>
      obtain ⟨q, d, S, hq, rfl, rfl, hS, hwr, hL⟩ := hrel
      have HWR := Lib.hid hwr
      clear hwr
      rcases Nat.lt_or_ge q k with hlt | hge
      · have t1 : (q : Int) < (k : Int) := by omega
        have hq8 : q < 8 := by omega
        obtain ⟨P, HPU, HPL, hPs⟩ := put_at q hq8
        have v1 : ¬ 9223372036854775807 < S.size + 3 := by omega
        have v2 : ¬ 9223372036854775807 < S.size + 3 + 1 := by omega
        have v3 : ¬ 9223372036854775807 < S.size + 3 + 1 + 2 := by omega
        have HL2 : Hid ((((S ++ (⟨#[84, 58, 32]⟩ : ByteArray)) ++ P) ++ (⟨#[13, 10]⟩ : ByteArray)).data.toList = trailL true (q + 1)) := Lib.hid (by
          simp only [ByteArray.data_append, Array.toList_append, hL.out, HPL.out]
          unfold trailL
          show _ = _ ++ (trailsL q ++ ([84, 58, 32] ++ Num.spell 10 q ++ [13, 10]))
          simp only [List.append_assoc])
        have HSZ : Hid ((((S ++ (⟨#[84, 58, 32]⟩ : ByteArray)) ++ P) ++ (⟨#[13, 10]⟩ : ByteArray)).size ≤ 100 + 6 * (q + 1)) := Lib.hid (by
          simp only [ByteArray.size_append, hPs, len_mk, List.length_cons, List.length_nil]; omega)
        go_wp2_with (go_at_call 37; with_reducible refine (HPU.out _).mono ?_; rintro r w3 ⟨rfl, mk, rfl⟩)
        go_roundw
        case rel => exact ⟨q + 1, d + mk, _, by omega, by go_num, rfl, HSZ.out, by rw [HWR.out]; exact drew_drew _ _ _, HL2⟩
        case measure => simp [intOf]; omega
      · obtain rfl : q = k := by omega
        have t1 : ¬ (q : Int) < (q : Int) := by omega
        have v1 : ¬ 9223372036854775807 < S.size + 2 := by omega
        have HBR := Lib.hid (show Below w.heap.size w wr by rw [HWR.out]; exact Base.below_drewN HB3.out d)
        have HZR := Lib.hid (show Rec.Bk wr gB [.int .i64 1024, .int .i64 32, .int .i64 8192, .int .i64 65536, .int .i64 32, .int .i64 (m : Int), .int .i64 4, .int .i64 20, .bool true, .bool true] by rw [HWR.out]; exact HZ3.out.drew d)
        obtain ⟨N, hN⟩ : ∃ N, S.size = N := ⟨_, rfl⟩
        obtain ⟨W5, cap, hcv, hby, hlt5, hb5⟩ := By.conv_bytes (S ++ (⟨#[13, 10]⟩ : ByteArray)) wr
        have hsz3 : (S ++ (⟨#[13, 10]⟩ : ByteArray)).size = N + 2 := by rw [ByteArray.size_append, hN]; rfl
        have hl3 : (S ++ (⟨#[13, 10]⟩ : ByteArray)).data.toList = trailL true q ++ [13, 10] := by rw [ByteArray.data_append, Array.toList_append, hL.out]
        have hbt := Bts.conv (L := []) (in_nil wr) _ hby hlt5
        have hlen : (trailL true q ++ [13, 10]).length = N + 2 := by rw [← hl3, len]; exact hsz3
        rw [hl3] at hbt
        rw [hsz3] at hcv
        have k3 := trails_all ⟨m, hm6⟩ ⟨q, hk8⟩ true
        have y0 := HZR.out.c 0 _ rfl; have y1 := HZR.out.c 1 _ rfl; have y2 := HZR.out.c 2 _ rfl; have y3 := HZR.out.c 3 _ rfl; have y4 := HZR.out.c 4 _ rfl; have y5 := HZR.out.c 5 _ rfl; have y6 := HZR.out.c 6 _ rfl; have y7 := HZR.out.c 7 _ rfl; have y8 := HZR.out.c 8 _ rfl; have y9 := HZR.out.c 9 _ rfl
        by_cases hov : m < q
        · have k3 : (Q.read 0 (trailB (m : Int)) (trailL true q ++ [13, 10])).err = 431 ∧ (Q.read 0 (trailB (m : Int)) (trailL true q ++ [13, 10])).out.length = 0 := by rw [if_pos hov] at k3; exact k3
          obtain ⟨cl, hcl⟩ : ∃ cl, (Q.read 0 (trailB (m : Int)) (trailL true q ++ [13, 10])).clean = cl := ⟨_, rfl⟩
          have hrd := read_said (p := 0) (by decide) (trailB (m : Int)) W5 _ cap _ hbt (by rw [hlen]; omega) 431 cl [] k3.1 hcl (List.eq_nil_of_length_eq_zero k3.2)
          rw [hlen] at hrd
          have HRD := Lib.hid (show Calls Tryz.prog 32 #[.int .u32 0, .agg #[.int .i64 1024, .int .i64 32, .int .i64 8192, .int .i64 65536, .int .i64 32, .int .i64 (m : Int), .int .i64 4, .int .i64 20, .bool true, .bool true], .slice (some ⟨wr.heap.size, 0, none⟩) (N + 2) cap] W5 fun r w' => ∃ o, r = .returned (.tuple #[o, .int .i64 431, .bool cl]) ∧ Said w' o [] ∧ Below W5.heap.size W5 w' from hrd)
          have HB5 := Lib.hid hb5
          have t9 : (m : Int) < (q : Int) := by omega
          clear hby hlt5 hb5 hsz3 hl3 hbt hlen k3 hrd hcl hov hS hL
          go_wp2_with
            (go_at_call 32; with_reducible refine HRD.out.mono ?_; rintro r w6 ⟨o, rfl, hT, hb⟩
             have hb6 := HB5.out.trans (hb.mono HB5.out.size)
             have x5 := (HZR.out.below hb6).c 5 _ rfl
             obtain ⟨a8, c8, e8, -⟩ := hT
             have e8 : o = .slice a8 0 c8 := e8
             subst e8
             have HB6 := Lib.hid hb6
             clear hb hb6 y0 y1 y2 y3 y4 y5 y6 y7 y8 y9)
          go_ret
          exact ⟨rfl, Base.below_step HBR.out HB6.out⟩
        · have k3 : (Q.read 0 (trailB (m : Int)) (trailL true q ++ [13, 10])).err = 0 ∧ (Q.read 0 (trailB (m : Int)) (trailL true q ++ [13, 10])).clean = true ∧
              (Q.read 0 (trailB (m : Int)) (trailL true q ++ [13, 10])).out.map (fun r => (r.ts.map (fun f => (f.1.data.toList, f.2.data.toList)), r.body.length)) = [((trailF q).map (fun f => (f.1.data.toList, f.2.data.toList)), if true = true then 2 else 0)] := by rw [if_neg hov] at k3; exact k3
          obtain ⟨r1, ho1, hts, hbd⟩ := one_of _ _ _ k3.2.2
          have hrd := read_said (p := 0) (by decide) (trailB (m : Int)) W5 _ cap _ hbt (by rw [hlen]; omega) 0 true [r1] k3.1 k3.2.1 ho1
          rw [hlen] at hrd
          have HRD := Lib.hid (show Calls Tryz.prog 32 #[.int .u32 0, .agg #[.int .i64 1024, .int .i64 32, .int .i64 8192, .int .i64 65536, .int .i64 32, .int .i64 (m : Int), .int .i64 4, .int .i64 20, .bool true, .bool true], .slice (some ⟨wr.heap.size, 0, none⟩) (N + 2) cap] W5 fun r w' => ∃ o, r = .returned (.tuple #[o, .int .i64 0, .bool true]) ∧ Said w' o [r1] ∧ Below W5.heap.size W5 w' from hrd)
          have HB5 := Lib.hid hb5
          have HTS := Lib.hid hts; have HBD := Lib.hid (show r1.body.length = 2 from hbd)
          have htl : r1.ts.length = q := by rw [hts]; exact trailF_length q
          have HTL := Lib.hid htl
          have t9 : ¬ (m : Int) < (q : Int) := by omega
          clear hby hlt5 hb5 hsz3 hl3 hbt hlen k3 hrd hov hS hL ho1 hts hbd htl
          go_upto_region 20 with
            (go_at_call 32; with_reducible refine HRD.out.mono ?_; rintro r w6 ⟨o, rfl, hT, hb⟩
             have hb6 := HB5.out.trans (hb.mono HB5.out.size)
             have x5 := (HZR.out.below hb6).c 5 _ rfl
             obtain ⟨a8, c1, e8, hc8⟩ := hT
             obtain ⟨bk, rfl, hbk, hr8⟩ := hc8 Nat.zero_lt_one
             obtain ⟨fa, fc, ba1, bc, ta, tc, p1, p2, p3, d0, d1, d2, d3, d4, d5, d6⟩ := hr8 0 Nat.zero_lt_one
             have e8 : o = .slice (some ⟨bk, 0, none⟩) 1 c1 := e8
             subst e8
             replace d5 : w6.cell? ⟨bk, 0 + 5, none⟩ = some (.slice ba1 r1.body.length bc) := d5
             rw [HBD.out] at d5
             replace d6 : w6.cell? ⟨bk, 0 + 6, none⟩ = some (.slice ta r1.ts.length tc) := d6
             rw [HTL.out] at d6
             have HB6 := Lib.hid hb6; have HBK := Lib.hid hbk; have HD6 := Lib.hid d6; have HP3 := Lib.hid (show Flds w6 ta r1.ts.length r1.ts from p3)
             clear hb hb6 p1 p2 p3 d0 d1 d2 d3 d4 hc8 hr8 y0 y1 y2 y3 y4 y5 y6 y7 y8 y9)
          clear HRD x5 d5 d6 t9
          go_loopw [14] (fun i wq => ∃ i9 : Nat, i9 ≤ q ∧ i = .int .i64 i9 ∧ Hid (Below w6.heap.size w6 wq)) (fun i _ => q - (intOf i).toNat)
          case atStart => exact ⟨0, Nat.zero_le _, rfl, Lib.hid (Below.refl _ _)⟩
          case round =>
            obtain ⟨i, hi, rfl, hbr⟩ := hrel
            rcases Nat.lt_or_ge i q with hlt | hge
            · have t1 : (i : Int) < (q : Int) := by omega
              obtain ⟨P, HPU, HPL, hPs⟩ := put_at i (by omega)
              have hp3 := HP3.out
              rw [HTS.out, trailF_length] at hp3
              obtain ⟨tb, toff, rfl, htb, hcs⟩ := hp3.2 (by omega)
              have hci := hcs i hlt
              obtain ⟨e1, e2⟩ := trailF_at q i hlt P HPL.out
              rw [e1, e2] at hci
              have hbd := Base.below_drewN hbr.out 1
              have HC0 := Lib.hid ((hbd.cell (p := ⟨tb, toff + i * 2, none⟩) htb).trans hci.1); have HC1 := Lib.hid ((hbd.cell (p := ⟨tb, toff + i * 2 + 1, none⟩) htb).trans hci.2)
              have HTB := Lib.hid (Nat.lt_of_lt_of_le htb hbd.size)
              have HD9 := Lib.hid ((hbd.cell (p := ⟨bk, 0 + 6, none⟩) HBK.out).trans HD6.out)
              have HBK9 := Lib.hid (Nat.lt_of_lt_of_le HBK.out hbd.size)
              have HIK := Lib.hid hlt
              clear hp3 hcs hci e1 e2 hbd htb hlt hPs
              go_upto_region 22 with fail
              refine Each.region_all 11 [96, 97, 98, 99, 100, 101, 102, 103, 104, 105, 106]
                  [fun v _ => v = .slice (some ⟨bk, 0, none⟩) 1 c1,
                    fun v _ => v = .pointer (some ⟨bk, 0, none⟩),
                    fun v _ => v = .pointer (some ⟨bk, 6, none⟩),
                    fun v _ => v = .slice (some ⟨tb, toff, none⟩) q tc,
                    fun v _ => v = .int .i64 (i : Int),
                    fun v _ => v = .pointer (some ⟨tb, toff + i * 2, none⟩),
                    fun v _ => v = .agg #[.string ⟨#[84]⟩, .string P],
                    fun v _ => v = .int .i64 (i : Int),
                    fun v _ => v = .string P,
                    fun v _ => v = .agg #[.string ⟨#[84]⟩, .string P],
                    fun v _ => v = .bool false]
                   (by kernel_rfl) (by kernel_rfl) (by kernel_rfl) (by kernel_rfl) (fun _ _ d _ _ h => by cases d <;> exact h) (by rfl) (by rfl)
                  ⟨Each.Lasts.eq _, Each.Lasts.eq _, Each.Lasts.eq _, Each.Lasts.eq _, Each.Lasts.eq _, Each.Lasts.eq _, Each.Lasts.eq _, Each.Lasts.eq _, Each.Lasts.eq _, Each.Lasts.eq _, Each.Lasts.eq _, trivial⟩ ?_ ?_
              · refine ⟨?_, ?_, ?_, ?_, ?_, ?_, ?_, ?_, ?_, ?_, ?_, trivial⟩
                · refine Each.fine rfl (fun ev w1 hR hb hh => ?_)
                  clear hh
                  have e11 := hR.old 11 rfl
                  simp only [Array.getD_eq_getD_getElem?, List.getElem?_toArray, List.getElem?_cons_succ, List.getElem?_cons_zero, Option.getD_some] at e11
                  refine Each.Goes.same ?_
                  go_simp
                  try with_reducible rfl
                · refine Each.fine rfl (fun ev w1 hR hb hh => ?_)
                  have e96 : (ev (.tmp 96) = .slice (some ⟨bk, 0, none⟩) 1 c1) := hh.at 0
                  clear hh
                  have ec := hR.const
                  refine Each.Goes.same ?_
                  go_simp
                  try with_reducible rfl
                · refine Each.fine rfl (fun ev w1 hR hb hh => ?_)
                  have e97 : (ev (.tmp 97) = .pointer (some ⟨bk, 0, none⟩)) := hh.at 0
                  clear hh
                  refine Each.Goes.same ?_
                  go_simp
                  try with_reducible rfl
                · refine Each.fine rfl (fun ev w1 hR hb hh => ?_)
                  have e98 : (ev (.tmp 98) = .pointer (some ⟨bk, 6, none⟩)) := hh.at 0
                  clear hh
                  have q6 := (hb.cell (p := ⟨bk, 0 + 6, none⟩) HBK9.out).trans HD9.out
                  refine Each.Goes.same ?_
                  go_simp
                  try with_reducible rfl
                · refine Each.fine rfl (fun ev w1 hR hb hh => ?_)
                  clear hh
                  have e14 := hR.old 14 rfl
                  simp only [Array.getD_eq_getD_getElem?, List.getElem?_toArray, List.getElem?_cons_succ, List.getElem?_cons_zero, Option.getD_some] at e14
                  refine Each.Goes.same ?_
                  go_simp
                  try with_reducible rfl
                · refine Each.fine rfl (fun ev w1 hR hb hh => ?_)
                  have e99 : (ev (.tmp 99) = .slice (some ⟨tb, toff, none⟩) q tc) := hh.at 0
                  have e100 : (ev (.tmp 100) = .int .i64 (i : Int)) := hh.at 1
                  clear hh
                  have j1 := HIK.out
                  have j2 : (i : Int) < (q : Int) := by omega
                  refine Each.Goes.same ?_
                  go_simp
                  try with_reducible rfl
                · refine Each.fine rfl (fun ev w1 hR hb hh => ?_)
                  have e101 : (ev (.tmp 101) = .pointer (some ⟨tb, toff + i * 2, none⟩)) := hh.at 0
                  clear hh
                  have y0 := (hb.cell (p := ⟨tb, toff + i * 2, none⟩) HTB.out).trans HC0.out; have y1 := (hb.cell (p := ⟨tb, toff + i * 2 + 1, none⟩) HTB.out).trans HC1.out
                  refine Each.Goes.same ?_
                  go_simp
                  try with_reducible rfl
                · refine Each.fine rfl (fun ev w1 hR hb hh => ?_)
                  clear hh
                  have e14 := hR.old 14 rfl
                  simp only [Array.getD_eq_getD_getElem?, List.getElem?_toArray, List.getElem?_cons_succ, List.getElem?_cons_zero, Option.getD_some] at e14
                  refine Each.Goes.same ?_
                  go_simp
                  try with_reducible rfl
                · refine Each.fine rfl (fun ev w1 hR hb hh => ?_)
                  have e103 : (ev (.tmp 103) = .int .i64 (i : Int)) := hh.at 0
                  clear hh
                  have ef := hR.func
                  refine Each.Goes.enter 37 #[.int .i64 (i : Int)] (by go_simp) ((HPU.out w1).mono ?_)
                  rintro r w2 ⟨rfl, mk, rfl⟩
                  exact ⟨_, rfl, Base.below_drewN (Below.refl _ _) mk, rfl⟩
                · refine Each.fine rfl (fun ev w1 hR hb hh => ?_)
                  have e104 : (ev (.tmp 104) = .string P) := hh.at 0
                  clear hh
                  have ec := hR.const
                  refine Each.Goes.same ?_
                  go_simp
                  try with_reducible rfl
                · refine Each.fine rfl (fun ev w1 hR hb hh => ?_)
                  have e102 : (ev (.tmp 102) = .agg #[.string ⟨#[84]⟩, .string P]) := hh.at 0
                  have e105 : (ev (.tmp 105) = .agg #[.string ⟨#[84]⟩, .string P]) := hh.at 1
                  clear hh
                  refine Each.Goes.same ?_
                  go_simp
                  try with_reducible rfl
              intro g1 w7 hb hf
              have z106 : (g1 106 = .bool false) := hf.at 10
              clear hf
              simp only [Each.putg, Act.put, List.setIfInBounds_toArray, List.set_cons_zero, List.set_cons_succ]
              rw [z106]
              go_wp2_with fail
              go_roundw
              case rel => exact ⟨i + 1, by have := HIK.out; omega, by go_num, Lib.hid (Base.below_step hbr.out hb)⟩
              case measure => have := HIK.out; simp [intOf]; omega
            · obtain rfl : i = q := by omega
              have t1 : ¬ (i : Int) < (i : Int) := by omega
              go_wp2_with fail
              go_ret
              exact ⟨rfl, Base.below_step (Base.below_step HBR.out HB6.out) hbr.out⟩
end code
end Go.Proofs.YtibnobdbmojjhaaGreatDoor.Pg
