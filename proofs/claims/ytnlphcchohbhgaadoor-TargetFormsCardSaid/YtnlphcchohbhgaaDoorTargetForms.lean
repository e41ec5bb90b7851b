/-
  Layer 7 (target): the walk of TargetForms: it returns true, and writes nothing that was there.
-/
import Derived.Test.YtnlphcchohbhgaaDoorTargetFormWords
namespace Go.Proofs.YtnlphcchohbhgaaDoor.Tgt
open Go.RowKit Base Oct Num Txt

section code
set_option maxHeartbeats 4000000
attribute [local go_sem] Base.some_undef
/-- The law's end: the two targets are at hand. -/
def ended7 : Unit := ()
set_option maxRecDepth 10000 in
theorem targetForms_any (a : Option Addr) (n cap : Nat) (bs : List UInt8) (Q : ByteArray) (asked : Bool) (k : Int) (w : World) (hv : Nums .u8 w a n (nums bs)) (hn : n ≤ maxLen) (hs : Q.size ≤ 140737488351232) (hk : 0 ≤ k ∧ k ≤ 255) :
    Calls Tryd.prog 6 #[.slice a n cap, .string Q, .bool asked, .int .u8 k] w fun e w' => e = .returned (.bool true) ∧ Below w.heap.size w w' := by
  unfold maxLen at hn
  have HV := Lib.hid hv
  have hl : bs.length = n := by have := hv.1; rwa [nums, List.length_map] at this
  have HL := Lib.hid hl
  clear hv hl
  rcases Nat.lt_or_ge 8 n with c1 | c1
  · go_enter Tryd.func6, Tryd.ntmps6
    go_wp2_with (go_at_call 7; with_reducible refine (known_any _).mono ?_; rintro e w1 ⟨rfl, hb⟩)
    go_ret
    exact ⟨rfl, hb⟩
  rcases Nat.lt_or_ge 30 Q.size with c2 | c2
  · go_enter Tryd.func6, Tryd.ntmps6
    go_wp2_with (go_at_call 7; with_reducible refine (known_any _).mono ?_; rintro e w1 ⟨rfl, hb⟩)
    go_ret
    exact ⟨rfl, hb⟩
  obtain ⟨r, hr, him⟩ : ∃ r : Nat, r < 4 ∧ k.tmod 4 = (r : Int) := ⟨(k % 4).toNat, by omega, by rw [Int.tmod_eq_emod_of_nonneg hk.1]; omega⟩
  have hr4 : (r : Int) < 4 := by omega
  have HMC := Lib.hid (fun w => strs_cell w 9 methsF r hr)
  have hMO := meths_ok _ (mem_at methsF r hr)
  have HMO := Lib.hid hMO
  clear hMO
  generalize methsF[r]?.getD ByteArray.empty = M at *
  have HQ := Lib.hid (fun w => query_any Q w)
  go_enter Tryd.func6, Tryd.ntmps6
  go_wp2_with (go_at_call 7; with_reducible refine (known_any _).mono ?_; rintro e w1 ⟨rfl, hb⟩)
  have HB1 := Lib.hid hb
  clear hb
  go_loopw [9, 10] (fun p i wr => ∃ (j : Nat) (P : ByteArray), j ≤ n ∧ i = .int .i64 j ∧ p = .string P ∧ P.size ≤ 1 + 3 * j ∧ Hid (P.data.toList = 47 :: formL (bs.take j)) ∧ Hid (Below w1.heap.size w1 wr)) (fun _ i _ => n - (intOf i).toNat)
  case atStart => exact ⟨0, ⟨#[47]⟩, Nat.zero_le _, rfl, rfl, Nat.le_refl _, Lib.hid rfl, Lib.hid (Below.refl _ _)⟩
  case round =>
    obtain ⟨j, P, hj, rfl, rfl, hP, hPP, hbr⟩ := hrel
    rcases Nat.lt_or_ge j n with hlt | hge
    · have hjl : j < bs.length := by rw [HL.out]; exact hlt
      obtain ⟨bl, off, rfl, _, hcs⟩ := (HV.out.below ((Base.below_step HB1.out hbr.out).alloc (Base.below_step HB1.out hbr.out).size (.cells #[.string ⟨#[97]⟩, .string ⟨#[98, 47]⟩, .string ⟨#[37, 52, 49]⟩, .string ⟨#[46]⟩, .string ⟨#[120, 61, 49]⟩, .string ⟨#[58]⟩] 9))).2 (by omega)
      have hck := hcs j hlt
      rw [nums_at bs j hjl] at hck
      have hsn := Lib.hid (formL_snoc bs j hjl)
      obtain ⟨x, hx⟩ : ∃ x, bs[j] = x := ⟨_, rfl⟩
      rw [hx] at hck hsn
      clear hx hcs hjl
      have t1 : (j : Int) < (n : Int) := by omega
      have hq : x.toNat % 6 < 6 := Nat.mod_lt _ (by decide)
      have hxm : Int.tmod ((x.toNat : Nat) : Int) 6 = ((x.toNat % 6 : Nat) : Int) := by rw [Int.tmod_eq_emod_of_nonneg (by omega)]; omega
      have hpc := strs_cell wr 9 six (x.toNat % 6) hq
      have hpe : formP (x.toNat % 6) = (six[x.toNat % 6]?.getD ByteArray.empty).data.toList := rfl
      have hpz := (form_ok ⟨x.toNat % 6, hq⟩).2
      simp only at hpz
      rw [hpe, len] at hpz
      rw [hpe] at hsn
      clear hpe
      generalize six[x.toNat % 6]?.getD ByteArray.empty = Y at *
      have hpc' : (wr.alloc (.cells #[.string ⟨#[97]⟩, .string ⟨#[98, 47]⟩, .string ⟨#[37, 52, 49]⟩, .string ⟨#[46]⟩, .string ⟨#[120, 61, 49]⟩, .string ⟨#[58]⟩] 9)).cell? ⟨wr.heap.size, x.toNat % 6, none⟩ = some (.string Y) := hpc
      clear hpc
      obtain ⟨q, hqq⟩ : ∃ q, x.toNat % 6 = q := ⟨_, rfl⟩
      rw [hqq] at hq hxm hpc'
      clear hqq
      have hq6 : (q : Int) < 6 := by omega
      have hv1 : ¬ 9223372036854775807 < P.size + Y.size := by omega
      go_wp2
      go_roundw
      case rel => exact ⟨j + 1, P ++ Y, by omega, by go_num, rfl, by rw [ByteArray.size_append]; omega, Lib.hid (by rw [hsn.out, ByteArray.data_append, Array.toList_append, hPP.out]; rfl), Lib.hid (hbr.out.alloc hbr.out.size _)⟩
      case measure => simp [intOf]; omega
    · obtain rfl : j = n := by omega
      have t1 : ¬ (j : Int) < (j : Int) := by omega
      have hPf := hPP.out
      rw [List.take_of_length_le (by rw [HL.out]; exact Nat.le_refl _)] at hPf
      have HPF := Lib.hid hPf
      clear hPf hPP
      have hc := Base.below_step HB1.out hbr.out
      go_upto_if 54 with (go_at_call 17; with_reducible refine (HQ.out _).mono ?_; rintro e w2 ⟨rfl, hb⟩; replace hc := Base.below_step hc hb; clear hb)
      clear hbr HB1
      go_cut [1] from 26 (fun v wx => ∃ Q2, v = .string Q2 ∧ Q2.size ≤ 30 ∧ Hid (queryB Q2.data.toList = true) ∧ wx = w2)
      case first =>
        cases hqb : queryB Q.data.toList with
        | true =>
          have HQB := Lib.hid hqb
          clear hqb
          go_wp2_with fail
          go_meet
          case rel => exact ⟨Q, rfl, by omega, HQB, rfl⟩
        | false =>
          clear hqb
          go_wp2_with fail
          go_meet
          case rel => exact ⟨⟨#[113]⟩, rfl, by decide, Lib.hid (by decide +kernel), rfl⟩
      case rest =>
        obtain ⟨Q2, rfl, hQ2, hqb, hw0⟩ := hcut
        rw [hw0]
        clear hw0
        have hmc : (w2.alloc (.cells #[.string ⟨#[71, 69, 84]⟩, .string ⟨#[80, 79, 83, 84]⟩, .string ⟨#[79, 80, 84, 73, 79, 78, 83]⟩, .string ⟨#[72, 69, 65, 68]⟩] 9)).cell? ⟨w2.heap.size, r, none⟩ = some (.string M) := HMC.out w2
        have hd : ∃ t, P.data.toList = 47 :: t := ⟨_, HPF.out⟩
        have hwp : written pathMarks P.data.toList = true := by
          rw [HPF.out, written_plain (by decide) 47 _ (by decide +kernel)]
          exact formL_ok bs
        obtain ⟨hm1, hm2, hm3, hm4⟩ := HMO.out
        cases asked with
        | true =>
          have hQ2 : Q2.size ≤ 30 := hQ2
          have hq3 : queryB Q2.data.toList = true := hqb.out
          have ha3 : true = false → Q2.data.toList = [] := fun h => by cases h
          have hput : putPathV P Q2 true = ba (whole P.data.toList Q2.data.toList true) := putPathV_ba ⟨1, [], P.data.toList, Q2.data.toList, true⟩
          have hputz := putPathV_le P Q2 true
          have U12 := Lib.hid (fun w => put_any 1 E0 P Q2 true w (by decide) (by omega) (by omega))
          have U13 := Lib.hid (fun w => put_any 2 ⟨#[104, 46, 111, 114, 103, 58, 56]⟩ P Q2 true w (by decide) (by omega) (by omega))
          have e12 : putV 1 E0 P Q2 true = putPathV P Q2 true := rfl
          have e13 : putV 2 ⟨#[104, 46, 111, 114, 103, 58, 56]⟩ P Q2 true = ⟨#[104, 116, 116, 112, 58, 47, 47]⟩ ++ (⟨#[104, 46, 111, 114, 103, 58, 56]⟩ ++ putPathV P Q2 true) := rfl
          rw [e12] at U12
          rw [e13] at U13
          clear e12 e13
          obtain ⟨V, hV⟩ : ∃ V, putPathV P Q2 true = V := ⟨_, rfl⟩
          rw [hV] at hput U12 U13 hputz
          clear hV
          have hVl : V.data.toList = whole P.data.toList Q2.data.toList true := by rw [hput]; rfl
          have h13l : ((⟨#[104, 116, 116, 112, 58, 47, 47]⟩ : ByteArray) ++ (⟨#[104, 46, 111, 114, 103, 58, 56]⟩ ++ V)).data.toList = http ++ (hostF ++ whole P.data.toList Q2.data.toList true) := by
            rw [ByteArray.data_append, Array.toList_append, ByteArray.data_append, Array.toList_append, hVl]; rfl
          have h13z : ((⟨#[104, 116, 116, 112, 58, 47, 47]⟩ : ByteArray) ++ (⟨#[104, 46, 111, 114, 103, 58, 56]⟩ ++ V)).size ≤ 1000 := by
            rw [ByteArray.size_append, ByteArray.size_append, show (ByteArray.mk #[104, 116, 116, 112, 58, 47, 47]).size = 7 from rfl, show (⟨#[104, 46, 111, 114, 103, 58, 56]⟩ : ByteArray).size = 7 from rfl]; omega
          generalize (⟨#[104, 116, 116, 112, 58, 47, 47]⟩ : ByteArray) ++ (⟨#[104, 46, 111, 114, 103, 58, 56]⟩ ++ V) = V2 at *
          have K12 : Hid (∀ w, Calls Tryd.prog 9 #[.string M, .string V] w fun e w' => e = .returned (.tuple #[tv 1 E0 P Q2 true, .int .i64 0]) ∧ Below w.heap.size w w') := Lib.hid fun w => parse_known M V w (by omega) (some ⟨1, [], P.data.toList, Q2.data.toList, true⟩) (by rw [hVl]; exact whole_parse hm1 hwp hd hq3 ha3)
          have K13 : Hid (∀ w, Calls Tryd.prog 9 #[.string M, .string V2] w fun e w' => e = .returned (.tuple #[tv 2 ⟨#[104, 46, 111, 114, 103, 58, 56]⟩ P Q2 true, .int .i64 0]) ∧ Below w.heap.size w w') := Lib.hid fun w => parse_known M V2 w (by omega) (some ⟨2, hostF, P.data.toList, Q2.data.toList, true⟩) (by rw [h13l]; exact whole_absolute hm1 hwp hd hq3 ha3)
          have K18 : Hid (∀ w, Calls Tryd.prog 9 #[.string ⟨#[67, 79, 78, 78, 69, 67, 84]⟩, .string ⟨#[104, 46, 111, 114, 103, 58, 56]⟩] w fun e w' => e = .returned (.tuple #[tv 3 ⟨#[104, 46, 111, 114, 103, 58, 56]⟩ E0 E0 false, .int .i64 0]) ∧ Below w.heap.size w w') := Lib.hid fun w => parse_known ⟨#[67, 79, 78, 78, 69, 67, 84]⟩ ⟨#[104, 46, 111, 114, 103, 58, 56]⟩ w (by decide) (some ⟨3, hostF, [], [], false⟩) connect_host
          have K20 : Hid (∀ w, Calls Tryd.prog 9 #[.string ⟨#[67, 79, 78, 78, 69, 67, 84]⟩, .string V] w fun e w' => e = .returned (.tuple #[tv 0 E0 E0 E0 false, .int .i64 400]) ∧ Below w.heap.size w w') := Lib.hid fun w => parse_known ⟨#[67, 79, 78, 78, 69, 67, 84]⟩ V w (by omega) none (by rw [hVl]; exact whole_connect hd)
          have K22 : Hid (∀ w, Calls Tryd.prog 9 #[.string M, .string ⟨#[104, 46, 111, 114, 103, 58, 56]⟩] w fun e w' => e = .returned (.tuple #[tv 0 E0 E0 E0 false, .int .i64 400]) ∧ Below w.heap.size w w') := Lib.hid fun w => parse_known M ⟨#[104, 46, 111, 114, 103, 58, 56]⟩ w (by decide) none hm2
          have hq12 := eql_tgt 1 E0 P Q2 true
          have hq13 := eql_tgt 2 ⟨#[104, 46, 111, 114, 103, 58, 56]⟩ P Q2 true
          have hq18 := eql_tgt 3 ⟨#[104, 46, 111, 114, 103, 58, 56]⟩ E0 E0 false
          have hgd12 := fun op x y => guard_tgt op x y 1 1 E0 P Q2 E0 P Q2 true true
          have hgd13 := fun op x y => guard_tgt op x y 2 2 ⟨#[104, 46, 111, 114, 103, 58, 56]⟩ P Q2 ⟨#[104, 46, 111, 114, 103, 58, 56]⟩ P Q2 true true
          have hgd18 := fun op x y => guard_tgt op x y 3 3 ⟨#[104, 46, 111, 114, 103, 58, 56]⟩ E0 E0 ⟨#[104, 46, 111, 114, 103, 58, 56]⟩ E0 E0 false false
          clear hput hputz hVl h13l h13z hq3 ha3 hwp hd hm1 hm2 hqb
          go_upto_region 18 with fail
          have HA := Lib.hid (Tgb.new (w2.alloc (.cells #[.string ⟨#[71, 69, 84]⟩, .string ⟨#[80, 79, 83, 84]⟩, .string ⟨#[79, 80, 84, 73, 79, 78, 83]⟩, .string ⟨#[72, 69, 65, 68]⟩] 9)) 27 1 E0 P Q2 true)
          have hba : Below ((w2.alloc (.cells #[.string ⟨#[71, 69, 84]⟩, .string ⟨#[80, 79, 83, 84]⟩, .string ⟨#[79, 80, 84, 73, 79, 78, 83]⟩, .string ⟨#[72, 69, 65, 68]⟩] 9)).alloc (.cells #[.int .i64 1, .string E0, .string P, .string Q2, .bool true] 27)).heap.size ((w2.alloc (.cells #[.string ⟨#[71, 69, 84]⟩, .string ⟨#[80, 79, 83, 84]⟩, .string ⟨#[79, 80, 84, 73, 79, 78, 83]⟩, .string ⟨#[72, 69, 65, 68]⟩] 9)).alloc (.cells #[.int .i64 1, .string E0, .string P, .string Q2, .bool true] 27)) (((w2.alloc (.cells #[.string ⟨#[71, 69, 84]⟩, .string ⟨#[80, 79, 83, 84]⟩, .string ⟨#[79, 80, 84, 73, 79, 78, 83]⟩, .string ⟨#[72, 69, 65, 68]⟩] 9)).alloc (.cells #[.int .i64 1, .string E0, .string P, .string Q2, .bool true] 27)).alloc (.cells #[.int .i64 2, .string ⟨#[104, 46, 111, 114, 103, 58, 56]⟩, .string P, .string Q2, .bool true] 27)) := (Below.refl _ _).alloc (Nat.le_refl _) _
          have T12 := Lib.hid (HA.out.below (by simp) hba)
          have T13 := Lib.hid (Tgb.new ((w2.alloc (.cells #[.string ⟨#[71, 69, 84]⟩, .string ⟨#[80, 79, 83, 84]⟩, .string ⟨#[79, 80, 84, 73, 79, 78, 83]⟩, .string ⟨#[72, 69, 65, 68]⟩] 9)).alloc (.cells #[.int .i64 1, .string E0, .string P, .string Q2, .bool true] 27)) 27 2 ⟨#[104, 46, 111, 114, 103, 58, 56]⟩ P Q2 true)
          have s1 : (w2.alloc (.cells #[.string ⟨#[71, 69, 84]⟩, .string ⟨#[80, 79, 83, 84]⟩, .string ⟨#[79, 80, 84, 73, 79, 78, 83]⟩, .string ⟨#[72, 69, 65, 68]⟩] 9)).heap.size = w2.heap.size + 1 := by simp
          have s2 : ((w2.alloc (.cells #[.string ⟨#[71, 69, 84]⟩, .string ⟨#[80, 79, 83, 84]⟩, .string ⟨#[79, 80, 84, 73, 79, 78, 83]⟩, .string ⟨#[72, 69, 65, 68]⟩] 9)).alloc (.cells #[.int .i64 1, .string E0, .string P, .string Q2, .bool true] 27)).heap.size = w2.heap.size + 1 + 1 := by simp
          have s3 : (((w2.alloc (.cells #[.string ⟨#[71, 69, 84]⟩, .string ⟨#[80, 79, 83, 84]⟩, .string ⟨#[79, 80, 84, 73, 79, 78, 83]⟩, .string ⟨#[72, 69, 65, 68]⟩] 9)).alloc (.cells #[.int .i64 1, .string E0, .string P, .string Q2, .bool true] 27)).alloc (.cells #[.int .i64 2, .string ⟨#[104, 46, 111, 114, 103, 58, 56]⟩, .string P, .string Q2, .bool true] 27)).heap.size = w2.heap.size + 1 + 1 + 1 := by simp
          rw [s1] at T12
          rw [s2] at T13
          have S12 : Hid (w2.heap.size + 1 < (((w2.alloc (.cells #[.string ⟨#[71, 69, 84]⟩, .string ⟨#[80, 79, 83, 84]⟩, .string ⟨#[79, 80, 84, 73, 79, 78, 83]⟩, .string ⟨#[72, 69, 65, 68]⟩] 9)).alloc (.cells #[.int .i64 1, .string E0, .string P, .string Q2, .bool true] 27)).alloc (.cells #[.int .i64 2, .string ⟨#[104, 46, 111, 114, 103, 58, 56]⟩, .string P, .string Q2, .bool true] 27)).heap.size) := Lib.hid (by rw [s3]; omega)
          have S13 : Hid (w2.heap.size + 1 + 1 < (((w2.alloc (.cells #[.string ⟨#[71, 69, 84]⟩, .string ⟨#[80, 79, 83, 84]⟩, .string ⟨#[79, 80, 84, 73, 79, 78, 83]⟩, .string ⟨#[72, 69, 65, 68]⟩] 9)).alloc (.cells #[.int .i64 1, .string E0, .string P, .string Q2, .bool true] 27)).alloc (.cells #[.int .i64 2, .string ⟨#[104, 46, 111, 114, 103, 58, 56]⟩, .string P, .string Q2, .bool true] 27)).heap.size) := Lib.hid (by rw [s3]; omega)
          replace hc := ((hc.alloc hc.size (.cells #[.string ⟨#[71, 69, 84]⟩, .string ⟨#[80, 79, 83, 84]⟩, .string ⟨#[79, 80, 84, 73, 79, 78, 83]⟩, .string ⟨#[72, 69, 65, 68]⟩] 9)).alloc (hc.alloc hc.size (.cells #[.string ⟨#[71, 69, 84]⟩, .string ⟨#[80, 79, 83, 84]⟩, .string ⟨#[79, 80, 84, 73, 79, 78, 83]⟩, .string ⟨#[72, 69, 65, 68]⟩] 9)).size (.cells #[.int .i64 1, .string E0, .string P, .string Q2, .bool true] 27)).alloc ((hc.alloc hc.size (.cells #[.string ⟨#[71, 69, 84]⟩, .string ⟨#[80, 79, 83, 84]⟩, .string ⟨#[79, 80, 84, 73, 79, 78, 83]⟩, .string ⟨#[72, 69, 65, 68]⟩] 9)).alloc (hc.alloc hc.size (.cells #[.string ⟨#[71, 69, 84]⟩, .string ⟨#[80, 79, 83, 84]⟩, .string ⟨#[79, 80, 84, 73, 79, 78, 83]⟩, .string ⟨#[72, 69, 65, 68]⟩] 9)).size (.cells #[.int .i64 1, .string E0, .string P, .string Q2, .bool true] 27)).size (.cells #[.int .i64 2, .string ⟨#[104, 46, 111, 114, 103, 58, 56]⟩, .string P, .string Q2, .bool true] 27)
          clear HA hba s1 s2 s3 hmc
          generalize ((w2.alloc (.cells #[.string ⟨#[71, 69, 84]⟩, .string ⟨#[80, 79, 83, 84]⟩, .string ⟨#[79, 80, 84, 73, 79, 78, 83]⟩, .string ⟨#[72, 69, 65, 68]⟩] 9)).alloc (.cells #[.int .i64 1, .string E0, .string P, .string Q2, .bool true] 27)).alloc (.cells #[.int .i64 2, .string ⟨#[104, 46, 111, 114, 103, 58, 56]⟩, .string P, .string Q2, .bool true] 27) = W6 at *
          by_cases hopt : M.data.toList = options
          · rw [if_pos hopt] at hm3
            obtain ⟨t1, t2⟩ := eq_facts M [79, 80, 84, 73, 79, 78, 83] true (decide_eq_true hopt)
            have K24 : Hid (∀ w, Calls Tryd.prog 9 #[.string M, .string ⟨#[42]⟩] w fun e w' => e = .returned (.tuple #[tv 4 E0 E0 E0 false, .int .i64 0]) ∧ Below w.heap.size w w') := Lib.hid fun w => parse_known M ⟨#[42]⟩ w (by decide) (some ⟨4, [], [], [], false⟩) hm3
            clear hopt hm3
            obtain ⟨g0, g1, g2, g3, g4, _, _, _, _, _⟩ := T12.out
            go_wp2_with (first
              | (go_at_call 11; with_reducible refine (U12.out _).mono ?_; rintro e x6 ⟨rfl, hb⟩
                 replace T12 := Lib.hid (T12.out.below S12.out hb)
                 replace S12 := Lib.hid (Nat.lt_of_lt_of_le S12.out hb.size)
                 replace T13 := Lib.hid (T13.out.below S13.out hb)
                 replace S13 := Lib.hid (Nat.lt_of_lt_of_le S13.out hb.size)
                 replace T14 := Lib.hid (T14.out.below S14.out hb)
                 replace S14 := Lib.hid (Nat.lt_of_lt_of_le S14.out hb.size)
                 replace T16 := Lib.hid (T16.out.below S16.out hb)
                 replace S16 := Lib.hid (Nat.lt_of_lt_of_le S16.out hb.size)
                 replace T18 := Lib.hid (T18.out.below S18.out hb)
                 replace S18 := Lib.hid (Nat.lt_of_lt_of_le S18.out hb.size)
                 replace hc := Base.below_step hc hb
                 clear hb)
              | (go_at_call 11; with_reducible refine (U12.out _).mono ?_; rintro e x1 ⟨rfl, hb⟩
                 replace T12 := Lib.hid (T12.out.below S12.out hb)
                 replace S12 := Lib.hid (Nat.lt_of_lt_of_le S12.out hb.size)
                 replace T13 := Lib.hid (T13.out.below S13.out hb)
                 replace S13 := Lib.hid (Nat.lt_of_lt_of_le S13.out hb.size)
                 replace hc := Base.below_step hc hb
                 clear hb)
              | (go_at_call 9; with_reducible refine (K12.out _).mono ?_; rintro e x2 ⟨rfl, hb⟩
                 have hb' := hb.alloc hb.size (.cells #[.int .i64 1, .string E0, .string P, .string Q2, .bool true] 27)
                 obtain ⟨j0, j1, j2, j3, j4, _, _, _, _, _⟩ := T13.out.below S13.out hb
                 have Bj := old_cell (Nat.lt_of_lt_of_le S13.out hb.size)
                 replace T12 := Lib.hid (T12.out.below S12.out hb')
                 replace S12 := Lib.hid (Nat.lt_of_lt_of_le S12.out hb'.size)
                 replace T13 := Lib.hid (T13.out.below S13.out hb')
                 replace S13 := Lib.hid (Nat.lt_of_lt_of_le S13.out hb'.size)
                 replace hc := Base.below_step hc hb'
                 clear hb hb'
                 have T14 := Lib.hid (Tgb.new x2 27 1 E0 P Q2 true)
                 have S14 := Lib.hid (show x2.heap.size < (x2.alloc (.cells #[.int .i64 1, .string E0, .string P, .string Q2, .bool true] 27)).heap.size by simp))
              | (go_at_call 11; with_reducible refine (U13.out _).mono ?_; rintro e x3 ⟨rfl, hb⟩
                 replace T12 := Lib.hid (T12.out.below S12.out hb)
                 replace S12 := Lib.hid (Nat.lt_of_lt_of_le S12.out hb.size)
                 replace T13 := Lib.hid (T13.out.below S13.out hb)
                 replace S13 := Lib.hid (Nat.lt_of_lt_of_le S13.out hb.size)
                 replace T14 := Lib.hid (T14.out.below S14.out hb)
                 replace S14 := Lib.hid (Nat.lt_of_lt_of_le S14.out hb.size)
                 replace hc := Base.below_step hc hb
                 clear hb)
              | (go_at_call 9; with_reducible refine (K13.out _).mono ?_; rintro e x4 ⟨rfl, hb⟩
                 have hb' := hb.alloc hb.size (.cells #[.int .i64 2, .string ⟨#[104, 46, 111, 114, 103, 58, 56]⟩, .string P, .string Q2, .bool true] 27)
                 replace T12 := Lib.hid (T12.out.below S12.out hb')
                 replace S12 := Lib.hid (Nat.lt_of_lt_of_le S12.out hb'.size)
                 replace T13 := Lib.hid (T13.out.below S13.out hb')
                 replace S13 := Lib.hid (Nat.lt_of_lt_of_le S13.out hb'.size)
                 replace T14 := Lib.hid (T14.out.below S14.out hb')
                 replace S14 := Lib.hid (Nat.lt_of_lt_of_le S14.out hb'.size)
                 replace hc := Base.below_step hc hb'
                 clear hb hb'
                 have T16 := Lib.hid (Tgb.new x4 27 2 ⟨#[104, 46, 111, 114, 103, 58, 56]⟩ P Q2 true)
                 have S16 := Lib.hid (show x4.heap.size < (x4.alloc (.cells #[.int .i64 2, .string ⟨#[104, 46, 111, 114, 103, 58, 56]⟩, .string P, .string Q2, .bool true] 27)).heap.size by simp))
              | (go_at_call 9; with_reducible refine (K18.out _).mono ?_; rintro e x5 ⟨rfl, hb⟩
                 have hb' := hb.alloc hb.size (.cells #[.int .i64 3, .string ⟨#[104, 46, 111, 114, 103, 58, 56]⟩, .string E0, .string E0, .bool false] 27)
                 obtain ⟨l0, l1, l2, l3, l4, _, _, _, _, _⟩ := T12.out.below S12.out hb
                 have Bl := old_cell (Nat.lt_of_lt_of_le S12.out hb.size)
                 replace T12 := Lib.hid (T12.out.below S12.out hb')
                 replace S12 := Lib.hid (Nat.lt_of_lt_of_le S12.out hb'.size)
                 replace T13 := Lib.hid (T13.out.below S13.out hb')
                 replace S13 := Lib.hid (Nat.lt_of_lt_of_le S13.out hb'.size)
                 replace T14 := Lib.hid (T14.out.below S14.out hb')
                 replace S14 := Lib.hid (Nat.lt_of_lt_of_le S14.out hb'.size)
                 replace T16 := Lib.hid (T16.out.below S16.out hb')
                 replace S16 := Lib.hid (Nat.lt_of_lt_of_le S16.out hb'.size)
                 replace hc := Base.below_step hc hb'
                 clear hb hb'
                 have T18 := Lib.hid (Tgb.new x5 27 3 ⟨#[104, 46, 111, 114, 103, 58, 56]⟩ E0 E0 false)
                 have S18 := Lib.hid (show x5.heap.size < (x5.alloc (.cells #[.int .i64 3, .string ⟨#[104, 46, 111, 114, 103, 58, 56]⟩, .string E0, .string E0, .bool false] 27)).heap.size by simp))
              | (go_at_call 9; with_reducible refine (K20.out _).mono ?_; rintro e x7 ⟨rfl, hb⟩
                 have hb' := hb.alloc hb.size (.cells #[.int .i64 0, .string E0, .string E0, .string E0, .bool false] 27)
                 replace T12 := Lib.hid (T12.out.below S12.out hb')
                 replace S12 := Lib.hid (Nat.lt_of_lt_of_le S12.out hb'.size)
                 replace T13 := Lib.hid (T13.out.below S13.out hb')
                 replace S13 := Lib.hid (Nat.lt_of_lt_of_le S13.out hb'.size)
                 replace T14 := Lib.hid (T14.out.below S14.out hb')
                 replace S14 := Lib.hid (Nat.lt_of_lt_of_le S14.out hb'.size)
                 replace T16 := Lib.hid (T16.out.below S16.out hb')
                 replace S16 := Lib.hid (Nat.lt_of_lt_of_le S16.out hb'.size)
                 replace T18 := Lib.hid (T18.out.below S18.out hb')
                 replace S18 := Lib.hid (Nat.lt_of_lt_of_le S18.out hb'.size)
                 replace hc := Base.below_step hc hb'
                 clear hb hb')
              | (go_at_call 9; with_reducible refine (K22.out _).mono ?_; rintro e x8 ⟨rfl, hb⟩
                 have hb' := hb.alloc hb.size (.cells #[.int .i64 0, .string E0, .string E0, .string E0, .bool false] 27)
                 replace T12 := Lib.hid (T12.out.below S12.out hb')
                 replace S12 := Lib.hid (Nat.lt_of_lt_of_le S12.out hb'.size)
                 replace T13 := Lib.hid (T13.out.below S13.out hb')
                 replace S13 := Lib.hid (Nat.lt_of_lt_of_le S13.out hb'.size)
                 replace T14 := Lib.hid (T14.out.below S14.out hb')
                 replace S14 := Lib.hid (Nat.lt_of_lt_of_le S14.out hb'.size)
                 replace T16 := Lib.hid (T16.out.below S16.out hb')
                 replace S16 := Lib.hid (Nat.lt_of_lt_of_le S16.out hb'.size)
                 replace T18 := Lib.hid (T18.out.below S18.out hb')
                 replace S18 := Lib.hid (Nat.lt_of_lt_of_le S18.out hb'.size)
                 replace hc := Base.below_step hc hb'
                 clear hb hb')
              | (go_at_call 9; with_reducible refine (K24.out _).mono ?_; rintro e x9 ⟨rfl, hb⟩
                 obtain ⟨b0, b1, b2, b3, b4, _, _, _, _, _⟩ := T12.out.below S12.out hb
                 have A12 := old_cell (Nat.lt_of_lt_of_le S12.out hb.size)
                 obtain ⟨d0, d1, d2, d3, d4, _, _, _, _, _⟩ := T13.out.below S13.out hb
                 have A13 := old_cell (Nat.lt_of_lt_of_le S13.out hb.size)
                 obtain ⟨e0, e1, e2, e3, e4, _, _, _, _, _⟩ := T14.out.below S14.out hb
                 have A14 := old_cell (Nat.lt_of_lt_of_le S14.out hb.size)
                 obtain ⟨f0, f1, f2, f3, f4, _, _, _, _, _⟩ := T16.out.below S16.out hb
                 have A16 := old_cell (Nat.lt_of_lt_of_le S16.out hb.size)
                 obtain ⟨i0, i1, i2, i3, i4, _, _, _, _, _⟩ := T18.out.below S18.out hb
                 have A18 := old_cell (Nat.lt_of_lt_of_le S18.out hb.size)
                 replace hc := Base.below_step hc (hb.alloc hb.size (.cells #[.int .i64 4, .string E0, .string E0, .string E0, .bool false] 27))
                 clear hb T12 S12 T13 S13 T14 S14 T16 S16 T18 S18))
            go_ret
            exact ⟨rfl, hc⟩
          · rw [if_neg hopt] at hm3
            obtain ⟨t1, t2⟩ := eq_facts M [79, 80, 84, 73, 79, 78, 83] false (decide_eq_false hopt)
            have K24 : Hid (∀ w, Calls Tryd.prog 9 #[.string M, .string ⟨#[42]⟩] w fun e w' => e = .returned (.tuple #[tv 0 E0 E0 E0 false, .int .i64 400]) ∧ Below w.heap.size w w') := Lib.hid fun w => parse_known M ⟨#[42]⟩ w (by decide) none hm3
            clear hopt hm3
            obtain ⟨g0, g1, g2, g3, g4, _, _, _, _, _⟩ := T12.out
            go_wp2_with (first
              | (go_at_call 11; with_reducible refine (U12.out _).mono ?_; rintro e x6 ⟨rfl, hb⟩
                 replace T12 := Lib.hid (T12.out.below S12.out hb)
                 replace S12 := Lib.hid (Nat.lt_of_lt_of_le S12.out hb.size)
                 replace T13 := Lib.hid (T13.out.below S13.out hb)
                 replace S13 := Lib.hid (Nat.lt_of_lt_of_le S13.out hb.size)
                 replace T14 := Lib.hid (T14.out.below S14.out hb)
                 replace S14 := Lib.hid (Nat.lt_of_lt_of_le S14.out hb.size)
                 replace T16 := Lib.hid (T16.out.below S16.out hb)
                 replace S16 := Lib.hid (Nat.lt_of_lt_of_le S16.out hb.size)
                 replace T18 := Lib.hid (T18.out.below S18.out hb)
                 replace S18 := Lib.hid (Nat.lt_of_lt_of_le S18.out hb.size)
                 replace hc := Base.below_step hc hb
                 clear hb)
              | (go_at_call 11; with_reducible refine (U12.out _).mono ?_; rintro e x1 ⟨rfl, hb⟩
                 replace T12 := Lib.hid (T12.out.below S12.out hb)
                 replace S12 := Lib.hid (Nat.lt_of_lt_of_le S12.out hb.size)
                 replace T13 := Lib.hid (T13.out.below S13.out hb)
                 replace S13 := Lib.hid (Nat.lt_of_lt_of_le S13.out hb.size)
                 replace hc := Base.below_step hc hb
                 clear hb)
              | (go_at_call 9; with_reducible refine (K12.out _).mono ?_; rintro e x2 ⟨rfl, hb⟩
                 have hb' := hb.alloc hb.size (.cells #[.int .i64 1, .string E0, .string P, .string Q2, .bool true] 27)
                 obtain ⟨j0, j1, j2, j3, j4, _, _, _, _, _⟩ := T13.out.below S13.out hb
                 have Bj := old_cell (Nat.lt_of_lt_of_le S13.out hb.size)
                 replace T12 := Lib.hid (T12.out.below S12.out hb')
                 replace S12 := Lib.hid (Nat.lt_of_lt_of_le S12.out hb'.size)
                 replace T13 := Lib.hid (T13.out.below S13.out hb')
                 replace S13 := Lib.hid (Nat.lt_of_lt_of_le S13.out hb'.size)
                 replace hc := Base.below_step hc hb'
                 clear hb hb'
                 have T14 := Lib.hid (Tgb.new x2 27 1 E0 P Q2 true)
                 have S14 := Lib.hid (show x2.heap.size < (x2.alloc (.cells #[.int .i64 1, .string E0, .string P, .string Q2, .bool true] 27)).heap.size by simp))
              | (go_at_call 11; with_reducible refine (U13.out _).mono ?_; rintro e x3 ⟨rfl, hb⟩
                 replace T12 := Lib.hid (T12.out.below S12.out hb)
                 replace S12 := Lib.hid (Nat.lt_of_lt_of_le S12.out hb.size)
                 replace T13 := Lib.hid (T13.out.below S13.out hb)
                 replace S13 := Lib.hid (Nat.lt_of_lt_of_le S13.out hb.size)
                 replace T14 := Lib.hid (T14.out.below S14.out hb)
                 replace S14 := Lib.hid (Nat.lt_of_lt_of_le S14.out hb.size)
                 replace hc := Base.below_step hc hb
                 clear hb)
              | (go_at_call 9; with_reducible refine (K13.out _).mono ?_; rintro e x4 ⟨rfl, hb⟩
                 have hb' := hb.alloc hb.size (.cells #[.int .i64 2, .string ⟨#[104, 46, 111, 114, 103, 58, 56]⟩, .string P, .string Q2, .bool true] 27)
                 replace T12 := Lib.hid (T12.out.below S12.out hb')
                 replace S12 := Lib.hid (Nat.lt_of_lt_of_le S12.out hb'.size)
                 replace T13 := Lib.hid (T13.out.below S13.out hb')
                 replace S13 := Lib.hid (Nat.lt_of_lt_of_le S13.out hb'.size)
                 replace T14 := Lib.hid (T14.out.below S14.out hb')
                 replace S14 := Lib.hid (Nat.lt_of_lt_of_le S14.out hb'.size)
                 replace hc := Base.below_step hc hb'
                 clear hb hb'
                 have T16 := Lib.hid (Tgb.new x4 27 2 ⟨#[104, 46, 111, 114, 103, 58, 56]⟩ P Q2 true)
                 have S16 := Lib.hid (show x4.heap.size < (x4.alloc (.cells #[.int .i64 2, .string ⟨#[104, 46, 111, 114, 103, 58, 56]⟩, .string P, .string Q2, .bool true] 27)).heap.size by simp))
              | (go_at_call 9; with_reducible refine (K18.out _).mono ?_; rintro e x5 ⟨rfl, hb⟩
                 have hb' := hb.alloc hb.size (.cells #[.int .i64 3, .string ⟨#[104, 46, 111, 114, 103, 58, 56]⟩, .string E0, .string E0, .bool false] 27)
                 obtain ⟨l0, l1, l2, l3, l4, _, _, _, _, _⟩ := T12.out.below S12.out hb
                 have Bl := old_cell (Nat.lt_of_lt_of_le S12.out hb.size)
                 replace T12 := Lib.hid (T12.out.below S12.out hb')
                 replace S12 := Lib.hid (Nat.lt_of_lt_of_le S12.out hb'.size)
                 replace T13 := Lib.hid (T13.out.below S13.out hb')
                 replace S13 := Lib.hid (Nat.lt_of_lt_of_le S13.out hb'.size)
                 replace T14 := Lib.hid (T14.out.below S14.out hb')
                 replace S14 := Lib.hid (Nat.lt_of_lt_of_le S14.out hb'.size)
                 replace T16 := Lib.hid (T16.out.below S16.out hb')
                 replace S16 := Lib.hid (Nat.lt_of_lt_of_le S16.out hb'.size)
                 replace hc := Base.below_step hc hb'
                 clear hb hb'
                 have T18 := Lib.hid (Tgb.new x5 27 3 ⟨#[104, 46, 111, 114, 103, 58, 56]⟩ E0 E0 false)
                 have S18 := Lib.hid (show x5.heap.size < (x5.alloc (.cells #[.int .i64 3, .string ⟨#[104, 46, 111, 114, 103, 58, 56]⟩, .string E0, .string E0, .bool false] 27)).heap.size by simp))
              | (go_at_call 9; with_reducible refine (K20.out _).mono ?_; rintro e x7 ⟨rfl, hb⟩
                 have hb' := hb.alloc hb.size (.cells #[.int .i64 0, .string E0, .string E0, .string E0, .bool false] 27)
                 replace T12 := Lib.hid (T12.out.below S12.out hb')
                 replace S12 := Lib.hid (Nat.lt_of_lt_of_le S12.out hb'.size)
                 replace T13 := Lib.hid (T13.out.below S13.out hb')
                 replace S13 := Lib.hid (Nat.lt_of_lt_of_le S13.out hb'.size)
                 replace T14 := Lib.hid (T14.out.below S14.out hb')
                 replace S14 := Lib.hid (Nat.lt_of_lt_of_le S14.out hb'.size)
                 replace T16 := Lib.hid (T16.out.below S16.out hb')
                 replace S16 := Lib.hid (Nat.lt_of_lt_of_le S16.out hb'.size)
                 replace T18 := Lib.hid (T18.out.below S18.out hb')
                 replace S18 := Lib.hid (Nat.lt_of_lt_of_le S18.out hb'.size)
                 replace hc := Base.below_step hc hb'
                 clear hb hb')
              | (go_at_call 9; with_reducible refine (K22.out _).mono ?_; rintro e x8 ⟨rfl, hb⟩
                 have hb' := hb.alloc hb.size (.cells #[.int .i64 0, .string E0, .string E0, .string E0, .bool false] 27)
                 replace T12 := Lib.hid (T12.out.below S12.out hb')
                 replace S12 := Lib.hid (Nat.lt_of_lt_of_le S12.out hb'.size)
                 replace T13 := Lib.hid (T13.out.below S13.out hb')
                 replace S13 := Lib.hid (Nat.lt_of_lt_of_le S13.out hb'.size)
                 replace T14 := Lib.hid (T14.out.below S14.out hb')
                 replace S14 := Lib.hid (Nat.lt_of_lt_of_le S14.out hb'.size)
                 replace T16 := Lib.hid (T16.out.below S16.out hb')
                 replace S16 := Lib.hid (Nat.lt_of_lt_of_le S16.out hb'.size)
                 replace T18 := Lib.hid (T18.out.below S18.out hb')
                 replace S18 := Lib.hid (Nat.lt_of_lt_of_le S18.out hb'.size)
                 replace hc := Base.below_step hc hb'
                 clear hb hb')
              | (go_at_call 9; with_reducible refine (K24.out _).mono ?_; rintro e x9 ⟨rfl, hb⟩
                 obtain ⟨b0, b1, b2, b3, b4, _, _, _, _, _⟩ := T12.out.below S12.out hb
                 have A12 := old_cell (Nat.lt_of_lt_of_le S12.out hb.size)
                 obtain ⟨d0, d1, d2, d3, d4, _, _, _, _, _⟩ := T13.out.below S13.out hb
                 have A13 := old_cell (Nat.lt_of_lt_of_le S13.out hb.size)
                 obtain ⟨e0, e1, e2, e3, e4, _, _, _, _, _⟩ := T14.out.below S14.out hb
                 have A14 := old_cell (Nat.lt_of_lt_of_le S14.out hb.size)
                 obtain ⟨f0, f1, f2, f3, f4, _, _, _, _, _⟩ := T16.out.below S16.out hb
                 have A16 := old_cell (Nat.lt_of_lt_of_le S16.out hb.size)
                 obtain ⟨i0, i1, i2, i3, i4, _, _, _, _, _⟩ := T18.out.below S18.out hb
                 have A18 := old_cell (Nat.lt_of_lt_of_le S18.out hb.size)
                 replace hc := Base.below_step hc (hb.alloc hb.size (.cells #[.int .i64 0, .string E0, .string E0, .string E0, .bool false] 27))
                 clear hb T12 S12 T13 S13 T14 S14 T16 S16 T18 S18))
            go_ret
            exact ⟨rfl, hc⟩
        | false =>
          have hE0 : E0.size ≤ 30 := by decide
          have hq3 : queryB E0.data.toList = true := rfl
          have ha3 : false = false → E0.data.toList = [] := fun _ => rfl
          have hput : putPathV P E0 false = ba (whole P.data.toList E0.data.toList false) := putPathV_ba ⟨1, [], P.data.toList, E0.data.toList, false⟩
          have hputz := putPathV_le P E0 false
          have U12 := Lib.hid (fun w => put_any 1 E0 P E0 false w (by decide) (by omega) (by omega))
          have U13 := Lib.hid (fun w => put_any 2 ⟨#[104, 46, 111, 114, 103, 58, 56]⟩ P E0 false w (by decide) (by omega) (by omega))
          have e12 : putV 1 E0 P E0 false = putPathV P E0 false := rfl
          have e13 : putV 2 ⟨#[104, 46, 111, 114, 103, 58, 56]⟩ P E0 false = ⟨#[104, 116, 116, 112, 58, 47, 47]⟩ ++ (⟨#[104, 46, 111, 114, 103, 58, 56]⟩ ++ putPathV P E0 false) := rfl
          rw [e12] at U12
          rw [e13] at U13
          clear e12 e13
          obtain ⟨V, hV⟩ : ∃ V, putPathV P E0 false = V := ⟨_, rfl⟩
          rw [hV] at hput U12 U13 hputz
          clear hV
          have hVl : V.data.toList = whole P.data.toList E0.data.toList false := by rw [hput]; rfl
          have h13l : ((⟨#[104, 116, 116, 112, 58, 47, 47]⟩ : ByteArray) ++ (⟨#[104, 46, 111, 114, 103, 58, 56]⟩ ++ V)).data.toList = http ++ (hostF ++ whole P.data.toList E0.data.toList false) := by
            rw [ByteArray.data_append, Array.toList_append, ByteArray.data_append, Array.toList_append, hVl]; rfl
          have h13z : ((⟨#[104, 116, 116, 112, 58, 47, 47]⟩ : ByteArray) ++ (⟨#[104, 46, 111, 114, 103, 58, 56]⟩ ++ V)).size ≤ 1000 := by
            rw [ByteArray.size_append, ByteArray.size_append, show (ByteArray.mk #[104, 116, 116, 112, 58, 47, 47]).size = 7 from rfl, show (⟨#[104, 46, 111, 114, 103, 58, 56]⟩ : ByteArray).size = 7 from rfl]; omega
          generalize (⟨#[104, 116, 116, 112, 58, 47, 47]⟩ : ByteArray) ++ (⟨#[104, 46, 111, 114, 103, 58, 56]⟩ ++ V) = V2 at *
          have K12 : Hid (∀ w, Calls Tryd.prog 9 #[.string M, .string V] w fun e w' => e = .returned (.tuple #[tv 1 E0 P E0 false, .int .i64 0]) ∧ Below w.heap.size w w') := Lib.hid fun w => parse_known M V w (by omega) (some ⟨1, [], P.data.toList, E0.data.toList, false⟩) (by rw [hVl]; exact whole_parse hm1 hwp hd hq3 ha3)
          have K13 : Hid (∀ w, Calls Tryd.prog 9 #[.string M, .string V2] w fun e w' => e = .returned (.tuple #[tv 2 ⟨#[104, 46, 111, 114, 103, 58, 56]⟩ P E0 false, .int .i64 0]) ∧ Below w.heap.size w w') := Lib.hid fun w => parse_known M V2 w (by omega) (some ⟨2, hostF, P.data.toList, E0.data.toList, false⟩) (by rw [h13l]; exact whole_absolute hm1 hwp hd hq3 ha3)
          have K18 : Hid (∀ w, Calls Tryd.prog 9 #[.string ⟨#[67, 79, 78, 78, 69, 67, 84]⟩, .string ⟨#[104, 46, 111, 114, 103, 58, 56]⟩] w fun e w' => e = .returned (.tuple #[tv 3 ⟨#[104, 46, 111, 114, 103, 58, 56]⟩ E0 E0 false, .int .i64 0]) ∧ Below w.heap.size w w') := Lib.hid fun w => parse_known ⟨#[67, 79, 78, 78, 69, 67, 84]⟩ ⟨#[104, 46, 111, 114, 103, 58, 56]⟩ w (by decide) (some ⟨3, hostF, [], [], false⟩) connect_host
          have K20 : Hid (∀ w, Calls Tryd.prog 9 #[.string ⟨#[67, 79, 78, 78, 69, 67, 84]⟩, .string V] w fun e w' => e = .returned (.tuple #[tv 0 E0 E0 E0 false, .int .i64 400]) ∧ Below w.heap.size w w') := Lib.hid fun w => parse_known ⟨#[67, 79, 78, 78, 69, 67, 84]⟩ V w (by omega) none (by rw [hVl]; exact whole_connect hd)
          have K22 : Hid (∀ w, Calls Tryd.prog 9 #[.string M, .string ⟨#[104, 46, 111, 114, 103, 58, 56]⟩] w fun e w' => e = .returned (.tuple #[tv 0 E0 E0 E0 false, .int .i64 400]) ∧ Below w.heap.size w w') := Lib.hid fun w => parse_known M ⟨#[104, 46, 111, 114, 103, 58, 56]⟩ w (by decide) none hm2
          have hq12 := eql_tgt 1 E0 P E0 false
          have hq13 := eql_tgt 2 ⟨#[104, 46, 111, 114, 103, 58, 56]⟩ P E0 false
          have hq18 := eql_tgt 3 ⟨#[104, 46, 111, 114, 103, 58, 56]⟩ E0 E0 false
          have hgd12 := fun op x y => guard_tgt op x y 1 1 E0 P E0 E0 P E0 false false
          have hgd13 := fun op x y => guard_tgt op x y 2 2 ⟨#[104, 46, 111, 114, 103, 58, 56]⟩ P E0 ⟨#[104, 46, 111, 114, 103, 58, 56]⟩ P E0 false false
          have hgd18 := fun op x y => guard_tgt op x y 3 3 ⟨#[104, 46, 111, 114, 103, 58, 56]⟩ E0 E0 ⟨#[104, 46, 111, 114, 103, 58, 56]⟩ E0 E0 false false
          clear hput hputz hVl h13l h13z hq3 ha3 hwp hd hm1 hm2 hqb
          go_upto_region 18 with fail
          have HA := Lib.hid (Tgb.new (w2.alloc (.cells #[.string ⟨#[71, 69, 84]⟩, .string ⟨#[80, 79, 83, 84]⟩, .string ⟨#[79, 80, 84, 73, 79, 78, 83]⟩, .string ⟨#[72, 69, 65, 68]⟩] 9)) 27 1 E0 P E0 false)
          have hba : Below ((w2.alloc (.cells #[.string ⟨#[71, 69, 84]⟩, .string ⟨#[80, 79, 83, 84]⟩, .string ⟨#[79, 80, 84, 73, 79, 78, 83]⟩, .string ⟨#[72, 69, 65, 68]⟩] 9)).alloc (.cells #[.int .i64 1, .string E0, .string P, .string E0, .bool false] 27)).heap.size ((w2.alloc (.cells #[.string ⟨#[71, 69, 84]⟩, .string ⟨#[80, 79, 83, 84]⟩, .string ⟨#[79, 80, 84, 73, 79, 78, 83]⟩, .string ⟨#[72, 69, 65, 68]⟩] 9)).alloc (.cells #[.int .i64 1, .string E0, .string P, .string E0, .bool false] 27)) (((w2.alloc (.cells #[.string ⟨#[71, 69, 84]⟩, .string ⟨#[80, 79, 83, 84]⟩, .string ⟨#[79, 80, 84, 73, 79, 78, 83]⟩, .string ⟨#[72, 69, 65, 68]⟩] 9)).alloc (.cells #[.int .i64 1, .string E0, .string P, .string E0, .bool false] 27)).alloc (.cells #[.int .i64 2, .string ⟨#[104, 46, 111, 114, 103, 58, 56]⟩, .string P, .string E0, .bool false] 27)) := (Below.refl _ _).alloc (Nat.le_refl _) _
          have T12 := Lib.hid (HA.out.below (by simp) hba)
          have T13 := Lib.hid (Tgb.new ((w2.alloc (.cells #[.string ⟨#[71, 69, 84]⟩, .string ⟨#[80, 79, 83, 84]⟩, .string ⟨#[79, 80, 84, 73, 79, 78, 83]⟩, .string ⟨#[72, 69, 65, 68]⟩] 9)).alloc (.cells #[.int .i64 1, .string E0, .string P, .string E0, .bool false] 27)) 27 2 ⟨#[104, 46, 111, 114, 103, 58, 56]⟩ P E0 false)
          have s1 : (w2.alloc (.cells #[.string ⟨#[71, 69, 84]⟩, .string ⟨#[80, 79, 83, 84]⟩, .string ⟨#[79, 80, 84, 73, 79, 78, 83]⟩, .string ⟨#[72, 69, 65, 68]⟩] 9)).heap.size = w2.heap.size + 1 := by simp
          have s2 : ((w2.alloc (.cells #[.string ⟨#[71, 69, 84]⟩, .string ⟨#[80, 79, 83, 84]⟩, .string ⟨#[79, 80, 84, 73, 79, 78, 83]⟩, .string ⟨#[72, 69, 65, 68]⟩] 9)).alloc (.cells #[.int .i64 1, .string E0, .string P, .string E0, .bool false] 27)).heap.size = w2.heap.size + 1 + 1 := by simp
          have s3 : (((w2.alloc (.cells #[.string ⟨#[71, 69, 84]⟩, .string ⟨#[80, 79, 83, 84]⟩, .string ⟨#[79, 80, 84, 73, 79, 78, 83]⟩, .string ⟨#[72, 69, 65, 68]⟩] 9)).alloc (.cells #[.int .i64 1, .string E0, .string P, .string E0, .bool false] 27)).alloc (.cells #[.int .i64 2, .string ⟨#[104, 46, 111, 114, 103, 58, 56]⟩, .string P, .string E0, .bool false] 27)).heap.size = w2.heap.size + 1 + 1 + 1 := by simp
          rw [s1] at T12
          rw [s2] at T13
          have S12 : Hid (w2.heap.size + 1 < (((w2.alloc (.cells #[.string ⟨#[71, 69, 84]⟩, .string ⟨#[80, 79, 83, 84]⟩, .string ⟨#[79, 80, 84, 73, 79, 78, 83]⟩, .string ⟨#[72, 69, 65, 68]⟩] 9)).alloc (.cells #[.int .i64 1, .string E0, .string P, .string E0, .bool false] 27)).alloc (.cells #[.int .i64 2, .string ⟨#[104, 46, 111, 114, 103, 58, 56]⟩, .string P, .string E0, .bool false] 27)).heap.size) := Lib.hid (by rw [s3]; omega)
          have S13 : Hid (w2.heap.size + 1 + 1 < (((w2.alloc (.cells #[.string ⟨#[71, 69, 84]⟩, .string ⟨#[80, 79, 83, 84]⟩, .string ⟨#[79, 80, 84, 73, 79, 78, 83]⟩, .string ⟨#[72, 69, 65, 68]⟩] 9)).alloc (.cells #[.int .i64 1, .string E0, .string P, .string E0, .bool false] 27)).alloc (.cells #[.int .i64 2, .string ⟨#[104, 46, 111, 114, 103, 58, 56]⟩, .string P, .string E0, .bool false] 27)).heap.size) := Lib.hid (by rw [s3]; omega)
          replace hc := ((hc.alloc hc.size (.cells #[.string ⟨#[71, 69, 84]⟩, .string ⟨#[80, 79, 83, 84]⟩, .string ⟨#[79, 80, 84, 73, 79, 78, 83]⟩, .string ⟨#[72, 69, 65, 68]⟩] 9)).alloc (hc.alloc hc.size (.cells #[.string ⟨#[71, 69, 84]⟩, .string ⟨#[80, 79, 83, 84]⟩, .string ⟨#[79, 80, 84, 73, 79, 78, 83]⟩, .string ⟨#[72, 69, 65, 68]⟩] 9)).size (.cells #[.int .i64 1, .string E0, .string P, .string E0, .bool false] 27)).alloc ((hc.alloc hc.size (.cells #[.string ⟨#[71, 69, 84]⟩, .string ⟨#[80, 79, 83, 84]⟩, .string ⟨#[79, 80, 84, 73, 79, 78, 83]⟩, .string ⟨#[72, 69, 65, 68]⟩] 9)).alloc (hc.alloc hc.size (.cells #[.string ⟨#[71, 69, 84]⟩, .string ⟨#[80, 79, 83, 84]⟩, .string ⟨#[79, 80, 84, 73, 79, 78, 83]⟩, .string ⟨#[72, 69, 65, 68]⟩] 9)).size (.cells #[.int .i64 1, .string E0, .string P, .string E0, .bool false] 27)).size (.cells #[.int .i64 2, .string ⟨#[104, 46, 111, 114, 103, 58, 56]⟩, .string P, .string E0, .bool false] 27)
          clear HA hba s1 s2 s3 hmc
          generalize ((w2.alloc (.cells #[.string ⟨#[71, 69, 84]⟩, .string ⟨#[80, 79, 83, 84]⟩, .string ⟨#[79, 80, 84, 73, 79, 78, 83]⟩, .string ⟨#[72, 69, 65, 68]⟩] 9)).alloc (.cells #[.int .i64 1, .string E0, .string P, .string E0, .bool false] 27)).alloc (.cells #[.int .i64 2, .string ⟨#[104, 46, 111, 114, 103, 58, 56]⟩, .string P, .string E0, .bool false] 27) = W6 at *
          by_cases hopt : M.data.toList = options
          · rw [if_pos hopt] at hm3
            obtain ⟨t1, t2⟩ := eq_facts M [79, 80, 84, 73, 79, 78, 83] true (decide_eq_true hopt)
            have K24 : Hid (∀ w, Calls Tryd.prog 9 #[.string M, .string ⟨#[42]⟩] w fun e w' => e = .returned (.tuple #[tv 4 E0 E0 E0 false, .int .i64 0]) ∧ Below w.heap.size w w') := Lib.hid fun w => parse_known M ⟨#[42]⟩ w (by decide) (some ⟨4, [], [], [], false⟩) hm3
            clear hopt hm3
            obtain ⟨g0, g1, g2, g3, g4, _, _, _, _, _⟩ := T12.out
            go_wp2_with (first
              | (go_at_call 11; with_reducible refine (U12.out _).mono ?_; rintro e x6 ⟨rfl, hb⟩
                 replace T12 := Lib.hid (T12.out.below S12.out hb)
                 replace S12 := Lib.hid (Nat.lt_of_lt_of_le S12.out hb.size)
                 replace T13 := Lib.hid (T13.out.below S13.out hb)
                 replace S13 := Lib.hid (Nat.lt_of_lt_of_le S13.out hb.size)
                 replace T14 := Lib.hid (T14.out.below S14.out hb)
                 replace S14 := Lib.hid (Nat.lt_of_lt_of_le S14.out hb.size)
                 replace T16 := Lib.hid (T16.out.below S16.out hb)
                 replace S16 := Lib.hid (Nat.lt_of_lt_of_le S16.out hb.size)
                 replace T18 := Lib.hid (T18.out.below S18.out hb)
                 replace S18 := Lib.hid (Nat.lt_of_lt_of_le S18.out hb.size)
                 replace hc := Base.below_step hc hb
                 clear hb)
              | (go_at_call 11; with_reducible refine (U12.out _).mono ?_; rintro e x1 ⟨rfl, hb⟩
                 replace T12 := Lib.hid (T12.out.below S12.out hb)
                 replace S12 := Lib.hid (Nat.lt_of_lt_of_le S12.out hb.size)
                 replace T13 := Lib.hid (T13.out.below S13.out hb)
                 replace S13 := Lib.hid (Nat.lt_of_lt_of_le S13.out hb.size)
                 replace hc := Base.below_step hc hb
                 clear hb)
              | (go_at_call 9; with_reducible refine (K12.out _).mono ?_; rintro e x2 ⟨rfl, hb⟩
                 have hb' := hb.alloc hb.size (.cells #[.int .i64 1, .string E0, .string P, .string E0, .bool false] 27)
                 obtain ⟨j0, j1, j2, j3, j4, _, _, _, _, _⟩ := T13.out.below S13.out hb
                 have Bj := old_cell (Nat.lt_of_lt_of_le S13.out hb.size)
                 replace T12 := Lib.hid (T12.out.below S12.out hb')
                 replace S12 := Lib.hid (Nat.lt_of_lt_of_le S12.out hb'.size)
                 replace T13 := Lib.hid (T13.out.below S13.out hb')
                 replace S13 := Lib.hid (Nat.lt_of_lt_of_le S13.out hb'.size)
                 replace hc := Base.below_step hc hb'
                 clear hb hb'
                 have T14 := Lib.hid (Tgb.new x2 27 1 E0 P E0 false)
                 have S14 := Lib.hid (show x2.heap.size < (x2.alloc (.cells #[.int .i64 1, .string E0, .string P, .string E0, .bool false] 27)).heap.size by simp))
              | (go_at_call 11; with_reducible refine (U13.out _).mono ?_; rintro e x3 ⟨rfl, hb⟩
                 replace T12 := Lib.hid (T12.out.below S12.out hb)
                 replace S12 := Lib.hid (Nat.lt_of_lt_of_le S12.out hb.size)
                 replace T13 := Lib.hid (T13.out.below S13.out hb)
                 replace S13 := Lib.hid (Nat.lt_of_lt_of_le S13.out hb.size)
                 replace T14 := Lib.hid (T14.out.below S14.out hb)
                 replace S14 := Lib.hid (Nat.lt_of_lt_of_le S14.out hb.size)
                 replace hc := Base.below_step hc hb
                 clear hb)
              | (go_at_call 9; with_reducible refine (K13.out _).mono ?_; rintro e x4 ⟨rfl, hb⟩
                 have hb' := hb.alloc hb.size (.cells #[.int .i64 2, .string ⟨#[104, 46, 111, 114, 103, 58, 56]⟩, .string P, .string E0, .bool false] 27)
                 replace T12 := Lib.hid (T12.out.below S12.out hb')
                 replace S12 := Lib.hid (Nat.lt_of_lt_of_le S12.out hb'.size)
                 replace T13 := Lib.hid (T13.out.below S13.out hb')
                 replace S13 := Lib.hid (Nat.lt_of_lt_of_le S13.out hb'.size)
                 replace T14 := Lib.hid (T14.out.below S14.out hb')
                 replace S14 := Lib.hid (Nat.lt_of_lt_of_le S14.out hb'.size)
                 replace hc := Base.below_step hc hb'
                 clear hb hb'
                 have T16 := Lib.hid (Tgb.new x4 27 2 ⟨#[104, 46, 111, 114, 103, 58, 56]⟩ P E0 false)
                 have S16 := Lib.hid (show x4.heap.size < (x4.alloc (.cells #[.int .i64 2, .string ⟨#[104, 46, 111, 114, 103, 58, 56]⟩, .string P, .string E0, .bool false] 27)).heap.size by simp))
              | (go_at_call 9; with_reducible refine (K18.out _).mono ?_; rintro e x5 ⟨rfl, hb⟩
                 have hb' := hb.alloc hb.size (.cells #[.int .i64 3, .string ⟨#[104, 46, 111, 114, 103, 58, 56]⟩, .string E0, .string E0, .bool false] 27)
                 obtain ⟨l0, l1, l2, l3, l4, _, _, _, _, _⟩ := T12.out.below S12.out hb
                 have Bl := old_cell (Nat.lt_of_lt_of_le S12.out hb.size)
                 replace T12 := Lib.hid (T12.out.below S12.out hb')
                 replace S12 := Lib.hid (Nat.lt_of_lt_of_le S12.out hb'.size)
                 replace T13 := Lib.hid (T13.out.below S13.out hb')
                 replace S13 := Lib.hid (Nat.lt_of_lt_of_le S13.out hb'.size)
                 replace T14 := Lib.hid (T14.out.below S14.out hb')
                 replace S14 := Lib.hid (Nat.lt_of_lt_of_le S14.out hb'.size)
                 replace T16 := Lib.hid (T16.out.below S16.out hb')
                 replace S16 := Lib.hid (Nat.lt_of_lt_of_le S16.out hb'.size)
                 replace hc := Base.below_step hc hb'
                 clear hb hb'
                 have T18 := Lib.hid (Tgb.new x5 27 3 ⟨#[104, 46, 111, 114, 103, 58, 56]⟩ E0 E0 false)
                 have S18 := Lib.hid (show x5.heap.size < (x5.alloc (.cells #[.int .i64 3, .string ⟨#[104, 46, 111, 114, 103, 58, 56]⟩, .string E0, .string E0, .bool false] 27)).heap.size by simp))
              | (go_at_call 9; with_reducible refine (K20.out _).mono ?_; rintro e x7 ⟨rfl, hb⟩
                 have hb' := hb.alloc hb.size (.cells #[.int .i64 0, .string E0, .string E0, .string E0, .bool false] 27)
                 replace T12 := Lib.hid (T12.out.below S12.out hb')
                 replace S12 := Lib.hid (Nat.lt_of_lt_of_le S12.out hb'.size)
                 replace T13 := Lib.hid (T13.out.below S13.out hb')
                 replace S13 := Lib.hid (Nat.lt_of_lt_of_le S13.out hb'.size)
                 replace T14 := Lib.hid (T14.out.below S14.out hb')
                 replace S14 := Lib.hid (Nat.lt_of_lt_of_le S14.out hb'.size)
                 replace T16 := Lib.hid (T16.out.below S16.out hb')
                 replace S16 := Lib.hid (Nat.lt_of_lt_of_le S16.out hb'.size)
                 replace T18 := Lib.hid (T18.out.below S18.out hb')
                 replace S18 := Lib.hid (Nat.lt_of_lt_of_le S18.out hb'.size)
                 replace hc := Base.below_step hc hb'
                 clear hb hb')
              | (go_at_call 9; with_reducible refine (K22.out _).mono ?_; rintro e x8 ⟨rfl, hb⟩
                 have hb' := hb.alloc hb.size (.cells #[.int .i64 0, .string E0, .string E0, .string E0, .bool false] 27)
                 replace T12 := Lib.hid (T12.out.below S12.out hb')
                 replace S12 := Lib.hid (Nat.lt_of_lt_of_le S12.out hb'.size)
                 replace T13 := Lib.hid (T13.out.below S13.out hb')
                 replace S13 := Lib.hid (Nat.lt_of_lt_of_le S13.out hb'.size)
                 replace T14 := Lib.hid (T14.out.below S14.out hb')
                 replace S14 := Lib.hid (Nat.lt_of_lt_of_le S14.out hb'.size)
                 replace T16 := Lib.hid (T16.out.below S16.out hb')
                 replace S16 := Lib.hid (Nat.lt_of_lt_of_le S16.out hb'.size)
                 replace T18 := Lib.hid (T18.out.below S18.out hb')
                 replace S18 := Lib.hid (Nat.lt_of_lt_of_le S18.out hb'.size)
                 replace hc := Base.below_step hc hb'
                 clear hb hb')
              | (go_at_call 9; with_reducible refine (K24.out _).mono ?_; rintro e x9 ⟨rfl, hb⟩
                 obtain ⟨b0, b1, b2, b3, b4, _, _, _, _, _⟩ := T12.out.below S12.out hb
                 have A12 := old_cell (Nat.lt_of_lt_of_le S12.out hb.size)
                 obtain ⟨d0, d1, d2, d3, d4, _, _, _, _, _⟩ := T13.out.below S13.out hb
                 have A13 := old_cell (Nat.lt_of_lt_of_le S13.out hb.size)
                 obtain ⟨e0, e1, e2, e3, e4, _, _, _, _, _⟩ := T14.out.below S14.out hb
                 have A14 := old_cell (Nat.lt_of_lt_of_le S14.out hb.size)
                 obtain ⟨f0, f1, f2, f3, f4, _, _, _, _, _⟩ := T16.out.below S16.out hb
                 have A16 := old_cell (Nat.lt_of_lt_of_le S16.out hb.size)
                 obtain ⟨i0, i1, i2, i3, i4, _, _, _, _, _⟩ := T18.out.below S18.out hb
                 have A18 := old_cell (Nat.lt_of_lt_of_le S18.out hb.size)
                 replace hc := Base.below_step hc (hb.alloc hb.size (.cells #[.int .i64 4, .string E0, .string E0, .string E0, .bool false] 27))
                 clear hb T12 S12 T13 S13 T14 S14 T16 S16 T18 S18))
            go_ret
            exact ⟨rfl, hc⟩
          · rw [if_neg hopt] at hm3
            obtain ⟨t1, t2⟩ := eq_facts M [79, 80, 84, 73, 79, 78, 83] false (decide_eq_false hopt)
            have K24 : Hid (∀ w, Calls Tryd.prog 9 #[.string M, .string ⟨#[42]⟩] w fun e w' => e = .returned (.tuple #[tv 0 E0 E0 E0 false, .int .i64 400]) ∧ Below w.heap.size w w') := Lib.hid fun w => parse_known M ⟨#[42]⟩ w (by decide) none hm3
            clear hopt hm3
            obtain ⟨g0, g1, g2, g3, g4, _, _, _, _, _⟩ := T12.out
            go_wp2_with (first
              | (go_at_call 11; with_reducible refine (U12.out _).mono ?_; rintro e x6 ⟨rfl, hb⟩
                 replace T12 := Lib.hid (T12.out.below S12.out hb)
                 replace S12 := Lib.hid (Nat.lt_of_lt_of_le S12.out hb.size)
                 replace T13 := Lib.hid (T13.out.below S13.out hb)
                 replace S13 := Lib.hid (Nat.lt_of_lt_of_le S13.out hb.size)
                 replace T14 := Lib.hid (T14.out.below S14.out hb)
                 replace S14 := Lib.hid (Nat.lt_of_lt_of_le S14.out hb.size)
                 replace T16 := Lib.hid (T16.out.below S16.out hb)
                 replace S16 := Lib.hid (Nat.lt_of_lt_of_le S16.out hb.size)
                 replace T18 := Lib.hid (T18.out.below S18.out hb)
                 replace S18 := Lib.hid (Nat.lt_of_lt_of_le S18.out hb.size)
                 replace hc := Base.below_step hc hb
                 clear hb)
              | (go_at_call 11; with_reducible refine (U12.out _).mono ?_; rintro e x1 ⟨rfl, hb⟩
                 replace T12 := Lib.hid (T12.out.below S12.out hb)
                 replace S12 := Lib.hid (Nat.lt_of_lt_of_le S12.out hb.size)
                 replace T13 := Lib.hid (T13.out.below S13.out hb)
                 replace S13 := Lib.hid (Nat.lt_of_lt_of_le S13.out hb.size)
                 replace hc := Base.below_step hc hb
                 clear hb)
              | (go_at_call 9; with_reducible refine (K12.out _).mono ?_; rintro e x2 ⟨rfl, hb⟩
                 have hb' := hb.alloc hb.size (.cells #[.int .i64 1, .string E0, .string P, .string E0, .bool false] 27)
                 obtain ⟨j0, j1, j2, j3, j4, _, _, _, _, _⟩ := T13.out.below S13.out hb
                 have Bj := old_cell (Nat.lt_of_lt_of_le S13.out hb.size)
                 replace T12 := Lib.hid (T12.out.below S12.out hb')
                 replace S12 := Lib.hid (Nat.lt_of_lt_of_le S12.out hb'.size)
                 replace T13 := Lib.hid (T13.out.below S13.out hb')
                 replace S13 := Lib.hid (Nat.lt_of_lt_of_le S13.out hb'.size)
                 replace hc := Base.below_step hc hb'
                 clear hb hb'
                 have T14 := Lib.hid (Tgb.new x2 27 1 E0 P E0 false)
                 have S14 := Lib.hid (show x2.heap.size < (x2.alloc (.cells #[.int .i64 1, .string E0, .string P, .string E0, .bool false] 27)).heap.size by simp))
              | (go_at_call 11; with_reducible refine (U13.out _).mono ?_; rintro e x3 ⟨rfl, hb⟩
                 replace T12 := Lib.hid (T12.out.below S12.out hb)
                 replace S12 := Lib.hid (Nat.lt_of_lt_of_le S12.out hb.size)
                 replace T13 := Lib.hid (T13.out.below S13.out hb)
                 replace S13 := Lib.hid (Nat.lt_of_lt_of_le S13.out hb.size)
                 replace T14 := Lib.hid (T14.out.below S14.out hb)
                 replace S14 := Lib.hid (Nat.lt_of_lt_of_le S14.out hb.size)
                 replace hc := Base.below_step hc hb
                 clear hb)
              | (go_at_call 9; with_reducible refine (K13.out _).mono ?_; rintro e x4 ⟨rfl, hb⟩
                 have hb' := hb.alloc hb.size (.cells #[.int .i64 2, .string ⟨#[104, 46, 111, 114, 103, 58, 56]⟩, .string P, .string E0, .bool false] 27)
                 replace T12 := Lib.hid (T12.out.below S12.out hb')
                 replace S12 := Lib.hid (Nat.lt_of_lt_of_le S12.out hb'.size)
                 replace T13 := Lib.hid (T13.out.below S13.out hb')
                 replace S13 := Lib.hid (Nat.lt_of_lt_of_le S13.out hb'.size)
                 replace T14 := Lib.hid (T14.out.below S14.out hb')
                 replace S14 := Lib.hid (Nat.lt_of_lt_of_le S14.out hb'.size)
                 replace hc := Base.below_step hc hb'
                 clear hb hb'
                 have T16 := Lib.hid (Tgb.new x4 27 2 ⟨#[104, 46, 111, 114, 103, 58, 56]⟩ P E0 false)
                 have S16 := Lib.hid (show x4.heap.size < (x4.alloc (.cells #[.int .i64 2, .string ⟨#[104, 46, 111, 114, 103, 58, 56]⟩, .string P, .string E0, .bool false] 27)).heap.size by simp))
              | (go_at_call 9; with_reducible refine (K18.out _).mono ?_; rintro e x5 ⟨rfl, hb⟩
                 have hb' := hb.alloc hb.size (.cells #[.int .i64 3, .string ⟨#[104, 46, 111, 114, 103, 58, 56]⟩, .string E0, .string E0, .bool false] 27)
                 obtain ⟨l0, l1, l2, l3, l4, _, _, _, _, _⟩ := T12.out.below S12.out hb
                 have Bl := old_cell (Nat.lt_of_lt_of_le S12.out hb.size)
                 replace T12 := Lib.hid (T12.out.below S12.out hb')
                 replace S12 := Lib.hid (Nat.lt_of_lt_of_le S12.out hb'.size)
                 replace T13 := Lib.hid (T13.out.below S13.out hb')
                 replace S13 := Lib.hid (Nat.lt_of_lt_of_le S13.out hb'.size)
                 replace T14 := Lib.hid (T14.out.below S14.out hb')
                 replace S14 := Lib.hid (Nat.lt_of_lt_of_le S14.out hb'.size)
                 replace T16 := Lib.hid (T16.out.below S16.out hb')
                 replace S16 := Lib.hid (Nat.lt_of_lt_of_le S16.out hb'.size)
                 replace hc := Base.below_step hc hb'
                 clear hb hb'
                 have T18 := Lib.hid (Tgb.new x5 27 3 ⟨#[104, 46, 111, 114, 103, 58, 56]⟩ E0 E0 false)
                 have S18 := Lib.hid (show x5.heap.size < (x5.alloc (.cells #[.int .i64 3, .string ⟨#[104, 46, 111, 114, 103, 58, 56]⟩, .string E0, .string E0, .bool false] 27)).heap.size by simp))
              | (go_at_call 9; with_reducible refine (K20.out _).mono ?_; rintro e x7 ⟨rfl, hb⟩
                 have hb' := hb.alloc hb.size (.cells #[.int .i64 0, .string E0, .string E0, .string E0, .bool false] 27)
                 replace T12 := Lib.hid (T12.out.below S12.out hb')
                 replace S12 := Lib.hid (Nat.lt_of_lt_of_le S12.out hb'.size)
                 replace T13 := Lib.hid (T13.out.below S13.out hb')
                 replace S13 := Lib.hid (Nat.lt_of_lt_of_le S13.out hb'.size)
                 replace T14 := Lib.hid (T14.out.below S14.out hb')
                 replace S14 := Lib.hid (Nat.lt_of_lt_of_le S14.out hb'.size)
                 replace T16 := Lib.hid (T16.out.below S16.out hb')
                 replace S16 := Lib.hid (Nat.lt_of_lt_of_le S16.out hb'.size)
                 replace T18 := Lib.hid (T18.out.below S18.out hb')
                 replace S18 := Lib.hid (Nat.lt_of_lt_of_le S18.out hb'.size)
                 replace hc := Base.below_step hc hb'
                 clear hb hb')
              | (go_at_call 9; with_reducible refine (K22.out _).mono ?_; rintro e x8 ⟨rfl, hb⟩
                 have hb' := hb.alloc hb.size (.cells #[.int .i64 0, .string E0, .string E0, .string E0, .bool false] 27)
                 replace T12 := Lib.hid (T12.out.below S12.out hb')
                 replace S12 := Lib.hid (Nat.lt_of_lt_of_le S12.out hb'.size)
                 replace T13 := Lib.hid (T13.out.below S13.out hb')
                 replace S13 := Lib.hid (Nat.lt_of_lt_of_le S13.out hb'.size)
                 replace T14 := Lib.hid (T14.out.below S14.out hb')
                 replace S14 := Lib.hid (Nat.lt_of_lt_of_le S14.out hb'.size)
                 replace T16 := Lib.hid (T16.out.below S16.out hb')
                 replace S16 := Lib.hid (Nat.lt_of_lt_of_le S16.out hb'.size)
                 replace T18 := Lib.hid (T18.out.below S18.out hb')
                 replace S18 := Lib.hid (Nat.lt_of_lt_of_le S18.out hb'.size)
                 replace hc := Base.below_step hc hb'
                 clear hb hb')
              | (go_at_call 9; with_reducible refine (K24.out _).mono ?_; rintro e x9 ⟨rfl, hb⟩
                 obtain ⟨b0, b1, b2, b3, b4, _, _, _, _, _⟩ := T12.out.below S12.out hb
                 have A12 := old_cell (Nat.lt_of_lt_of_le S12.out hb.size)
                 obtain ⟨d0, d1, d2, d3, d4, _, _, _, _, _⟩ := T13.out.below S13.out hb
                 have A13 := old_cell (Nat.lt_of_lt_of_le S13.out hb.size)
                 obtain ⟨e0, e1, e2, e3, e4, _, _, _, _, _⟩ := T14.out.below S14.out hb
                 have A14 := old_cell (Nat.lt_of_lt_of_le S14.out hb.size)
                 obtain ⟨f0, f1, f2, f3, f4, _, _, _, _, _⟩ := T16.out.below S16.out hb
                 have A16 := old_cell (Nat.lt_of_lt_of_le S16.out hb.size)
                 obtain ⟨i0, i1, i2, i3, i4, _, _, _, _, _⟩ := T18.out.below S18.out hb
                 have A18 := old_cell (Nat.lt_of_lt_of_le S18.out hb.size)
                 replace hc := Base.below_step hc (hb.alloc hb.size (.cells #[.int .i64 0, .string E0, .string E0, .string E0, .bool false] 27))
                 clear hb T12 S12 T13 S13 T14 S14 T16 S16 T18 S18))
            go_ret
            exact ⟨rfl, hc⟩
end code
end Go.Proofs.YtnlphcchohbhgaaDoor.Tgt
