/-
  Layer 8 (request): the walk of RequestMethods: it returns true, and writes nothing that was there.
-/
import Derived.Test.YtlignmlkoahbmaaDoorReqLaws
import Derived.Test.YtlignmlkoahbmaaDoorReqKnown
import Derived.Test.YtlignmlkoahbmaaDoorTextBase
namespace Go.Proofs.YtlignmlkoahbmaaDoor.Rq
open Go.RowKit Base Txt

def signs12 : List UInt8 := [71, 69, 84, 120, 45, 33, 126, 55, 40, 47, 58, 64]
def signAt (k : Nat) : UInt8 := signs12[k]?.getD 0
def methL (bs : List UInt8) : List UInt8 := bs.map fun b => signAt (b.toNat % 12)
def goodL (bs : List UInt8) : Bool := bs.all fun b => decide (b.toNat % 12 < 8)
theorem methL_snoc (bs : List UInt8) (k : Nat) (h : k < bs.length) : methL (bs.take (k + 1)) = methL (bs.take k) ++ [signAt (bs[k].toNat % 12)] := by
  unfold methL
  rw [List.take_succ_eq_append_getElem h, List.map_append, List.map_singleton]
theorem goodL_snoc (bs : List UInt8) (k : Nat) (h : k < bs.length) : goodL (bs.take (k + 1)) = (goodL (bs.take k) && decide (bs[k].toNat % 12 < 8)) := by
  unfold goodL
  rw [List.take_succ_eq_append_getElem h, List.all_append, List.all_cons, List.all_nil, Bool.and_true]
theorem sign_table : ∀ k : Fin 12, signAt k.val ≠ 32 ∧ signAt k.val ≠ 67 ∧ Oct.oneOf [1] ((signAt k.val).toNat : Int) = decide (k.val < 8) := by decide +kernel
theorem meth_req (bs : List UInt8) (old : Bool) (h : bs.length ≤ 20) : request c0 old (methL bs ++ 32 :: tailA) = if (decide (0 < bs.length) && goodL bs) = true then (methL bs, [47, 97], 1, 0) else badR := by
  have hs := fun b : UInt8 => sign_table ⟨b.toNat % 12, Nat.mod_lt _ (by decide)⟩
  rw [meth_line _ _ (by
    intro x hx
    obtain ⟨b, _, rfl⟩ := List.mem_map.1 hx
    exact (hs b).1) (by
    intro e
    have h67 : (67 : UInt8) ∈ methL bs := by rw [e]; decide
    obtain ⟨b, _, hb⟩ := List.mem_map.1 h67
    exact (hs b).2.1 hb)]
  have hall : Oct.allOf [1] (methL bs) = goodL bs := by
    unfold Oct.allOf methL goodL
    rw [List.all_map]
    congr 1
    funext b
    exact (hs b).2.2
  have hlen : (methL bs).length = bs.length := by unfold methL; rw [List.length_map]
  have hm : methOk (methL bs) = goodL bs := by unfold methOk; rw [hlen, decide_eq_true (by omega), hall]; rfl
  have hne : methL bs ≠ [] ↔ 0 < bs.length := by rw [← List.length_pos_iff, hlen]
  rw [hm]
  by_cases h0 : 0 < bs.length
  · by_cases hg : goodL bs = true
    · rw [if_pos ⟨hne.2 h0, hg⟩, if_pos (by rw [decide_eq_true h0, hg]; rfl)]
    · rw [if_neg (fun q => hg q.2), if_neg (by rw [decide_eq_true h0]; simpa using hg)]
  · rw [if_neg (fun q => h0 (hne.1 q.1)), if_neg (by rw [decide_eq_false h0]; simp)]
theorem long_req (q : Nat) (old : Bool) (h : 0 < q) : request c0 old (List.replicate q 77 ++ 32 :: tailA) = if decide (q ≤ 32) = true then (List.replicate q 77, [47, 97], 1, 0) else badR := by
  rw [meth_line _ _ (by
    intro x hx
    rw [(List.mem_replicate.1 hx).2]; decide) (by
    intro e
    have h67 : (67 : UInt8) ∈ List.replicate q (77 : UInt8) := by rw [e]; decide
    have := (List.mem_replicate.1 h67).2
    revert this; decide)]
  have hall : Oct.allOf [1] (List.replicate q (77 : UInt8)) = true := by
    unfold Oct.allOf
    rw [List.all_eq_true]
    intro x hx
    rw [(List.mem_replicate.1 hx).2]; decide
  have hm : methOk (List.replicate q (77 : UInt8)) = decide (q ≤ 32) := by unfold methOk; rw [hall, List.length_replicate, Bool.and_true]
  have hne : List.replicate q (77 : UInt8) ≠ [] := by
    rw [← List.length_pos_iff, List.length_replicate]; exact h
  rw [hm]
  by_cases hq : decide (q ≤ 32) = true
  · rw [if_pos ⟨hne, hq⟩, if_pos hq]
  · rw [if_neg (fun r => hq r.2), if_neg hq]
theorem rem_of (a m : Int) (hm : 0 < m) (h : 0 ≤ a) : ∃ r : Nat, (r : Int) < m ∧ a.tmod m = (r : Int) := by
  have h1 := Int.emod_nonneg a (show m ≠ 0 by omega)
  have h2 := Int.emod_lt_of_pos a hm
  exact ⟨(a % m).toNat, by omega, by rw [Int.tmod_eq_emod_of_nonneg h]; omega⟩
theorem small_wrap (N : Nat) (h : (N : Int) < 100000) : wrap64 (N : Int) = (N : Int) := by unfold wrap64; omega
theorem small_add (E : Nat) (h : (E : Int) < 5) : IntKind.i64.wrap (30 + (E : Int)) = ((30 + E : Nat) : Int) := by rw [wrap_in _ (by omega) (by omega)]; omega
theorem small_add2 (E : Nat) (h : (E : Int) < 5) : wrap64 (30 + (E : Int)) = ((30 + E : Nat) : Int) := by unfold wrap64; omega
theorem step_wrap (q : Nat) (h : q < 1000) : wrap64 ((q : Int) + 1) = ((q + 1 : Nat) : Int) := by unfold wrap64; omega
theorem app_list (a b : ByteArray) : (a ++ b).data.toList = a.data.toList ++ b.data.toList := by simp
theorem one_conv (w : World) (x : UInt8) : (convert 22 9 (.slice (some ⟨w.heap.size, 0, none⟩) 1 1)).run Tryd.prog (w.alloc (.cells #[.int .u8 x.toNat] 5)) = .ok (.string ⟨#[x]⟩) (w.alloc (.cells #[.int .u8 x.toNat] 5)) := by
  refine conv_str (w.alloc _) (some ⟨w.heap.size, 0, none⟩) 1 1 [x] ⟨rfl, fun _ => ⟨w.heap.size, 0, rfl, by simp, fun k hk => ?_⟩⟩
  obtain rfl : k = 0 := by omega
  exact cell_of_row (w.alloc (.cells #[.int .u8 x.toNat] 5)) w.heap.size 0 #[.int .u8 x.toNat] 5 (0, 0) (heap_alloc_new w _)
/-- What Parse answers of a line of whose method it is known whether it may be. -/
theorem parse_meth (S : ByteArray) (g : Bool) (w : World) (hS : S.size ≤ 1000) (h : request c0 true (S.data.toList ++ 32 :: tailA) = if g = true then (S.data.toList, [47, 97], 1, 0) else badR) :
    Calls Tryd.prog 10 #[.string (S ++ ⟨#[32, 47, 97, 32, 72, 84, 84, 80, 47, 49, 46, 49]⟩), .int .u32 0, ub true] w fun e w' => e = .returned (if g = true then .tuple #[.string S, .string ⟨#[47, 97]⟩, .int .i64 1, .int .i64 0] else .tuple #[.string ⟨#[]⟩, .string ⟨#[]⟩, .int .i64 0, .int .i64 400]) ∧ Below w.heap.size w w' := by
  have h2 : request (clOf 0) true (S ++ ⟨#[32, 47, 97, 32, 72, 84, 84, 80, 47, 49, 46, 49]⟩).data.toList = if g = true then (S.data.toList, [47, 97], 1, 0) else badR := by
    rw [clOf_zero, app_list]; exact h
  have h1 := parse_known (S ++ ⟨#[32, 47, 97, 32, 72, 84, 84, 80, 47, 49, 46, 49]⟩) 0 (by decide) 1024 32 8192 65536 32 8 4 20 true true w (by rw [ByteArray.size_append, show (ByteArray.mk #[32, 47, 97, 32, 72, 84, 84, 80, 47, 49, 46, 49]).size = 12 from rfl]; omega) _ h2
  cases g with
  | true => exact h1
  | false => exact h1

section code
set_option maxHeartbeats 2000000
attribute [local go_sem] Base.some_undef
set_option maxRecDepth 10000 in
theorem requestMethods_any (a : Option Addr) (n cap : Nat) (bs : List UInt8) (k : Int) (w : World) (hv : Nums .u8 w a n (nums bs)) (hn : n ≤ maxLen) (hk : 0 ≤ k ∧ k ≤ 255) :
    Calls Tryd.prog 5 #[.slice a n cap, .int .u8 k] w fun e w' => e = .returned (.bool true) ∧ Below w.heap.size w w' := by
  unfold maxLen at hn
  have HV := Lib.hid hv
  have hl : bs.length = n := by have := hv.1; rwa [nums, List.length_map] at this
  have HL := Lib.hid hl
  clear hv hl
  rcases Nat.lt_or_ge 20 n with c1 | c1
  · go_enter Tryd.func5, Tryd.ntmps5
    go_wp2_with (go_at_call 6; with_reducible refine (known_any _).mono ?_; rintro e w1 ⟨rfl, hb⟩)
    go_ret
    exact ⟨rfl, hb⟩
  obtain ⟨E, hE, hEm⟩ := rem_of k 5 (by decide) hk.1
  have RE := Lib.hid hEm
  clear hEm
  have WE := Lib.hid (small_wrap E (by omega))
  obtain ⟨L, hL, hLa⟩ : ∃ L : Nat, (30 ≤ L ∧ L < 35) ∧ IntKind.i64.wrap (30 + (E : Int)) = (L : Int) ∧ wrap64 (30 + (E : Int)) = (L : Int) := ⟨30 + E, by omega, small_add E hE, small_add2 E hE⟩
  have WA := Lib.hid hLa
  clear hLa
  obtain ⟨hL1, hL2⟩ := hL
  have HU := Lib.hid (fun w => Bnd.rusual_any w)
  clear hE hk
  go_enter Tryd.func5, Tryd.ntmps5
  go_wp2_with (first
    | (go_at_call 6; with_reducible refine (known_any _).mono ?_; rintro e w1 ⟨rfl, hb⟩; have hc := hb; clear hb)
    | (go_at_call 12; with_reducible refine (HU.out _).mono ?_; rintro e w2 ⟨rfl, hb⟩
       have A := Lib.hid (Bnd.At.new w2 26 1024 32 8192 65536 32 8 4 20 true true)
       have S0 := Lib.hid (show w2.heap.size < (w2.alloc (.cells (ubCells true) 26)).heap.size by simp)
       have HB1 := Lib.hid ((Base.below_step hc hb).alloc (Base.below_step hc hb).size (.cells (ubCells true) 26))
       clear hb hc))
  generalize w2.alloc (.cells #[.int .i64 1024, .int .i64 32, .int .i64 8192, .int .i64 65536, .int .i64 32, .int .i64 8, .int .i64 4, .int .i64 20, .bool true, .bool true] 26) = W1 at *
  generalize w2.heap.size = g0 at *
  go_loopw [6, 7, 8] (fun p gd i wr => ∃ (j : Nat) (P : ByteArray), j ≤ n ∧ i = .int .i64 j ∧ p = .string P ∧ gd = .bool (decide (0 < n) && goodL (bs.take j)) ∧ P.size ≤ j ∧ Hid (P.data.toList = methL (bs.take j)) ∧ Hid (Below W1.heap.size W1 wr)) (fun _ _ i _ => n - (intOf i).toNat)
  case atStart => exact ⟨0, ⟨#[]⟩, Nat.zero_le _, rfl, rfl, by simp [goodL], Nat.le_refl _, Lib.hid rfl, Lib.hid (Below.refl _ _)⟩
  case round =>
    obtain ⟨j, P, hj, rfl, rfl, rfl, hP, hPP, hbr⟩ := hrel
    rcases Nat.lt_or_ge j n with hlt | hge
    · have hjl : j < bs.length := by rw [HL.out]; exact hlt
      obtain ⟨bl, off, rfl, _, hcs⟩ := (HV.out.below (Base.below_step HB1.out hbr.out)).2 (by omega)
      have hck := hcs j hlt
      rw [nums_at bs j hjl] at hck
      have hsn := methL_snoc bs j hjl
      have hgn := goodL_snoc bs j hjl
      obtain ⟨x, hx⟩ : ∃ x, bs[j] = x := ⟨_, rfl⟩
      rw [hx] at hck hsn hgn
      clear hx hcs hjl
      have t1 : (j : Int) < (n : Int) := by omega
      have hn0 : decide (0 < n) = true := decide_eq_true (by omega)
      rw [hn0, Bool.true_and]
      obtain ⟨r, hr13, hxm⟩ := rem_of (x.toNat : Int) 12 (by decide) (by have := x.toNat_lt; exact Int.natCast_nonneg _)
      have hxr : x.toNat % 12 = r := by
        rw [Int.tmod_eq_emod_of_nonneg (Int.natCast_nonneg _)] at hxm
        exact_mod_cast hxm
      rw [hxr] at hsn hgn
      clear hxr
      have hix : ∀ hh, (ByteArray.mk #[71, 69, 84, 120, 45, 33, 126, 55, 40, 47, 58, 64])[r]'hh = signAt r := by
        intro hh
        have h1 := Lib.data_getElem? (ByteArray.mk #[71, 69, 84, 120, 45, 33, 126, 55, 40, 47, 58, 64]) r hh
        have h2 : signs12[r]? = some ((ByteArray.mk #[71, 69, 84, 120, 45, 33, 126, 55, 40, 47, 58, 64])[r]'hh) := h1
        unfold signAt
        rw [h2]; rfl
      obtain ⟨c, hc⟩ : ∃ c, signAt r = c := ⟨_, rfl⟩
      rw [hc] at hsn
      simp only [hc] at hix
      clear hc
      have hcv := one_conv wr c
      have hv1 : ¬ 9223372036854775807 < P.size + 1 := by omega
      have HSN : Hid ((P ++ ⟨#[c]⟩).data.toList = methL (bs.take (j + 1))) := Lib.hid (by rw [hsn, app_list, hPP.out])
      clear hsn
      generalize goodL (bs.take j) = G at *
      have hgn' : goodL (bs.take (j + 1)) = (G && decide (r < 8)) := hgn
      have HN0 := Lib.hid hn0
      clear hgn hn0 hPP
      cases G with
      | false =>
        have HGN := Lib.hid (show goodL (bs.take (j + 1)) = false by rw [hgn', Bool.false_and])
        clear hgn'
        go_wp2
        go_roundw
        case rel => exact ⟨j + 1, P ++ ⟨#[c]⟩, by omega, by go_num, rfl, by first | (rw [HGN.out]; done) | (rw [HGN.out]; rfl) | (rw [HGN.out, HN0.out]; rfl), by rw [ByteArray.size_append, show (ByteArray.mk #[c]).size = 1 from rfl]; omega, HSN, Lib.hid (hbr.out.alloc hbr.out.size (.cells #[.int .u8 c.toNat] 5))⟩
        case measure => simp [intOf]; omega
      | true =>
        rcases Nat.lt_or_ge r 8 with h10 | h10
        · have HGN := Lib.hid (show goodL (bs.take (j + 1)) = true by rw [hgn', decide_eq_true h10]; rfl)
          have q10 : (r : Int) < 8 := by omega
          clear hgn' h10
          go_wp2
          go_roundw
          case rel => exact ⟨j + 1, P ++ ⟨#[c]⟩, by omega, by go_num, rfl, by first | (rw [HGN.out]; done) | (rw [HGN.out]; rfl) | (rw [HGN.out, HN0.out]; rfl), by rw [ByteArray.size_append, show (ByteArray.mk #[c]).size = 1 from rfl]; omega, HSN, Lib.hid (hbr.out.alloc hbr.out.size (.cells #[.int .u8 c.toNat] 5))⟩
          case measure => simp [intOf]; omega
        · have HGN := Lib.hid (show goodL (bs.take (j + 1)) = false by rw [hgn', decide_eq_false (by omega)]; rfl)
          have q10 : ¬ (r : Int) < 8 := by omega
          clear hgn' h10
          go_wp2
          go_roundw
          case rel => exact ⟨j + 1, P ++ ⟨#[c]⟩, by omega, by go_num, rfl, by first | (rw [HGN.out]; done) | (rw [HGN.out]; rfl) | (rw [HGN.out, HN0.out]; rfl), by rw [ByteArray.size_append, show (ByteArray.mk #[c]).size = 1 from rfl]; omega, HSN, Lib.hid (hbr.out.alloc hbr.out.size (.cells #[.int .u8 c.toNat] 5))⟩
          case measure => simp [intOf]; omega
    · obtain rfl : j = n := by omega
      have t1 : ¬ (j : Int) < (j : Int) := by omega
      rw [List.take_of_length_le (by rw [HL.out]; exact Nat.le_refl _)]
      have hPf := hPP.out
      rw [List.take_of_length_le (by rw [HL.out]; exact Nat.le_refl _)] at hPf
      have hG : (decide (0 < j) && goodL bs) = (decide (0 < bs.length) && goodL bs) := by rw [HL.out]
      rw [hG]
      clear hG hPP
      have hX1 := meth_req bs true (by rw [HL.out]; exact c1)
      rw [← hPf] at hX1
      generalize (decide (0 < bs.length) && goodL bs) = G at *
      have X1 := Lib.hid (fun w => parse_meth P G w (by omega) hX1)
      clear hX1 hPf
      have hc := Lib.hid (Base.below_step HB1.out hbr.out)
      have A2 := Lib.hid (A.out.below S0.out hbr.out)
      have S2 := Lib.hid (Nat.lt_of_lt_of_le S0.out hbr.out.size)
      clear hbr HB1 A S0 HV
      go_wp2_with fail
      go_loop [9, 10] (fun s i => ∃ (q : Nat) (S : ByteArray), q ≤ L ∧ i = .int .i64 q ∧ s = .string S ∧ S.size ≤ q ∧ Hid (S.data.toList = List.replicate q 77)) (fun _ i => L - (intOf i).toNat)
      case atStart => exact ⟨0, ⟨#[]⟩, Nat.zero_le _, rfl, rfl, Nat.le_refl _, Lib.hid rfl⟩
      case round =>
        obtain ⟨q, S, hq, rfl, rfl, hS, hSS⟩ := hrel
        rcases Nat.lt_or_ge q L with hlq | hgq
        · have j1 : (q : Int) < (L : Int) := by omega
          have hv1 : ¬ 9223372036854775807 < S.size + 1 := by omega
          have HSN : Hid ((S ++ (⟨#[77]⟩ : ByteArray)).data.toList = List.replicate (q + 1) 77) := Lib.hid (by rw [app_list, hSS.out, List.replicate_succ'])
          have hSz : (S ++ (⟨#[77]⟩ : ByteArray)).size ≤ q + 1 := by rw [ByteArray.size_append, show (ByteArray.mk #[77]).size = 1 from rfl]; omega
          have HQW := Lib.hid (step_wrap q (by omega))
          clear hL1 hL2
          have hEm := RE.out; have hEw := WE.out; obtain ⟨hEa, hEa2⟩ := WA.out
          go_wp2
          rw [HQW.out]
          clear hEm hEw hEa hEa2
          go_round
          case rel => exact ⟨q + 1, _, by omega, rfl, rfl, hSz, HSN⟩
          case measure => simp [intOf]; omega
        · obtain rfl : q = L := by omega
          have j1 : ¬ (q : Int) < (q : Int) := by omega
          have hSz : S.size = q := by rw [← len, hSS.out, List.length_replicate]
          have u1 : ¬ 9223372036854775807 < P.size + 12 := by omega
          have u2 : ¬ 9223372036854775807 < S.size + 12 := by omega
          have X2 := Lib.hid (fun w => parse_meth S (decide (q ≤ 32)) w (by omega) (by rw [hSS.out]; exact long_req q true (by omega)))
          clear hSS hP hS
          obtain ⟨q0, q1, q2, q3, q4, q5, q6, q7, q8, q9⟩ := A2.out
          have hEm := RE.out; have hEw := WE.out; obtain ⟨hEa, hEa2⟩ := WA.out
          have HSZ := Lib.hid hSz
          have hz : (S.size : Int) ≤ 32 ↔ q ≤ 32 := by omega
          rcases Nat.lt_or_ge 32 q with h32 | h32
          · rw [decide_eq_false (by omega)] at X2
            have s5 : ¬ (S.size : Int) ≤ 32 := by omega
            simp only [Bool.false_eq_true, if_false] at X2
            clear hz hSz hL1 hL2 hq hgq
            cases G with
            | true =>
              simp only [if_true] at X1
              go_wp2_with (first
                | (go_at_call 10; with_reducible refine (X1.out _).mono ?_; rintro e w3 ⟨rfl, hb⟩
                   clear q0 q1 q2 q3 q4 q5 q6 q7 q8 q9
                   obtain ⟨q0, q1, q2, q3, q4, q5, q6, q7, q8, q9⟩ := A2.out.below S2.out hb
                   replace hc := Lib.hid (Base.below_step hc.out hb)
                   clear hb)
                | (go_at_call 10; with_reducible refine (X2.out _).mono ?_; rintro e w4 ⟨rfl, hb⟩; replace hc := Lib.hid (Base.below_step hc.out hb); clear hb))
              go_ret
              exact ⟨by first | rfl | simp [s5], hc.out⟩
            | false =>
              simp only [Bool.false_eq_true, if_false] at X1
              go_wp2_with (first
                | (go_at_call 10; with_reducible refine (X1.out _).mono ?_; rintro e w3 ⟨rfl, hb⟩
                   clear q0 q1 q2 q3 q4 q5 q6 q7 q8 q9
                   obtain ⟨q0, q1, q2, q3, q4, q5, q6, q7, q8, q9⟩ := A2.out.below S2.out hb
                   replace hc := Lib.hid (Base.below_step hc.out hb)
                   clear hb)
                | (go_at_call 10; with_reducible refine (X2.out _).mono ?_; rintro e w4 ⟨rfl, hb⟩; replace hc := Lib.hid (Base.below_step hc.out hb); clear hb))
              go_ret
              exact ⟨by first | rfl | simp [s5], hc.out⟩
          · rw [decide_eq_true (by omega)] at X2
            have s5 : (S.size : Int) ≤ 32 := by omega
            simp only [if_true] at X2
            clear hz hSz hL1 hL2 hq hgq
            cases G with
            | true =>
              simp only [if_true] at X1
              go_wp2_with (first
                | (go_at_call 10; with_reducible refine (X1.out _).mono ?_; rintro e w3 ⟨rfl, hb⟩
                   clear q0 q1 q2 q3 q4 q5 q6 q7 q8 q9
                   obtain ⟨q0, q1, q2, q3, q4, q5, q6, q7, q8, q9⟩ := A2.out.below S2.out hb
                   replace hc := Lib.hid (Base.below_step hc.out hb)
                   clear hb)
                | (go_at_call 10; with_reducible refine (X2.out _).mono ?_; rintro e w4 ⟨rfl, hb⟩; replace hc := Lib.hid (Base.below_step hc.out hb); clear hb))
              go_ret
              exact ⟨by first | rfl | simp [s5], hc.out⟩
            | false =>
              simp only [Bool.false_eq_true, if_false] at X1
              go_wp2_with (first
                | (go_at_call 10; with_reducible refine (X1.out _).mono ?_; rintro e w3 ⟨rfl, hb⟩
                   clear q0 q1 q2 q3 q4 q5 q6 q7 q8 q9
                   obtain ⟨q0, q1, q2, q3, q4, q5, q6, q7, q8, q9⟩ := A2.out.below S2.out hb
                   replace hc := Lib.hid (Base.below_step hc.out hb)
                   clear hb)
                | (go_at_call 10; with_reducible refine (X2.out _).mono ?_; rintro e w4 ⟨rfl, hb⟩; replace hc := Lib.hid (Base.below_step hc.out hb); clear hb))
              go_ret
              exact ⟨by first | rfl | simp [s5], hc.out⟩
end code
end Go.Proofs.YtlignmlkoahbmaaDoor.Rq
