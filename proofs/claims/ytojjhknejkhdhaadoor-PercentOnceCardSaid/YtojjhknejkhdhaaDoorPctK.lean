/-
  Layer 19 (percent): what the laws share: known; parallaxseat.Path is SOME text of a small size.
-/
import Derived.Test.YtojjhknejkhdhaaDoorPctE
namespace Go.Proofs.YtojjhknejkhdhaaDoor.Pct
open Go.RowKit Base Txt

def kN : List UInt8 := [47, 97, 47, 37, 50, 101, 37, 50, 69, 47, 98, 37, 50, 102, 99]
theorem kN_norm : norm kN = some [47, 98, 37, 50, 70, 99] := by decide +kernel
theorem kA_norm : norm [97] = none := by decide +kernel
theorem kD_dec : repl plain [37, 52, 49, 98] = some [65, 98] := by decide +kernel
theorem kS_len : (segsB ⟨#[47, 97, 47, 98]⟩).length = 2 := by decide +kernel
theorem kU_len : (dotsB [⟨#[97]⟩, ⟨#[46, 46]⟩]).length = 1 := by decide +kernel
theorem Strs.lit (w : World) (g : Nat) (hg : g = w.heap.size) (t : TypeId) (ss : List ByteArray) (n : Nat) (hn : ss.length = n) (cs : Array Value) (hc : cs = (ss.map Value.string).toArray) : Strs (w.alloc (.cells cs t)) (some ⟨g, 0, none⟩) n ss := by
  subst hc; exact Strs.made w g hg t ss n hn
def pathL : List ByteArray := [⟨#[97]⟩, ⟨#[98]⟩, ⟨#[118, 49]⟩, ⟨#[105, 116, 101, 109]⟩, ⟨#[55]⟩, ⟨#[115, 116, 97, 116, 105, 99]⟩, ⟨#[99, 115, 115]⟩, ⟨#[]⟩, ⟨#[46, 46]⟩, ⟨#[46]⟩, ⟨#[37, 50, 101, 37, 50, 69]⟩, ⟨#[37, 52, 49]⟩, ⟨#[37, 50, 102]⟩, ⟨#[120]⟩, ⟨#[37, 122, 122]⟩, ⟨#[37, 67, 51, 37, 97, 57]⟩]
theorem pathL_size : ∀ k : Fin 16, (pathL[k.val]?.getD ByteArray.empty).size ≤ 6 := by decide +kernel
theorem rem_byte (b : UInt8) (m : Nat) : Int.tmod ((b.toNat : Nat) : Int) (m : Int) = ((b.toNat % m : Nat) : Int) := by
  rw [Int.tmod_eq_emod_of_nonneg (by omega)]; omega

section code
set_option maxHeartbeats 4000000
set_option maxRecDepth 100000
attribute [local go_sem] Base.some_undef
theorem known_any (w : World) : Calls Tryd.prog 7 #[] w fun e w' => e = .returned (.bool true) ∧ Below w.heap.size w w' := by
  have N1 : Hid (∀ w, Calls Tryd.prog 9 #[.string ⟨#[47, 97, 47, 37, 50, 101, 37, 50, 69, 47, 98, 37, 50, 102, 99]⟩] w fun e w' => e = .returned (.tuple #[.string ⟨#[47, 98, 37, 50, 70, 99]⟩, .bool true]) ∧ Below w.heap.size w w') :=
    Lib.hid (fun w => (norm_any ⟨#[47, 97, 47, 37, 50, 101, 37, 50, 69, 47, 98, 37, 50, 102, 99]⟩ w (by decide)).mono (by
      rintro e w' ⟨rfl, hb⟩
      exact ⟨by rw [show norm (⟨#[47, 97, 47, 37, 50, 101, 37, 50, 69, 47, 98, 37, 50, 102, 99]⟩ : ByteArray).data.toList = _ from kN_norm]; rfl, hb⟩))
  have N2 : Hid (∀ w, Calls Tryd.prog 9 #[.string ⟨#[97]⟩] w fun e w' => e = .returned (.tuple #[.string ⟨#[]⟩, .bool false]) ∧ Below w.heap.size w w') :=
    Lib.hid (fun w => (norm_any ⟨#[97]⟩ w (by decide)).mono (by
      rintro e w' ⟨rfl, hb⟩
      exact ⟨by rw [show norm (⟨#[97]⟩ : ByteArray).data.toList = _ from kA_norm]; rfl, hb⟩))
  have D1 : Hid (∀ w, Calls Tryd.prog 11 #[.string ⟨#[37, 52, 49, 98]⟩] w fun e w' => e = .returned (.tuple #[.string ⟨#[65, 98]⟩, .bool true]) ∧ Below w.heap.size w w') :=
    Lib.hid (fun w => (decode_any ⟨#[37, 52, 49, 98]⟩ w (by decide)).mono (by
      rintro e w' ⟨rfl, hb⟩
      exact ⟨by rw [show repl plain (⟨#[37, 52, 49, 98]⟩ : ByteArray).data.toList = _ from kD_dec]; rfl, hb⟩))
  have S1 : Hid (∀ w, Calls Tryd.prog 14 #[.string ⟨#[47, 97, 47, 98]⟩] w fun e w' => ∃ a c, e = .returned (.slice a 2 c) ∧ Below w.heap.size w w') :=
    Lib.hid (fun w => (segments_any ⟨#[47, 97, 47, 98]⟩ w (by decide)).mono (by
      rintro e w' ⟨a, n, c, rfl, hn, -, hb⟩
      rw [kS_len] at hn; subst hn; exact ⟨a, c, rfl, hb⟩))
  have U1 : Hid (∀ (w : World) (t : TypeId), Calls Tryd.prog 16 #[.slice (some ⟨w.heap.size, 0, none⟩) 2 2] (w.alloc (.cells #[.string ⟨#[97]⟩, .string ⟨#[46, 46]⟩] t)) fun e w' => ∃ a c, e = .returned (.slice a 1 c) ∧ Below w.heap.size w w') :=
    Lib.hid (fun w t => (dots_any _ 2 2 [⟨#[97]⟩, ⟨#[46, 46]⟩] _ (Strs.two w w.heap.size rfl t ⟨#[97]⟩ ⟨#[46, 46]⟩) (by decide)).mono (by
      rintro e w' ⟨a, n, c, rfl, hn, -, hb⟩
      rw [kU_len] at hn; subst hn; exact ⟨a, c, rfl, Base.below_step ((Below.refl _ _).alloc (Nat.le_refl _) _) hb⟩))
  go_enter Tryd.func7, Tryd.ntmps7
  go_wp2_with (first
    | (go_at_call 16; with_reducible refine (U1.out _ _).mono ?_; rintro e w5 ⟨a5, c5, rfl, hb⟩
       have b5 := Lib.hid (Base.below_step b4.out hb)
       clear hb)
    | (go_at_call 14; with_reducible refine (S1.out _).mono ?_; rintro e w4 ⟨a4, c4, rfl, hb⟩
       have b4 := Lib.hid (Base.below_step b3.out hb)
       clear hb)
    | (go_at_call 11; with_reducible refine (D1.out _).mono ?_; rintro e w3 ⟨rfl, hb⟩
       have b3 := Lib.hid (Base.below_step b2.out hb)
       clear hb)
    | (go_at_call 9; with_reducible refine (N2.out _).mono ?_; rintro e w2 ⟨rfl, hb⟩
       have b2 := Lib.hid (Base.below_step b1.out hb)
       clear hb)
    | (go_at_call 9; with_reducible refine (N1.out _).mono ?_; rintro e w1 ⟨rfl, hb⟩
       have b1 := Lib.hid hb
       clear hb))
  go_ret
  exact ⟨rfl, b5.out⟩
theorem path_any (a : Option Addr) (n cap : Nat) (bs : List UInt8) (w : World) (hv : Nums .u8 w a n (nums bs)) (hn : n ≤ 1000000000) :
    Calls Tryd.prog 8 #[.slice a n cap] w fun e w' => ∃ s : ByteArray, e = .returned (.string s) ∧ s.size ≤ 42 ∧ Below w.heap.size w w' := by
  have HV := Lib.hid hv
  have HL := Lib.hid (show bs.length = n by have := hv.1; rwa [nums, List.length_map] at this)
  clear hv
  go_enter Tryd.func8, Tryd.ntmps8
  go_wp2
  obtain ⟨W, hW⟩ : ∃ W, w.alloc (.cells #[.string ⟨#[97]⟩, .string ⟨#[98]⟩, .string ⟨#[118, 49]⟩, .string ⟨#[105, 116, 101, 109]⟩, .string ⟨#[55]⟩, .string ⟨#[115, 116, 97, 116, 105, 99]⟩, .string ⟨#[99, 115, 115]⟩, .string ⟨#[]⟩, .string ⟨#[46, 46]⟩, .string ⟨#[46]⟩, .string ⟨#[37, 50, 101, 37, 50, 69]⟩, .string ⟨#[37, 52, 49]⟩, .string ⟨#[37, 50, 102]⟩, .string ⟨#[120]⟩, .string ⟨#[37, 122, 122]⟩, .string ⟨#[37, 67, 51, 37, 97, 57]⟩] 9) = W := ⟨_, rfl⟩
  have HP : Hid (Strs W (some ⟨w.heap.size, 0, none⟩) 16 pathL) := Lib.hid (by rw [← hW]; exact Strs.made w w.heap.size rfl _ pathL 16 rfl)
  have HB : Hid (Below w.heap.size w W) := Lib.hid (by rw [← hW]; exact (Below.refl _ _).alloc (Nat.le_refl _) _)
  rw [hW]
  have HVW := Lib.hid (HV.out.below HB.out)
  generalize hgw : w.heap.size = g at *
  have HG := Lib.hid hgw
  clear hW hgw
  go_loop [4, 5] (fun t i => ∃ (k : Nat) (T : ByteArray), k ≤ n ∧ k ≤ 6 ∧ i = .int .i64 k ∧ t = .string T ∧ T.size ≤ 7 * k) (fun _ i => n - (intOf i).toNat)
  case atStart => exact ⟨0, ⟨#[]⟩, Nat.zero_le _, Nat.zero_le _, rfl, rfl, by decide⟩
  case round =>
    obtain ⟨k, T, hk, hk6, rfl, rfl, hT⟩ := hrel
    rcases Nat.lt_or_ge k n with hlt | hge
    · rcases Nat.lt_or_ge k 6 with hlt6 | hge6
      · obtain ⟨bl, off, rfl, hbl, hc⟩ := HVW.out.2 (by omega)
        have hc0 := hc k hlt
        rw [nums_at bs k (by rw [HL.out]; exact hlt)] at hc0
        generalize bs[k]'(by rw [HL.out]; exact hlt) = z at *
        have hrem : Int.tmod ((z.toNat : Nat) : Int) 16 = ((z.toNat % 16 : Nat) : Int) := rem_byte z 16
        have hq : z.toNat % 16 < 16 := Nat.mod_lt _ (by decide)
        generalize z.toNat % 16 = q at *
        obtain ⟨bl2, off2, e2, -, hc2⟩ := HP.out.2 (by decide)
        cases e2
        have hd0 := hc2 q hq
        rw [Nat.zero_add] at hd0
        have hf := pathL_size ⟨q, hq⟩
        simp only at hf
        generalize pathL[q]?.getD ByteArray.empty = f at *
        have v1 : ¬ 9223372036854775807 < T.size + 1 := by omega
        have v2 : ¬ 9223372036854775807 < T.size + 1 + f.size := by omega
        have hsz : ((T ++ ⟨#[47]⟩) ++ f).size = T.size + 1 + f.size := by rw [ByteArray.size_append, ByteArray.size_append]; rfl
        have q6 : (k : Int) < 6 := by omega
        have q7 : (q : Int) < 16 := by omega
        clear hc hc2
        go_wp2
        go_round
        case rel => exact ⟨k + 1, _, by omega, by omega, by go_num, rfl, by rw [hsz]; omega⟩
        case measure => simp [intOf]; omega
      · have q6 : ¬ (k : Int) < 6 := by omega
        go_wp2
        go_ret
        exact ⟨T, rfl, by omega, by rw [HG.out]; exact HB.out⟩
    · obtain rfl : k = n := by omega
      go_wp2
      go_ret
      exact ⟨T, rfl, by omega, by rw [HG.out]; exact HB.out⟩
end code
end Go.Proofs.YtojjhknejkhdhaaDoor.Pct
