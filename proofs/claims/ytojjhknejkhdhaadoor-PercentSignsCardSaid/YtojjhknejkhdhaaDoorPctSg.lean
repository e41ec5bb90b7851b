/-
  Layer 19 (percent): the law on each byte's one way to be written: PercentSigns.
-/
import Derived.Test.YtojjhknejkhdhaaDoorPctK
import Derived.Deep.CutBlock
import Derived.Deep.DeepCutAuto
namespace Go.Proofs.YtojjhknejkhdhaaDoor.Pct
open Go.RowKit Base Txt

def dgt (b : Bool) (n : Nat) : UInt8 := if n < 10 then UInt8.ofNat (48 + n) else if b then UInt8.ofNat (55 + n) else UInt8.ofNat (87 + n)
def sigL (b : Bool) (x : UInt8) : List UInt8 := [47, 97, 37, dgt b (x.toNat / 16), dgt b (x.toNat % 16), 122]
def wantL (x : UInt8) : List UInt8 := if bare x then [47, 97, x, 122] else [47, 97, 37, dgt true (x.toNat / 16), dgt true (x.toNat % 16), 122]
theorem sig_norm (b : Bool) (x : UInt8) : norm (sigL b x) = some (wantL x) := by
  have h : ∀ b : Bool, ∀ k : Fin 256, (norm (sigL b (UInt8.ofNat k.val)) == some (wantL (UInt8.ofNat k.val))) = true := by decide +kernel
  have := any_byte (p := fun x => norm (sigL b x) == some (wantL x)) (h b) x
  simpa using this
theorem sig_dec (b : Bool) (x : UInt8) : repl plain (sigL b x) = some [47, 97, x, 122] := by
  have h : ∀ b : Bool, ∀ k : Fin 256, (repl plain (sigL b (UInt8.ofNat k.val)) == some [47, 97, UInt8.ofNat k.val, 122]) = true := by decide +kernel
  have := any_byte (p := fun x => repl plain (sigL b x) == some [47, 97, x, 122]) (h b) x
  simpa using this
theorem want_dec (x : UInt8) : repl plain (wantL x) = some [47, 97, x, 122] := by
  have h : ∀ k : Fin 256, (repl plain (wantL (UInt8.ofNat k.val)) == some [47, 97, UInt8.ofNat k.val, 122]) = true := by decide +kernel
  have := any_byte (p := fun x => repl plain (wantL x) == some [47, 97, x, 122]) h x
  simpa using this
def digs (b : Bool) : ByteArray := if b then ⟨#[48, 49, 50, 51, 52, 53, 54, 55, 56, 57, 65, 66, 67, 68, 69, 70]⟩ else ⟨#[48, 49, 50, 51, 52, 53, 54, 55, 56, 57, 97, 98, 99, 100, 101, 102]⟩
theorem digs_at (b : Bool) (n : Nat) (h : n < 16) : (digs b).extract n (n + 1) = ba [dgt b n] := by
  have t : ∀ b : Bool, ∀ k : Fin 16, ((digs b).extract k.val (k.val + 1)).data.toList = [dgt b k.val] := by decide +kernel
  exact Txt.ba_ext (t b ⟨n, h⟩)

section code
set_option maxHeartbeats 4000000
set_option maxRecDepth 100000
attribute [local go_sem] Base.some_undef
theorem conv_byte (x : UInt8) (W : World) (t : TypeId) : (convert 22 9 (.slice (some ⟨W.heap.size, 0, none⟩) 1 1)).run Tryd.prog (W.alloc (.cells #[.int .u8 (x.toNat : Int)] t)) = .ok (.string ⟨#[x]⟩) (W.alloc (.cells #[.int .u8 (x.toNat : Int)] t)) := by
  refine conv_str _ _ 1 1 [x] ⟨rfl, fun _ => ⟨_, 0, rfl, by simp, fun k hk => ?_⟩⟩
  obtain rfl : k = 0 := by omega
  rw [Nat.add_zero, cell_of_row _ _ 0 _ t (0, 0) (heap_alloc_new W _)]; rfl
def freeN (n : Int) : Bool := (decide (97 ≤ n) && decide (n ≤ 122) || decide (65 ≤ n) && decide (n ≤ 90)) || (decide (48 ≤ n) && decide (n ≤ 57)) || decide (n = 45) || decide (n = 46) || decide (n = 95) || decide (n = 126)
theorem freeN_bare (x : UInt8) : freeN (x.toNat : Int) = bare x := by
  have h : ∀ k : Fin 256, (freeN ((UInt8.ofNat k.val).toNat : Int) == bare (UInt8.ofNat k.val)) = true := by decide +kernel
  have := any_byte (p := fun x => freeN (x.toNat : Int) == bare x) h x
  simpa using this
/-- The ways in which the law's tests of a byte come out. -/
theorem sign_ways (x : UInt8) :
    (bare x = true ∧ 97 ≤ (x.toNat : Int) ∧ (x.toNat : Int) ≤ 122) ∨
    (bare x = true ∧ ¬ 97 ≤ (x.toNat : Int) ∧ 65 ≤ (x.toNat : Int) ∧ (x.toNat : Int) ≤ 90) ∨
    (bare x = true ∧ ¬ 97 ≤ (x.toNat : Int) ∧ ¬ 65 ≤ (x.toNat : Int) ∧ 48 ≤ (x.toNat : Int) ∧ (x.toNat : Int) ≤ 57) ∨
    (97 ≤ (x.toNat : Int) ∧ ¬ (x.toNat : Int) ≤ 122 ∧ 65 ≤ (x.toNat : Int) ∧ ¬ (x.toNat : Int) ≤ 90 ∧ 48 ≤ (x.toNat : Int) ∧ ¬ (x.toNat : Int) ≤ 57 ∧ ((x.toNat : Int) == 45) = false ∧ ((x.toNat : Int) == 46) = false ∧ ((x.toNat : Int) == 95) = false ∧ ((x.toNat : Int) == 126) = bare x) ∨
    (¬ 97 ≤ (x.toNat : Int) ∧ 65 ≤ (x.toNat : Int) ∧ ¬ (x.toNat : Int) ≤ 90 ∧ 48 ≤ (x.toNat : Int) ∧ ¬ (x.toNat : Int) ≤ 57 ∧ ((x.toNat : Int) == 45) = false ∧ ((x.toNat : Int) == 46) = false ∧ ((x.toNat : Int) == 95) = bare x ∧ ((x.toNat : Int) == 126) = false) ∨
    (¬ 97 ≤ (x.toNat : Int) ∧ ¬ 65 ≤ (x.toNat : Int) ∧ 48 ≤ (x.toNat : Int) ∧ ¬ (x.toNat : Int) ≤ 57 ∧ ((x.toNat : Int) == 45) = false ∧ ((x.toNat : Int) == 46) = false ∧ ((x.toNat : Int) == 95) = false ∧ ((x.toNat : Int) == 126) = bare x) ∨
    (¬ 97 ≤ (x.toNat : Int) ∧ ¬ 65 ≤ (x.toNat : Int) ∧ ¬ 48 ≤ (x.toNat : Int) ∧ ((x.toNat : Int) == 45) = bare x ∧ ((x.toNat : Int) == 46) = false ∧ ((x.toNat : Int) == 95) = false ∧ ((x.toNat : Int) == 126) = false) ∨
    (¬ 97 ≤ (x.toNat : Int) ∧ ¬ 65 ≤ (x.toNat : Int) ∧ ¬ 48 ≤ (x.toNat : Int) ∧ ((x.toNat : Int) == 45) = false ∧ ((x.toNat : Int) == 46) = true ∧ bare x = true) := by
  have h : ∀ k : Fin 256, let n : Int := ((UInt8.ofNat k.val).toNat : Int); let v := bare (UInt8.ofNat k.val);
      ((v && decide (97 ≤ n) && decide (n ≤ 122)) ||
       (v && !decide (97 ≤ n) && decide (65 ≤ n) && decide (n ≤ 90)) ||
       (v && !decide (97 ≤ n) && !decide (65 ≤ n) && decide (48 ≤ n) && decide (n ≤ 57)) ||
       (decide (97 ≤ n) && !decide (n ≤ 122) && decide (65 ≤ n) && !decide (n ≤ 90) && decide (48 ≤ n) && !decide (n ≤ 57) && !(n == 45) && !(n == 46) && !(n == 95) && ((n == 126) == v)) ||
       (!decide (97 ≤ n) && decide (65 ≤ n) && !decide (n ≤ 90) && decide (48 ≤ n) && !decide (n ≤ 57) && !(n == 45) && !(n == 46) && ((n == 95) == v) && !(n == 126)) ||
       (!decide (97 ≤ n) && !decide (65 ≤ n) && decide (48 ≤ n) && !decide (n ≤ 57) && !(n == 45) && !(n == 46) && !(n == 95) && ((n == 126) == v)) ||
       (!decide (97 ≤ n) && !decide (65 ≤ n) && !decide (48 ≤ n) && ((n == 45) == v) && !(n == 46) && !(n == 95) && !(n == 126)) ||
       (!decide (97 ≤ n) && !decide (65 ≤ n) && !decide (48 ≤ n) && !(n == 45) && (n == 46) && v)) = true := by decide +kernel
  have := h ⟨x.toNat, x.toNat_lt⟩
  simp only [show UInt8.ofNat x.toNat = x by simp] at this
  simp only [Bool.or_eq_true, Bool.and_eq_true, Bool.not_eq_true', decide_eq_true_eq, decide_eq_false_iff_not, beq_iff_eq (α := Bool), and_assoc, or_assoc] at this
  exact this
theorem signs_core (x : UInt8) (b : Bool) (w : World) :
    Calls Tryd.prog 5 #[.int .u8 (x.toNat : Int), .bool b] w fun e w' => e = .returned (.bool true) ∧ Below w.heap.size w w' := by
  have HK := Lib.hid (known_any w)
  have hx1 := byte_lt x
  have hh : x.toNat / 16 < 16 := by have := x.toNat_lt; omega
  have hl : x.toNat % 16 < 16 := by omega
  have b1 : IntKind.u8.wrap ((x.toNat : Int) / 16) = ((x.toNat / 16 : Nat) : Int) := by rw [IntKind.wrap_u8]; omega
  have b2 : IntKind.u8.wrap (((x.toNat / 16 : Nat) : Int) + 1) = ((x.toNat / 16 + 1 : Nat) : Int) := by rw [IntKind.wrap_u8]; omega
  cases b
  · go_enter Tryd.func5, Tryd.ntmps5
    go_upto_region 6 with (go_at_call 7; with_reducible refine HK.out.mono ?_; rintro e w1 ⟨rfl, hb1⟩
                           have B1 := Lib.hid hb1
                           clear hb1)
    go_quiet (fail)
    rename_i nq
    have B2 := Lib.hid (Base.below_drewN B1.out nq)
    have E1 : (⟨#[48, 49, 50, 51, 52, 53, 54, 55, 56, 57, 97, 98, 99, 100, 101, 102]⟩ : ByteArray).extract (x.toNat / 16) (x.toNat / 16 + 1) = ba [dgt false (x.toNat / 16)] := digs_at false _ hh
    have E2 : (⟨#[48, 49, 50, 51, 52, 53, 54, 55, 56, 57, 97, 98, 99, 100, 101, 102]⟩ : ByteArray).extract (x.toNat % 16) (x.toNat % 16 + 1) = ba [dgt false (x.toNat % 16)] := digs_at false _ hl
    have hS : (⟨#[47, 97, 37]⟩ : ByteArray) ++ ba [dgt false (x.toNat / 16)] ++ ba [dgt false (x.toNat % 16)] ++ ⟨#[122]⟩ = ba (sigL false x) := Txt.ba_ext (by simp [ByteArray.data_append, ba, sigL])
    have N1 := Lib.hid (fun w => norm_any (ba (sigL false x)) w (by rw [ba_size]; show 6 ≤ 100000; decide))
    have D1 := Lib.hid (fun w => decode_any (ba (sigL false x)) w (by rw [ba_size]; show 6 ≤ 1000000000; decide))
    rw [show (ba (sigL false x)).data.toList = sigL false x from rfl, sig_norm, show ans (some (wantL x)) = .tuple #[.string (ba (wantL x)), .bool true] from rfl] at N1
    rw [show (ba (sigL false x)).data.toList = sigL false x from rfl, sig_dec, show ans (some [47, 97, x, 122]) = .tuple #[.string (ba [47, 97, x, 122]), .bool true] from rfl] at D1
    rw [E1, E2, hS]
    generalize w1.drewN nq = W2 at *
    generalize ba (sigL false x) = T at *
    clear E1 E2 hS B1
    go_upto_region 7 with fail
    go_cut [7] from 35 to 72 (fun f wx => f = .bool (bare x) ∧ wx = W2)
    case first =>
      have HX := Lib.hid hx1
      clear b1 b2 hx1 hh hl
      rcases sign_ways x with ⟨hb, y1, y2⟩ | ⟨hb, y1, y2, y3⟩ | ⟨hb, y1, y2, y3, y4⟩ | ⟨y1, y2, y3, y4, y5, y6, y7, y8, y9, ya⟩ | ⟨y1, y3, y4, y5, y6, y7, y8, y9, ya⟩ | ⟨y1, y3, y5, y6, y7, y8, y9, ya⟩ | ⟨y1, y3, y5, y7, y8, y9, ya⟩ | ⟨y1, y3, y5, y7, y8, hb⟩
      all_goals
        generalize bare x = bv at *
        cases bv
        all_goals
          first
            | (exfalso; simp at hb; done)
            | (go_wp2_with fail
               go_meet
               case rel => exact ⟨rfl, rfl⟩)
    case rest =>
      obtain ⟨rfl, hw0⟩ := hcut
      rw [hw0]
      clear hw0
      go_upto_region 8 with fail
      go_quiet (fail)
      have B3 := Lib.hid (Base.below_drewN B2.out nq)
      have E3 : (⟨#[48, 49, 50, 51, 52, 53, 54, 55, 56, 57, 65, 66, 67, 68, 69, 70]⟩ : ByteArray).extract (x.toNat / 16) (x.toNat / 16 + 1) = ba [dgt true (x.toNat / 16)] := digs_at true _ hh
      have E4 : (⟨#[48, 49, 50, 51, 52, 53, 54, 55, 56, 57, 65, 66, 67, 68, 69, 70]⟩ : ByteArray).extract (x.toNat % 16) (x.toNat % 16 + 1) = ba [dgt true (x.toNat % 16)] := digs_at true _ hl
      have hU : (⟨#[47, 97, 37]⟩ : ByteArray) ++ ba [dgt true (x.toNat / 16)] ++ ba [dgt true (x.toNat % 16)] ++ ⟨#[122]⟩ = ba (sigL true x) := Txt.ba_ext (by simp [ByteArray.data_append, ba, sigL])
      have hY : (⟨#[47, 97]⟩ : ByteArray) ++ ⟨#[x]⟩ ++ ⟨#[122]⟩ = ba [47, 97, x, 122] := Txt.ba_ext (by simp [ByteArray.data_append, ba])
      have hcv := conv_byte x
      have D2 := Lib.hid (fun w => decode_any (ba (wantL x)) w (by rw [ba_size]; unfold wantL; split <;> (first | (show 4 ≤ 1000000000; decide) | (show 6 ≤ 1000000000; decide))))
      rw [show (ba (wantL x)).data.toList = wantL x from rfl, want_dec, show ans (some [47, 97, x, 122]) = .tuple #[.string (ba [47, 97, x, 122]), .bool true] from rfl] at D2
      rw [E3, E4, hU]
      clear E3 E4 hU b1 b2 hh hl
      generalize W2.drewN nq = W3 at *
      cases hb : bare x with
      | false =>
        have hw : wantL x = sigL true x := by unfold wantL sigL; rw [hb]; rfl
        rw [hw] at N1 D2
        clear hw hb
        generalize ba (sigL true x) = U at *
        generalize ba [47, 97, x, 122] = Y at *
        go_wp2_with (first
          | (go_at_call 11; with_reducible refine (D2.out _).mono ?_; rintro e w6 ⟨rfl, hb6⟩
             have B6 := Lib.hid (Base.below_step B5.out hb6)
             clear hb6)
          | (go_at_call 11; with_reducible refine (D1.out _).mono ?_; rintro e w5 ⟨rfl, hb5⟩
             have B5 := Lib.hid (Base.below_step B4.out hb5)
             clear hb5)
          | (go_at_call 9; with_reducible refine (N1.out _).mono ?_; rintro e w4 ⟨rfl, hb4⟩
             have B4 := Lib.hid (Base.below_step B3.out hb4)
             clear hb4))
        go_ret
        exact ⟨rfl, B6.out.alloc B6.out.size _⟩
      | true =>
        have hw : wantL x = [47, 97, x, 122] := by unfold wantL; rw [hb]; rfl
        rw [hw] at N1 D2
        clear hw hb
        generalize ba (sigL true x) = U at *
        generalize ba [47, 97, x, 122] = Y at *
        go_wp2_with (first
          | (go_at_call 11; with_reducible refine (D2.out _).mono ?_; rintro e w6 ⟨rfl, hb6⟩
             have B6 := Lib.hid (Base.below_step B5.out hb6)
             clear hb6)
          | (go_at_call 11; with_reducible refine (D1.out _).mono ?_; rintro e w5 ⟨rfl, hb5⟩
             have B5 := Lib.hid (Base.below_step B4.out hb5)
             clear hb5)
          | (go_at_call 9; with_reducible refine (N1.out _).mono ?_; rintro e w4 ⟨rfl, hb4⟩
             have B4 := Lib.hid (Base.below_step (B3.out.alloc B3.out.size _) hb4)
             clear hb4))
        go_ret
        exact ⟨rfl, B6.out.alloc B6.out.size _⟩
  · go_enter Tryd.func5, Tryd.ntmps5
    go_upto_region 6 with (go_at_call 7; with_reducible refine HK.out.mono ?_; rintro e w1 ⟨rfl, hb1⟩
                           have B1 := Lib.hid hb1
                           clear hb1)
    go_quiet (fail)
    rename_i nq
    have B2 := Lib.hid (Base.below_drewN B1.out nq)
    have E1 : (⟨#[48, 49, 50, 51, 52, 53, 54, 55, 56, 57, 65, 66, 67, 68, 69, 70]⟩ : ByteArray).extract (x.toNat / 16) (x.toNat / 16 + 1) = ba [dgt true (x.toNat / 16)] := digs_at true _ hh
    have E2 : (⟨#[48, 49, 50, 51, 52, 53, 54, 55, 56, 57, 65, 66, 67, 68, 69, 70]⟩ : ByteArray).extract (x.toNat % 16) (x.toNat % 16 + 1) = ba [dgt true (x.toNat % 16)] := digs_at true _ hl
    have hS : (⟨#[47, 97, 37]⟩ : ByteArray) ++ ba [dgt true (x.toNat / 16)] ++ ba [dgt true (x.toNat % 16)] ++ ⟨#[122]⟩ = ba (sigL true x) := Txt.ba_ext (by simp [ByteArray.data_append, ba, sigL])
    have N1 := Lib.hid (fun w => norm_any (ba (sigL true x)) w (by rw [ba_size]; show 6 ≤ 100000; decide))
    have D1 := Lib.hid (fun w => decode_any (ba (sigL true x)) w (by rw [ba_size]; show 6 ≤ 1000000000; decide))
    rw [show (ba (sigL true x)).data.toList = sigL true x from rfl, sig_norm, show ans (some (wantL x)) = .tuple #[.string (ba (wantL x)), .bool true] from rfl] at N1
    rw [show (ba (sigL true x)).data.toList = sigL true x from rfl, sig_dec, show ans (some [47, 97, x, 122]) = .tuple #[.string (ba [47, 97, x, 122]), .bool true] from rfl] at D1
    rw [E1, E2, hS]
    generalize w1.drewN nq = W2 at *
    generalize ba (sigL true x) = T at *
    clear E1 E2 hS B1
    go_upto_region 7 with fail
    go_cut [7] from 35 to 72 (fun f wx => f = .bool (bare x) ∧ wx = W2)
    case first =>
      have HX := Lib.hid hx1
      clear b1 b2 hx1 hh hl
      rcases sign_ways x with ⟨hb, y1, y2⟩ | ⟨hb, y1, y2, y3⟩ | ⟨hb, y1, y2, y3, y4⟩ | ⟨y1, y2, y3, y4, y5, y6, y7, y8, y9, ya⟩ | ⟨y1, y3, y4, y5, y6, y7, y8, y9, ya⟩ | ⟨y1, y3, y5, y6, y7, y8, y9, ya⟩ | ⟨y1, y3, y5, y7, y8, y9, ya⟩ | ⟨y1, y3, y5, y7, y8, hb⟩
      all_goals
        generalize bare x = bv at *
        cases bv
        all_goals
          first
            | (exfalso; simp at hb; done)
            | (go_wp2_with fail
               go_meet
               case rel => exact ⟨rfl, rfl⟩)
    case rest =>
      obtain ⟨rfl, hw0⟩ := hcut
      rw [hw0]
      clear hw0
      go_upto_region 8 with fail
      go_quiet (fail)
      have B3 := Lib.hid (Base.below_drewN B2.out nq)
      have E3 : (⟨#[48, 49, 50, 51, 52, 53, 54, 55, 56, 57, 65, 66, 67, 68, 69, 70]⟩ : ByteArray).extract (x.toNat / 16) (x.toNat / 16 + 1) = ba [dgt true (x.toNat / 16)] := digs_at true _ hh
      have E4 : (⟨#[48, 49, 50, 51, 52, 53, 54, 55, 56, 57, 65, 66, 67, 68, 69, 70]⟩ : ByteArray).extract (x.toNat % 16) (x.toNat % 16 + 1) = ba [dgt true (x.toNat % 16)] := digs_at true _ hl
      have hU : (⟨#[47, 97, 37]⟩ : ByteArray) ++ ba [dgt true (x.toNat / 16)] ++ ba [dgt true (x.toNat % 16)] ++ ⟨#[122]⟩ = ba (sigL true x) := Txt.ba_ext (by simp [ByteArray.data_append, ba, sigL])
      have hY : (⟨#[47, 97]⟩ : ByteArray) ++ ⟨#[x]⟩ ++ ⟨#[122]⟩ = ba [47, 97, x, 122] := Txt.ba_ext (by simp [ByteArray.data_append, ba])
      have hcv := conv_byte x
      have D2 := Lib.hid (fun w => decode_any (ba (wantL x)) w (by rw [ba_size]; unfold wantL; split <;> (first | (show 4 ≤ 1000000000; decide) | (show 6 ≤ 1000000000; decide))))
      rw [show (ba (wantL x)).data.toList = wantL x from rfl, want_dec, show ans (some [47, 97, x, 122]) = .tuple #[.string (ba [47, 97, x, 122]), .bool true] from rfl] at D2
      rw [E3, E4, hU]
      clear E3 E4 hU b1 b2 hh hl
      generalize W2.drewN nq = W3 at *
      cases hb : bare x with
      | false =>
        have hw : wantL x = sigL true x := by unfold wantL sigL; rw [hb]; rfl
        rw [hw] at N1 D2
        clear hw hb
        generalize ba (sigL true x) = U at *
        generalize ba [47, 97, x, 122] = Y at *
        go_wp2_with (first
          | (go_at_call 11; with_reducible refine (D2.out _).mono ?_; rintro e w6 ⟨rfl, hb6⟩
             have B6 := Lib.hid (Base.below_step B5.out hb6)
             clear hb6)
          | (go_at_call 11; with_reducible refine (D1.out _).mono ?_; rintro e w5 ⟨rfl, hb5⟩
             have B5 := Lib.hid (Base.below_step B4.out hb5)
             clear hb5)
          | (go_at_call 9; with_reducible refine (N1.out _).mono ?_; rintro e w4 ⟨rfl, hb4⟩
             have B4 := Lib.hid (Base.below_step B3.out hb4)
             clear hb4))
        go_ret
        exact ⟨rfl, B6.out.alloc B6.out.size _⟩
      | true =>
        have hw : wantL x = [47, 97, x, 122] := by unfold wantL; rw [hb]; rfl
        rw [hw] at N1 D2
        clear hw hb
        generalize ba (sigL true x) = U at *
        generalize ba [47, 97, x, 122] = Y at *
        go_wp2_with (first
          | (go_at_call 11; with_reducible refine (D2.out _).mono ?_; rintro e w6 ⟨rfl, hb6⟩
             have B6 := Lib.hid (Base.below_step B5.out hb6)
             clear hb6)
          | (go_at_call 11; with_reducible refine (D1.out _).mono ?_; rintro e w5 ⟨rfl, hb5⟩
             have B5 := Lib.hid (Base.below_step B4.out hb5)
             clear hb5)
          | (go_at_call 9; with_reducible refine (N1.out _).mono ?_; rintro e w4 ⟨rfl, hb4⟩
             have B4 := Lib.hid (Base.below_step (B3.out.alloc B3.out.size _) hb4)
             clear hb4))
        go_ret
        exact ⟨rfl, B6.out.alloc B6.out.size _⟩
theorem percentSigns_law (c : Int) (b : Bool) (w : World) (hc : 0 ≤ c ∧ c ≤ 255) :
    Calls Tryd.prog 5 #[.int .u8 c, .bool b] w fun e w' => e = .returned (.bool true) ∧ Below w.heap.size w w' := by
  obtain ⟨x, rfl⟩ : ∃ x : UInt8, c = (x.toNat : Int) := ⟨UInt8.ofNat c.toNat, by rw [UInt8.toNat_ofNat_of_lt' (by show c.toNat < 256; omega)]; omega⟩
  exact signs_core x b w
end code
end Go.Proofs.YtojjhknejkhdhaaDoor.Pct
