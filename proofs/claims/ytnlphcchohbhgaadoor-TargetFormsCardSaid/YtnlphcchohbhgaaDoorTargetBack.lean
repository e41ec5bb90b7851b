/-
  Layer 7 (target): the walk of TargetBack: it returns true, and writes nothing that was there.
-/
import Derived.Test.YtnlphcchohbhgaaDoorTargetAbs
import Derived.Test.YtnlphcchohbhgaaDoorTargetPut
import Derived.Test.YtnlphcchohbhgaaDoorTargetKnown
import Derived.Test.YtnlphcchohbhgaaDoorTargetSome
import Derived.Test.YtnlphcchohbhgaaDoorTargetEq
import Derived.Deep.CutBlock
import Derived.Deep.DeepCutAuto
namespace Go.Proofs.YtnlphcchohbhgaaDoor.Tgt
open Go.RowKit Base Oct Num Txt

def meths4 : List ByteArray := [⟨#[71, 69, 84]⟩, ⟨#[67, 79, 78, 78, 69, 67, 84]⟩, ⟨#[79, 80, 84, 73, 79, 78, 83]⟩, ⟨#[80, 79, 83, 84]⟩]

theorem origin_le {l : List UInt8} {t : Tg} (h : origin l = some t) : t.host.length ≤ l.length ∧ t.path.length ≤ l.length ∧ t.query.length ≤ l.length := by
  unfold origin at h
  split at h
  · obtain rfl := Option.some.inj h
    have := cutAt_le 63 l
    exact ⟨Nat.zero_le _, this.1, this.2⟩
  · cases h
theorem parse_le {m l : List UInt8} {t : Tg} (h : parse m l = some t) : t.host.length ≤ l.length + 1 ∧ t.path.length ≤ l.length + 1 ∧ t.query.length ≤ l.length + 1 := by
  unfold parse at h
  split at h
  · unfold authority at h
    split at h
    · obtain rfl := Option.some.inj h
      exact ⟨by show l.length ≤ _; omega, Nat.zero_le _, Nat.zero_le _⟩
    · cases h
  · split at h
    · obtain rfl := Option.some.inj h
      exact ⟨Nat.zero_le _, Nat.zero_le _, Nat.zero_le _⟩
    · split at h
      · have := origin_le h; omega
      · split at h
        · unfold absolute at h
          split at h
          · cases h
          · rename_i u hu
            split at h
            · obtain rfl := Option.some.inj h
              have h1 := origin_le hu
              have h2 := slashed_le (restOf (l.drop 7))
              have h3 := restOf_le (l.drop 7)
              have h4 := hostOf_le (l.drop 7)
              rw [List.length_drop] at h3 h4
              exact ⟨by show (hostOf (l.drop 7)).length ≤ _; omega, by show u.path.length ≤ _; omega, by show u.query.length ≤ _; omega⟩
            · cases h
        · cases h
theorem put_le (t : Tg) : (put t).length ≤ t.host.length + t.path.length + t.query.length + 8 := by
  have hp : (putPath t).length ≤ t.path.length + t.query.length + 1 := by
    unfold putPath
    split
    · rw [List.length_append, List.length_cons]; omega
    · omega
  unfold put
  split
  · omega
  · split
    · rw [List.length_append, List.length_append, show http.length = 7 from rfl]; omega
    · split
      · omega
      · split <;> simp

section code
set_option maxHeartbeats 1000000
attribute [local go_sem] Base.some_undef
set_option maxRecDepth 10000 in
theorem targetBack_any (a : Option Addr) (n cap : Nat) (bs : List UInt8) (k : Int) (w : World) (hv : Nums .u8 w a n (nums bs)) (hn : n ≤ maxLen) (hk : 0 ≤ k ∧ k ≤ 255) :
    Calls Tryd.prog 4 #[.slice a n cap, .int .u8 k] w fun e w' => e = .returned (.bool true) ∧ Below w.heap.size w w' := by
  unfold maxLen at hn
  have HV := Lib.hid hv
  have hl : bs.length = n := by have := hv.1; rwa [nums, List.length_map] at this
  clear hv
  rcases Nat.lt_or_ge 10 n with hbig | hsm
  · go_enter Tryd.func4, Tryd.ntmps4
    go_wp2_with (go_at_call 7; with_reducible refine (known_any _).mono ?_; rintro e w1 ⟨rfl, hb⟩)
    go_ret
    exact ⟨rfl, hb⟩
  have hsl := someL_le bs
  have hsz : (ba (someL bs)).size ≤ 70 := by rw [ba_size]; omega
  have HL := Lib.hid hl
  clear hl hsl
  obtain ⟨r, hr, him⟩ : ∃ r : Nat, r < 4 ∧ k.tmod 4 = (r : Int) := ⟨(k % 4).toNat, by omega, by rw [Int.tmod_eq_emod_of_nonneg hk.1]; omega⟩
  have hr4 : (r : Int) < 4 := by omega
  have hn10 : (n : Int) ≤ 10 := by omega
  have HMC := Lib.hid (fun w => strs_cell w 9 meths4 r hr)
  generalize meths4[r]?.getD ByteArray.empty = M at *
  go_enter Tryd.func4, Tryd.ntmps4
  go_upto_region 6 with (go_at_call 7; with_reducible refine (known_any _).mono ?_; rintro e w1 ⟨rfl, hb⟩
                         have hmc : (w1.alloc (.cells #[.string ⟨#[71, 69, 84]⟩, .string ⟨#[67, 79, 78, 78, 69, 67, 84]⟩, .string ⟨#[79, 80, 84, 73, 79, 78, 83]⟩, .string ⟨#[80, 79, 83, 84]⟩] 9)).cell? ⟨w1.heap.size, r, none⟩ = some (.string M) := HMC.out w1)
  have HB1 := Lib.hid (hb.alloc hb.size (.cells #[.string ⟨#[71, 69, 84]⟩, .string ⟨#[67, 79, 78, 78, 69, 67, 84]⟩, .string ⟨#[79, 80, 84, 73, 79, 78, 83]⟩, .string ⟨#[80, 79, 83, 84]⟩] 9))
  clear hb hmc HMC him hr hr4
  generalize w1.alloc (.cells #[.string ⟨#[71, 69, 84]⟩, .string ⟨#[67, 79, 78, 78, 69, 67, 84]⟩, .string ⟨#[79, 80, 84, 73, 79, 78, 83]⟩, .string ⟨#[80, 79, 83, 84]⟩] 9) = W1 at *
  have HS := Lib.hid (fun w' hb' => some_any a n cap bs w' (HV.out.below (w' := w') hb') (by omega))
  generalize ba (someL bs) = S at *
  have v1 : ¬ 9223372036854775807 < 1 + S.size := by omega
  have v2 : ¬ 9223372036854775807 < 8 + S.size := by omega
  have hc := HB1.out
  go_upto_region 7 with (go_at_call 8; with_reducible refine (HS.out _ hc).mono ?_; rintro e w2 ⟨rfl, hb⟩; replace hc := Base.below_step hc hb; clear hb)
  have hX := Lib.hid (show ∀ x ∈ [S, ({ data := #[47] } : ByteArray) ++ S, ({ data := #[104, 116, 116, 112, 58, 47, 47, 97] } : ByteArray) ++ S], x.size ≤ 1000 by
    intro x hx
    simp only [List.mem_cons, List.not_mem_nil, or_false] at hx
    rcases hx with rfl | rfl | rfl
    · omega
    · rw [ByteArray.size_append, show (ByteArray.mk #[47]).size = 1 from rfl]; omega
    · rw [ByteArray.size_append, show (ByteArray.mk #[104, 116, 116, 112, 58, 47, 47, 97]).size = 8 from rfl]; omega)
  have hst : Hid (∀ k, k < 3 → (w2.alloc (.cells #[.string S, .string ({ data := #[47] } ++ S), .string ({ data := #[104, 116, 116, 112, 58, 47, 47, 97] } ++ S)] 9)).cell? ⟨w2.heap.size, k, none⟩ = some (.string ([S, ({ data := #[47] } : ByteArray) ++ S, ({ data := #[104, 116, 116, 112, 58, 47, 47, 97] } : ByteArray) ++ S][k]?.getD ByteArray.empty))) := Lib.hid fun k hk => strs_cell w2 9 [S, ({ data := #[47] } : ByteArray) ++ S, ({ data := #[104, 116, 116, 112, 58, 47, 47, 97] } : ByteArray) ++ S] k hk
  have HB2 := Lib.hid (hc.alloc hc.size (.cells #[.string S, .string ({ data := #[47] } ++ S), .string ({ data := #[104, 116, 116, 112, 58, 47, 47, 97] } ++ S)] 9))
  have hg : w2.heap.size < (w2.alloc (.cells #[.string S, .string ({ data := #[47] } ++ S), .string ({ data := #[104, 116, 116, 112, 58, 47, 47, 97] } ++ S)] 9)).heap.size := by simp
  clear hc HB1 HS
  generalize w2.alloc (.cells #[.string S, .string ({ data := #[47] } ++ S), .string ({ data := #[104, 116, 116, 112, 58, 47, 47, 97] } ++ S)] 9) = W at *
  generalize w2.heap.size = g at *
  go_loopw [32] (fun i wq => ∃ q : Nat, q ≤ 3 ∧ i = .int .i64 q ∧ Hid (Below W.heap.size W wq)) (fun i _ => 3 - (intOf i).toNat)
  case atStart => exact ⟨0, Nat.zero_le _, rfl, Lib.hid (Below.refl _ _)⟩
  case round =>
    obtain ⟨q, hq, rfl, hbq⟩ := hrel
    rcases Nat.lt_or_ge q 3 with hlt | hge
    · have hcq := (hbq.out.cell (p := ⟨g, q, none⟩) hg).trans (hst.out q hlt)
      have hxz := hX.out _ (mem_at [S, ({ data := #[47] } : ByteArray) ++ S, ({ data := #[104, 116, 116, 112, 58, 47, 47, 97] } : ByteArray) ++ S] q hlt)
      have hq3 : (q : Int) < 3 := by omega
      generalize [S, ({ data := #[47] } : ByteArray) ++ S, ({ data := #[104, 116, 116, 112, 58, 47, 47, 97] } : ByteArray) ++ S][q]?.getD ByteArray.empty = x at *
      have C1 := Lib.hid (fun w => parse_any M x w (by omega))
      have hback : ∀ t, parse M.data.toList x.data.toList = some t → parse M.data.toList (put t) = some t := fun t h => back h
      have hc := hbq.out
      cases hp : parse M.data.toList x.data.toList with
      | none =>
        rw [hp] at C1
        have C2 : Hid (∀ w, Calls Tryd.prog 9 #[.string M, .string x] w fun e w' => e = .returned (.tuple #[tv 0 E0 E0 E0 false, .int .i64 400]) ∧ Below w.heap.size w w') := C1
        clear C1 hback hp
        go_wp2_with (go_at_call 9; with_reducible refine (C2.out _).mono ?_; rintro e w3 ⟨rfl, hb⟩; replace hc := Base.below_step hc (hb.alloc hb.size (.cells #[.int .i64 0, .string E0, .string E0, .string E0, .bool false] 27)); clear hb)
        go_roundw
        case rel => exact ⟨q + 1, by omega, by go_num, Lib.hid hc⟩
        case measure => simp [intOf]; omega
      | some t =>
        have hb2 := hback t hp
        rw [hp] at C1
        have C2 : Hid (∀ w, Calls Tryd.prog 9 #[.string M, .string x] w fun e w' => e = .returned (.tuple #[tv t.form (ba t.host) (ba t.path) (ba t.query) t.asked, .int .i64 0]) ∧ Below w.heap.size w w') := C1
        have hle := parse_le hp
        rw [len] at hle
        have CP := Lib.hid (fun w => put_any t.form (ba t.host) (ba t.path) (ba t.query) t.asked w (by rw [ba_size]; omega) (by rw [ba_size]; omega) (by rw [ba_size]; omega))
        rw [putV_ba] at CP
        have C3 := Lib.hid (fun w => parse_any M (ba (put t)) w (by rw [ba_size]; have := put_le t; omega))
        rw [ba_list, hb2] at C3
        have C4 : Hid (∀ w, Calls Tryd.prog 9 #[.string M, .string (ba (put t))] w fun e w' => e = .returned (.tuple #[tv t.form (ba t.host) (ba t.path) (ba t.query) t.asked, .int .i64 0]) ∧ Below w.heap.size w w') := C3
        have hnq := neq_tgt t.form (ba t.host) (ba t.path) (ba t.query) t.asked
        have hgd := fun op x y => guard_tgt op x y t.form t.form (ba t.host) (ba t.path) (ba t.query) (ba t.host) (ba t.path) (ba t.query) t.asked t.asked
        clear C1 C3 hback hp hb2 hle
        go_wp2_with (first
          | (go_at_call 9; with_reducible refine (C2.out _).mono ?_; rintro e w3 ⟨rfl, hb⟩
             have T8 := Lib.hid (Tgb.new w3 27 t.form (ba t.host) (ba t.path) (ba t.query) t.asked)
             have S8 := Lib.hid (show w3.heap.size < (w3.alloc (.cells #[.int .i64 t.form, .string (ba t.host), .string (ba t.path), .string (ba t.query), .bool t.asked] 27)).heap.size by simp)
             replace hc := Base.below_step hc (hb.alloc hb.size (.cells #[.int .i64 t.form, .string (ba t.host), .string (ba t.path), .string (ba t.query), .bool t.asked] 27))
             clear hb)
          | (go_at_call 11; with_reducible refine (CP.out _).mono ?_; rintro e w4 ⟨rfl, hb⟩
             replace T8 := Lib.hid (T8.out.below S8.out hb)
             replace S8 := Lib.hid (Nat.lt_of_lt_of_le S8.out hb.size)
             replace hc := Base.below_step hc hb
             clear hb)
          | (go_at_call 9; with_reducible refine (C4.out _).mono ?_; rintro e w5 ⟨rfl, hb⟩
             obtain ⟨c0, c1, c2, c3, c4, _, _, _, _, _⟩ := T8.out.below S8.out hb
             have A8 := old_cell (Nat.lt_of_lt_of_le S8.out hb.size)
             replace hc := Base.below_step hc (hb.alloc hb.size (.cells #[.int .i64 t.form, .string (ba t.host), .string (ba t.path), .string (ba t.query), .bool t.asked] 27))
             clear hb T8 S8))
        go_roundw
        case rel => exact ⟨q + 1, by omega, by go_num, Lib.hid hc⟩
        case measure => simp [intOf]; omega
    · have hq3 : ¬ (q : Int) < 3 := by omega
      go_wp2
      go_ret
      exact ⟨rfl, Base.below_step HB2.out hbq.out⟩
end code
end Go.Proofs.YtnlphcchohbhgaaDoor.Tgt
