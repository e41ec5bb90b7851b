/-
  Layer 9 (field): the walk of FieldExtends: it returns true, and writes nothing that was there.
-/
import Derived.Test.YtmbjnolikofaoaaFieldKnown
import Derived.Test.YtmbjnolikofaoaaFieldSome
import Derived.Test.YtmbjnolikofaoaaTextRef
import Derived.Deep.CutBlock
import Derived.Deep.DeepCutAuto
namespace Go.Proofs.Ytmbjnolikofaoaa.Fd
open Go.RowKit Base Txt Tgt

/-- What the strict reader, and any other, answers of a line that the strict one takes; its line written anew. -/
structure Reads (x : ByteArray) (p : Nat) (N V L : ByteArray) (k : Nat) : Prop where
  one : ∀ w, Calls Try.prog 13 #[.string x, .int .u32 0] w fun r w' => r = .returned (.tuple #[fv N V, .bool true, .int .i64 0]) ∧ Below w.heap.size w w'
  two : ∀ w, Calls Try.prog 13 #[.string x, .int .u32 (p : Nat)] w fun r w' => r = .returned (.tuple #[fv N V, .bool true, .int .i64 0]) ∧ Below w.heap.size w w'
  right : ∀ w, Calls Try.prog 19 #[fv N V] w fun r w' => r = .returned (.bool true) ∧ Below w.heap.size w w'
  put : ∀ a w, Flds w a 1 [(N, V)] → Calls Try.prog 21 #[.slice a 1 1] w fun r w' => r = .returned (.string L) ∧ Below w.heap.size w w'
  size : L.size = k + 2
  small : k ≤ 1000000
  back : ∀ w, Calls Try.prog 13 #[.string (L.extract 0 k), .int .u32 0] w fun r w' => r = .returned (.tuple #[fv N V, .bool true, .int .i64 0]) ∧ Below w.heap.size w w'
theorem line_cut (f : Fld) : ((lineB f).extract 0 (f.1.size + f.2.size + 2)).data.toList = f.1.data.toList ++ 58 :: 32 :: f.2.data.toList := by
  rw [Lib.extract_data, lineB_list]
  unfold line
  have : f.1.data.toList ++ 58 :: 32 :: (f.2.data.toList ++ [13, 10]) = (f.1.data.toList ++ 58 :: 32 :: f.2.data.toList) ++ [13, 10] := by simp
  rw [this]
  show ((f.1.data.toList ++ 58 :: 32 :: f.2.data.toList ++ [13, 10]).drop 0).take (f.1.size + f.2.size + 2 - 0) = _
  rw [List.drop_zero, List.take_append_of_le_length (by simp; omega), List.take_of_length_le (by simp; omega)]
theorem reads_of (x : ByteArray) (p : Nat) (hp : p < 4294967296) (hx : x.size ≤ 1000) :
    (∀ w, Calls Try.prog 13 #[.string x, .int .u32 0] w fun r w' => r = .returned (.tuple #[fv E0 E0, .bool false, .int .i64 400]) ∧ Below w.heap.size w w') ∨ ∃ N V L k, Reads x p N V L k := by
  have h0 := fun w => parse0_any x w (by omega)
  have h1 := fun w => parse_any x p hp w (by omega)
  rcases parse_zero x.data.toList with h | ⟨n, v, h⟩
  · rw [h] at h0
    exact .inl h0
  · obtain ⟨hall, hr⟩ := parse_all h
    have hle := parse_le h
    rw [len] at hle
    rw [h] at h0
    rw [hall (clOf p)] at h1
    have hz : (put [(ba n, ba v)]).length ≤ 1000000000 := by rw [put_one, line_length, ba_size, ba_size]; omega
    have e1 : ba (put [(ba n, ba v)]) = lineB (ba n, ba v) := ba_ext (by rw [lineB_list, put_one]; rfl)
    refine .inr ⟨ba n, ba v, lineB (ba n, ba v), n.length + v.length + 2, ⟨h0, h1, fun w => ?_, fun a w hv => ?_, ?_, by omega, fun w => ?_⟩⟩
    · have := right_any (ba n) (ba v) w (by rw [ba_size, ba_size]; omega)
      rwa [show right (ba n).data.toList (ba v).data.toList = true from hr] at this
    · have := put_any a 1 1 [(ba n, ba v)] w hv (by decide) (Nat.le_trans hz (by decide))
      rwa [e1] at this
    · rw [lineB_size, ba_size, ba_size]
    · have h2 := line_cut (ba n, ba v)
      rw [ba_size, ba_size] at h2
      have h3 := parse0_any ((lineB (ba n, ba v)).extract 0 (n.length + v.length + 2)) w (by rw [← len, h2]; show (n ++ 58 :: 32 :: v).length ≤ _; simp; omega)
      rw [h2, show parse c0 ((ba n, ba v).1.data.toList ++ 58 :: 32 :: (ba n, ba v).2.data.toList) = some (some (n, v)) from parse_line c0 hr] at h3
      exact h3
theorem trim_space (s : ByteArray) : trim (⟨#[32]⟩ ++ s) = trim s := ba_ext (by
  rw [trim, trim, trimB_list, trimB_list, ByteArray.data_append, Array.toList_append]
  exact trimL_cons _ _ (by decide))

section code
set_option maxHeartbeats 4000000
set_option maxRecDepth 100000
attribute [local go_sem] Base.some_undef
theorem fieldExtends_any (s : ByteArray) (la : Option Addr) (n cap : Nat) (bs : List UInt8) (a x y : Nat) (w : World) (hs : s.size ≤ 140737488351232) (hv : Nums .u8 w la n (nums bs)) (hn : n ≤ maxLen) (ha : a < 4294967296) (hx : x < 256) (hy : y < 256) :
    Calls Try.prog 4 #[.string s, .slice la n cap, .int .u32 a, .int .u8 x, .int .u8 y] w fun e w' => e = .returned (.bool true) ∧ Below w.heap.size w w' := by
  unfold maxLen at hn
  have HV := Lib.hid hv
  clear hv
  rcases Nat.lt_or_ge 80 s.size with c1 | c1
  · have d1 : (80 : Int) < (s.size : Int) := by omega
    go_enter Try.func4, Try.ntmps4
    go_wp2_with (go_at_call 7; with_reducible refine (known_any _).mono ?_; rintro e w1 ⟨rfl, hb⟩)
    go_ret
    exact ⟨rfl, hb⟩
  have d1 : ¬ (80 : Int) < (s.size : Int) := by omega
  rcases Nat.lt_or_ge 12 n with c2 | c2
  · have d2 : (12 : Int) < (n : Int) := by omega
    go_enter Try.func4, Try.ntmps4
    go_wp2_with (go_at_call 7; with_reducible refine (known_any _).mono ?_; rintro e w1 ⟨rfl, hb⟩)
    go_ret
    exact ⟨rfl, hb⟩
  have d2 : ¬ (12 : Int) < (n : Int) := by omega
  have HS := Lib.hid (fun w' hb' => some_any la n cap bs w' (HV.out.below (w' := w') hb') (by omega))
  have HL := Lib.hid (fun w => field_any x y hx hy w)
  have hm := Seat.mask30 a ha
  have hp : a % 1073741824 < 4294967296 := by omega
  obtain ⟨p, hpp⟩ : ∃ p, a % 1073741824 = p := ⟨_, rfl⟩
  rw [hpp] at hm hp
  have HT1 := Lib.hid (fun w => rtrim_any s w (by unfold maxLen; omega))
  have HT2 := Lib.hid (fun w => rtrim_any (⟨#[32]⟩ ++ s) w (by unfold maxLen; rw [ByteArray.size_append]; show 1 + s.size ≤ _; omega))
  rw [trim_space] at HT2
  generalize trim s = Tr at *
  have hv1 : ¬ 9223372036854775807 < 1 + s.size := by omega
  clear hpp ha hx hy
  go_enter Try.func4, Try.ntmps4
  go_upto_region 6 with (first
    | (go_at_call 7; with_reducible refine (known_any _).mono ?_; rintro e w1 ⟨rfl, hb⟩; have hc := hb; clear hb)
    | (go_at_call 10; with_reducible refine (HS.out _ hc).mono ?_; rintro e w3 ⟨⟨S, rfl, hSs⟩, hb⟩
       replace hc := Base.below_step hc hb
       clear hb)
    | (go_at_call 11; with_reducible refine (HL.out _).mono ?_; rintro e w4 ⟨⟨L, rfl, hLs⟩, hb⟩
       replace hc := Base.below_step hc hb
       clear hb))
  have hst : Hid (∀ k, k < 3 → (w4.alloc (.cells #[.string s, .string S, .string L] 9)).cell? ⟨w4.heap.size, k, none⟩ = some (.string ([s, S, L][k]?.getD ByteArray.empty))) := Lib.hid fun k hk => strs_at w4 9 [s, S, L] k hk
  have hX : Hid (∀ j, j < 3 → ([s, S, L][j]?.getD ByteArray.empty).size ≤ 1000) := Lib.hid fun j hj => by
    rcases (by omega : j = 0 ∨ j = 1 ∨ j = 2) with rfl | rfl | rfl
    · show s.size ≤ 1000; omega
    · show S.size ≤ 1000; omega
    · show L.size ≤ 1000; omega
  have HB2 := Lib.hid (hc.alloc hc.size (.cells #[.string s, .string S, .string L] 9))
  have hg : w4.heap.size < (w4.alloc (.cells #[.string s, .string S, .string L] 9)).heap.size := by simp
  clear hc HS HL HV hSs hLs
  generalize w4.alloc (.cells #[.string s, .string S, .string L] 9) = W at *
  generalize w4.heap.size = g at *
  go_loopw [41] (fun i wq => ∃ q : Nat, q ≤ 3 ∧ i = .int .i64 q ∧ Hid (Below W.heap.size W wq)) (fun i _ => 3 - (intOf i).toNat)
  case atStart => exact ⟨0, Nat.zero_le _, rfl, Lib.hid (Below.refl _ _)⟩
  case round =>
    obtain ⟨q, hq, rfl, hbq⟩ := hrel
    rcases Nat.lt_or_ge q 3 with hlt | hge
    · have hcq := (hbq.out.cell (p := ⟨g, q, none⟩) hg).trans (hst.out q hlt)
      have hsx := hX.out q hlt
      have hq5 : (q : Int) < 3 := by omega
      generalize [s, S, L][q]?.getD ByteArray.empty = X at *
      rcases reads_of X p hp hsx with HR | ⟨N, V, T, k, HR⟩
      · have H1 := Lib.hid HR
        clear HR
        go_wp2_with (go_at_call 13; with_reducible refine (H1.out _).mono ?_; rintro e w5 ⟨rfl, hb⟩
                     have HB := Lib.hid ((Base.below_step hbq.out hb).alloc (Base.below_step hbq.out hb).size (.cells #[.string E0, .string E0] 25))
                     clear hb)
        go_roundw
        case rel => exact ⟨q + 1, by omega, by go_num, HB⟩
        case measure => simp [intOf]; omega
      · have H1 := Lib.hid HR.one
        have H2 := Lib.hid HR.two
        have H3 := Lib.hid HR.right
        have H4 := Lib.hid HR.put
        have H5 := Lib.hid HR.back
        have hz := HR.size
        have hk := HR.small
        clear HR
        have z1 : IntKind.i64.wrap ((T.size : Int) - 2) = (k : Int) := by rw [wrap_in _ (by omega) (by omega)]; omega
        have z2 : ¬ (T.size : Int) < 2 := by omega
        have z3 : (k : Int) ≤ (T.size : Int) := by omega
        clear hz hk
        go_wp2_with (first
          | (go_at_call 13; (with_reducible refine (H5.out _).mono ?_); rintro e w9 ⟨rfl, hb⟩
             clear c0 c1 z4 z5 e0 e1 z6 z7
             replace A1 := Lib.hid (A1.out.step hb)
             have q0 := fun o => (A1.out.old o).1
             have q1 := fun o => (A1.out.old o).2
             clear hb)
          | (go_at_call 19; (with_reducible refine (H3.out _).mono ?_); rintro e w8 ⟨rfl, hb⟩
             clear c0 c1 z4 z5
             replace A1 := Lib.hid (A1.out.step hb)
             replace A2 := Lib.hid (A2.out.step hb)
             obtain ⟨c0, c1, z4, z5⟩ := A1.out.f
             obtain ⟨e0, e1, z6, z7⟩ := A2.out.f
             clear hb)
          | (go_at_call 21; (with_reducible refine (H4.out _ _ (Flds.one _ _ _ _ _ ?_)).mono ?_); (· simp); rintro e w7 ⟨rfl, hb⟩
             clear q0 q1
             replace A1 := Lib.hid (((A1.out.alloc _).alloc _).step hb)
             have A2 := Lib.hid (((At1.new HB.out 25 N V).alloc _).step hb)
             obtain ⟨c0, c1, z4, z5⟩ := A1.out.f
             clear hb)
          | (go_at_call 13; (with_reducible refine (H2.out _).mono ?_); rintro e w6 ⟨rfl, hb⟩
             have A1 := Lib.hid ((At1.new HB.out 25 N V).step hb)
             have q0 := fun o => (A1.out.old o).1
             have q1 := fun o => (A1.out.old o).2
             replace HB := Lib.hid (Base.below_step (HB.out.alloc HB.out.size _) hb)
             clear hb)
          | (go_at_call 13; (with_reducible refine (H1.out _).mono ?_); rintro e w5 ⟨rfl, hb⟩
             have HB := Lib.hid (Base.below_step hbq.out hb)
             clear hb))
        go_roundw
        case rel => exact ⟨q + 1, by omega, by go_num, Lib.hid (A1.out.alloc _).b⟩
        case measure => simp [intOf]; omega
    · obtain rfl : q = 3 := by omega
      go_wp2_with (first
        | (go_at_call 23; (with_reducible refine (HT1.out _).mono ?_); rintro e w5 ⟨rfl, hw⟩; rw [hw]; clear hw)
        | (go_at_call 23; (with_reducible refine (HT2.out _).mono ?_); rintro e w5 ⟨rfl, hw⟩; rw [hw]; clear hw))
      go_ret
      exact ⟨rfl, Base.below_step HB2.out hbq.out⟩
end code
end Go.Proofs.Ytmbjnolikofaoaa.Fd
