/-
  Layer 2 (number): the walk of NumberTells: it returns true, and writes nothing that was there.
-/
import Derived.Test.YtnjlloiifdkcgaaDoorNumTells
namespace Go.Proofs.YtnjlloiifdkcgaaDoor.Num
open Go.RowKit Base Oct

attribute [local go_sem] Base.some_undef

section code
set_option maxHeartbeats 4000000
set_option maxRecDepth 10000 in
theorem tells_walk (s : ByteArray) (a : Option Addr) (len cap : Nat) (zs : List Int) (most n : Int) (w : World) (hz : Nums .u8 w a len zs) (hb : ∀ n ∈ zs, 0 ≤ n ∧ n ≤ 255) (hs : s.size ≤ 140737488351232) (hl : len ≤ maxLen)
    (m1 : most ≤ 9223372036854775807) (n0 : -9223372036854775808 ≤ n) (n1 : n ≤ 9223372036854775807) :
    Calls Tryd.prog 3 #[.string s, .slice a len cap, .int .i64 most, .int .i64 n] w fun e w' => e = .returned (.bool true) ∧ Below w.heap.size w w' := by
  unfold maxLen at hl
  have HZ := Lib.hid hz
  have HB := Lib.hid hb
  clear hz hb
  rcases Nat.lt_or_ge 60 s.size with hbig | hsm
  · go_enter Tryd.func3, Tryd.ntmps3
    go_wp2_with (go_at_call 7; refine (known_any _).mono ?_; rintro e w1 ⟨rfl, hb⟩)
    go_ret
    exact ⟨rfl, hb⟩
  rcases Nat.lt_or_ge 12 len with hbig | hsl
  · go_enter Tryd.func3, Tryd.ntmps3
    go_wp2_with (go_at_call 7; refine (known_any _).mono ?_; rintro e w1 ⟨rfl, hb⟩)
    go_ret
    exact ⟨rfl, hb⟩
  have z1 := spell_size (b := 10) (by omega) n n1
  have z2 := spell_size (b := 16) (by omega) n n1
  have p1 := Lib.hid (fun w => put_any n w n1)
  have p2 := Lib.hid (fun w => putHex_any n w n1)
  have r1 := Lib.hid (fun w => rput_any n w n0 n1)
  have r2 := Lib.hid (fun w => rputHex_any n w n0 n1)
  generalize str (spell 10 n.toNat) = S at *
  generalize str (spell 16 n.toNat) = T at *
  obtain ⟨H, hH, hH0, hH1⟩ := half n
  have hHw : IntKind.i64.wrap H = H := wrap_in _ (by omega) (by omega)
  have hHd : IntKind.i64.wrap (n - H) = n - H := wrap_in _ (by omega) (by omega)
  have hHle : n - H ≤ 9223372036854775807 := by omega
  obtain ⟨M1, hM1⟩ : ∃ x, bits .and .i64 most 255 = x := ⟨_, rfl⟩
  have hM1le : M1 ≤ 9223372036854775807 := by rw [← hM1]; exact bits_le _ _ _
  have v1 : ¬ 9223372036854775807 < 28 + S.size := by omega
  go_enter Tryd.func3, Tryd.ntmps3
  go_wp2_with (first
    | (go_at_call 7; refine (known_any _).mono ?_; rintro e w1 ⟨rfl, hb⟩)
    | (go_at_call 8; with_reducible refine (some_any a len cap zs _ ?_ hsl HB.out).mono ?_; exact HZ.out.below hb; rintro e w2 ⟨⟨r, rfl, hr⟩, hb2⟩)
    | (go_at_call 9; with_reducible refine (r1.out _).mono ?_; rintro e w5 ⟨rfl, m5, rfl⟩)
    | (go_at_call 10; with_reducible refine (r2.out _).mono ?_; rintro e w6 ⟨rfl, m6, rfl⟩))
  rename_i mz
  have hYs : ((ByteArray.mk #[48, 48, 48, 48, 48, 48, 48, 48, 48, 48, 48, 48, 48, 48, 48, 48, 48, 48, 48, 48, 48, 48, 48, 48, 48, 48, 48, 48]) ++ S).size ≤ 92 := by
    rw [ByteArray.size_append, show (ByteArray.mk #[48, 48, 48, 48, 48, 48, 48, 48, 48, 48, 48, 48, 48, 48, 48, 48, 48, 48, 48, 48, 48, 48, 48, 48, 48, 48, 48, 48]).size = 28 from rfl]; omega
  generalize (ByteArray.mk #[48, 48, 48, 48, 48, 48, 48, 48, 48, 48, 48, 48, 48, 48, 48, 48, 48, 48, 48, 48, 48, 48, 48, 48, 48, 48, 48, 48]) ++ S = Y at *
  have hb3 : Below w.heap.size w (w2.drewN (mz + m6 + m5)) := Base.below_drewN (Base.below_step hb hb2) _
  have hcell : ∀ k, k < 5 → ((w2.drewN (mz + m6 + m5)).alloc (.cells #[.string s, .string r, .string S, .string T, .string Y] 9)).cell? ⟨w2.heap.size, k, none⟩ = some (.string (fifth s r S T Y k)) := fun k hk => fifth_cell Value.string _ _ _ _ _ _ _ k hk
  have hX := fifth_of (fun x : ByteArray => x.size ≤ 228) s r S T Y (by omega) hr (by omega) (by omega) (by omega)
  have hg : w2.heap.size < ((w2.drewN (mz + m6 + m5)).alloc (.cells #[.string s, .string r, .string S, .string T, .string Y] 9)).heap.size := by simp
  have hW : Below w.heap.size w ((w2.drewN (mz + m6 + m5)).alloc (.cells #[.string s, .string r, .string S, .string T, .string Y] 9)) := hb3.alloc hb3.size _
  generalize (w2.drewN (mz + m6 + m5)).alloc (.cells #[.string s, .string r, .string S, .string T, .string Y] 9) = W at *
  generalize w2.heap.size = g at *
  have HC := Lib.hid hcell; have HX := Lib.hid hX; have HW := Lib.hid hW
  clear hcell hX hW hb hb2 hb3 HZ HB
  go_loopw [43] (fun i wr => ∃ q : Nat, q ≤ 5 ∧ i = .int .i64 q ∧ Hid (Below W.heap.size W wr)) (fun i _ => 5 - (intOf i).toNat)
  case atStart => exact ⟨0, Nat.zero_le _, rfl, Lib.hid (Below.refl _ _)⟩
  case round =>
    obtain ⟨q, hq, rfl, hbq⟩ := hrel
    rcases Nat.lt_or_ge q 5 with hlt | hge
    · have hcq := (hbq.out.cell (p := ⟨g, q, none⟩) hg).trans (HC.out q hlt)
      have hXs : (fifth s r S T Y q).size ≤ 228 := HX.out q
      generalize fifth s r S T Y q = X at *
      have hq5 : (q : Int) < 5 := by omega
      go_wp2
      have hcell2 : ∀ k, k < 5 → (wr.alloc (.cells #[.int .i64 most, .int .i64 M1, .int .i64 n, .int .i64 (n - H), .int .i64 9223372036854775807] 3)).cell? ⟨wr.heap.size, k, none⟩ = some (.int .i64 (fifth most M1 n (n - H) 9223372036854775807 k)) := fun k hk => fifth_cell (Value.int .i64) _ _ _ _ _ _ _ k hk
      have hm := fifth_of (fun x : Int => x ≤ 9223372036854775807) most M1 n (n - H) 9223372036854775807 m1 hM1le n1 hHle (by omega)
      have hg2 : wr.heap.size < (wr.alloc (.cells #[.int .i64 most, .int .i64 M1, .int .i64 n, .int .i64 (n - H), .int .i64 9223372036854775807] 3)).heap.size := by simp
      have hW2 : Below W.heap.size W (wr.alloc (.cells #[.int .i64 most, .int .i64 M1, .int .i64 n, .int .i64 (n - H), .int .i64 9223372036854775807] 3)) := hbq.out.alloc hbq.out.size _
      generalize wr.alloc (.cells #[.int .i64 most, .int .i64 M1, .int .i64 n, .int .i64 (n - H), .int .i64 9223372036854775807] 3) = W2 at *
      generalize wr.heap.size = g2 at *
      have HC2 := Lib.hid hcell2; have HM2 := Lib.hid hm; have HW2 := Lib.hid hW2
      clear hcell2 hm hW2 hbq
      go_loopw [57] (fun i wq => ∃ p : Nat, p ≤ 5 ∧ i = .int .i64 p ∧ Hid (Below W2.heap.size W2 wq)) (fun i _ => 5 - (intOf i).toNat)
      case atStart => exact ⟨0, Nat.zero_le _, rfl, Lib.hid (Below.refl _ _)⟩
      case round =>
        obtain ⟨p, hp, rfl, hbp⟩ := hrel
        rcases Nat.lt_or_ge p 5 with hlt2 | hge2
        · have hcp := (hbp.out.cell (p := ⟨g2, p, none⟩) hg2).trans (HC2.out p hlt2)
          have hmm : fifth most M1 n (n - H) 9223372036854775807 p ≤ 9223372036854775807 := HM2.out p
          generalize fifth most M1 n (n - H) 9223372036854775807 p = m at *
          have hXm : X.size ≤ maxLen := by unfold maxLen; omega
          obtain ⟨R, hR⟩ : ∃ R, R = readOf 10 m X.data.toList := ⟨_, rfl⟩
          obtain ⟨R', hR'⟩ : ∃ R, R = readOf 16 m X.data.toList := ⟨_, rfl⟩
          have q1 := Lib.hid (fun w => dec_any m hmm X w hXm)
          have q2 := Lib.hid (fun w => rdec_any m hmm X w hXm)
          have q3 := Lib.hid (fun w => hexN_any m hmm X w hXm)
          have q4 := Lib.hid (fun w => rhexN_any m hmm X w hXm)
          rw [← hR] at q1 q2
          rw [← hR'] at q3 q4
          clear hR hR' hXm
          have hp5 : (p : Int) < 5 := by omega
          go_wp2_with (first
            | (go_at_call 11; with_reducible refine (q1.out _).mono ?_; rintro e w2 ⟨rfl, h2⟩)
            | (go_at_call 12; with_reducible refine (q2.out _).mono ?_; rintro e w3 ⟨rfl, rfl⟩)
            | (go_at_call 13; with_reducible refine (q3.out _).mono ?_; rintro e w4 ⟨rfl, h4⟩)
            | (go_at_call 14; with_reducible refine (q4.out _).mono ?_; rintro e w5 ⟨rfl, rfl⟩))
          go_roundw
          case rel =>
            have h0 := hbp.out
            have h9 := Base.below_step (Base.below_step h0 h2) h4
            first
              | exact ⟨p + 1, by omega, by go_num, Lib.hid h9⟩
              | ((repeat apply Exists.intro); exact ⟨⟨p + 1, by omega, by go_num, Lib.hid h9⟩, rfl⟩)
          case measure => simp [intOf]; omega
        · go_wp2
          go_roundw
          case rel =>
            have h9 := Base.below_step HW2.out hbp.out
            first
              | exact ⟨q + 1, by omega, by go_num, Lib.hid h9⟩
              | ((repeat apply Exists.intro); exact ⟨⟨q + 1, by omega, by go_num, Lib.hid h9⟩, rfl⟩)
          case measure => simp [intOf]; omega
    · go_wp2_with (first
        | (go_at_call 15; with_reducible refine (p1.out _).mono ?_; rintro e w5 ⟨rfl, m5, rfl⟩)
        | (go_at_call 16; with_reducible refine (p2.out _).mono ?_; rintro e w6 ⟨rfl, m6, rfl⟩)
        | (go_at_call 9; with_reducible refine (r1.out _).mono ?_; rintro e w5 ⟨rfl, m5, rfl⟩)
        | (go_at_call 10; with_reducible refine (r2.out _).mono ?_; rintro e w6 ⟨rfl, m6, rfl⟩))
      go_ret
      have h0 := hbq.out
      have h1 := HW.out
      exact ⟨rfl, by repeat (first | exact Below.refl _ _ | assumption | with_reducible refine Base.below_drewN ?_ _ | (refine Base.below_step ?_ (by assumption)))⟩
end code
end Go.Proofs.YtnjlloiifdkcgaaDoor.Num
