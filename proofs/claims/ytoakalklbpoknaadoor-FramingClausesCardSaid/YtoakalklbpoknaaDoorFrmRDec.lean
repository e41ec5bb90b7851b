/-
  Layer 10 (framing): what the document's Hosts and Decide answer.
-/
import Derived.Test.YtoakalklbpoknaaDoorFrmAll
import Derived.Test.YtoakalklbpoknaaDoorFrmRLen
namespace Go.Proofs.YtoakalklbpoknaaDoor.Frm
open Go.RowKit Base Txt

theorem rfind_at (a : Option Addr) (n cap : Nat) (fs : List Fld) (name : ByteArray) (w : World) (hv : Flds w a n fs) (hn : n ≤ 1000000000) (hs : ∀ f ∈ fs, f.1.size ≤ 1000000000) (ht : name.size ≤ 1000000000) :
    Calls Tryd.prog 27 #[.slice a n cap, .string name] w fun e w' => ∃ b c, e = .returned (.slice b (find fs name).length c) ∧ Strs w' b (find fs name).length (find fs name) ∧ Below w.heap.size w w' :=
  (rfind_any a n cap fs name w hv hn hs ht).mono (by rintro e w' ⟨b, m, c, rfl, rfl, hS, hb⟩; exact ⟨b, c, rfl, hS, hb⟩)
theorem hosts_old (nh mh : Bool) (h : List ByteArray) (h0 : h.length = 0) (hn : nh = true) : hostsV nh mh 1 h = 0 := by
  obtain rfl := List.eq_nil_of_length_eq_zero h0
  rw [hosts_none, hn]; rfl

section code
set_option maxHeartbeats 4000000
set_option maxRecDepth 10000
attribute [local go_sem] Base.some_undef
theorem rhosts_any (p : Nat) (hp : p < 4294967296) (minor : Int) (a : Option Addr) (n cap : Nat) (fs : List Fld) (w : World) (hv : Flds w a n fs) (hn : n ≤ 1000000000) (hs : ∀ f ∈ fs, f.1.size ≤ 1000000000 ∧ f.2.size ≤ 1000000000) :
    Calls Tryd.prog 17 #[.int .u32 (p : Nat), .int .i64 minor, .slice a n cap] w fun e w' => e = .returned (.int .i64 (hostsV (Qk.has p 15) (Qk.has p 16) minor (find fs hostN))) ∧ Below w.heap.size w w' := by
  have HF := Lib.hid (rfind_at a n cap fs ⟨#[72, 111, 115, 116]⟩ w hv hn (fun f hf => (hs f hf).1) (by decide))
  have H15 := Lib.hid (fun w => Qk.rhas_any p hp 15 w)
  have H16 := Lib.hid (fun w => Qk.rhas_any p hp 16 w)
  have hsz := find_sizes fs ⟨#[72, 111, 115, 116]⟩ 1000000000 (fun f hf => (hs f hf).2)
  have hle := find_le fs ⟨#[72, 111, 115, 116]⟩
  rw [hv.1] at hle
  have HT := Lib.hid (fun v (hv : v.size ≤ 1000000000) w => Tgt.rhost_any v w hv)
  obtain ⟨R, hR⟩ : ∃ R, hostsV (Qk.has p 15) (Qk.has p 16) minor (find fs ⟨#[72, 111, 115, 116]⟩) = R := ⟨_, rfl⟩
  rw [show hostsV (Qk.has p 15) (Qk.has p 16) minor (find fs hostN) = R from hR]
  clear hv hs hp
  generalize find fs ⟨#[72, 111, 115, 116]⟩ = H at *
  obtain ⟨nh, hnh⟩ : ∃ nh, Qk.has p 15 = nh := ⟨_, rfl⟩
  rw [hnh] at H15 hR
  obtain ⟨mh, hmh⟩ : ∃ mh, Qk.has p 16 = mh := ⟨_, rfl⟩
  rw [hmh] at H16 hR
  clear hmh hnh
  obtain ⟨m, hm⟩ : ∃ m, H.length = m := ⟨_, rfl⟩
  rw [hm] at HF hle
  have HSZ := Lib.hid (fun k (hk : k < m) => show (H[k]?.getD ByteArray.empty).size ≤ 1000000000 by
    rw [List.getElem?_eq_getElem (by omega)]
    exact hsz _ (List.getElem_mem _))
  have HM := Lib.hid hm
  clear hsz
  by_cases hA : minor = 1 ∧ m = 0 ∧ nh = false
  · obtain ⟨rfl, rfl, rfl⟩ := hA
    obtain rfl := List.eq_nil_of_length_eq_zero hm
    rw [hosts_none] at hR
    replace hR : R = 400 := hR.symm
    subst hR
    clear hm HSZ HM HT
    go_enter Tryd.func17, Tryd.ntmps17
    go_wp2_with (first
      | (go_at_call 27; with_reducible refine (HF.out).mono ?_; rintro e w1 ⟨b, c, rfl, hS, hb⟩; clear hS)
      | (go_at_call 28; with_reducible refine (H15.out _).mono ?_; rintro e w2 ⟨rfl, hw⟩; rw [hw]; clear hw))
    go_ret
    exact ⟨rfl, hb⟩
  by_cases hB : 1 < m ∧ mh = false
  · obtain ⟨h1, rfl⟩ := hB
    rw [hosts_many nh minor H (by omega)] at hR
    subst hR
    have t0 : ((m : Int) == 0) = false := beq_eq_false_iff_ne.2 (by omega)
    have t1 : (1 : Int) < (m : Int) := by omega
    clear hm hA HSZ HM HT
    rcases (by omega : minor = 1 ∨ ¬ minor = 1) with rfl | h2
    all_goals
      try (have t2 : (minor == 1) = false := beq_eq_false_iff_ne.2 h2)
      go_enter Tryd.func17, Tryd.ntmps17
      go_wp2_with (first
        | (go_at_call 27; with_reducible refine (HF.out).mono ?_; rintro e w1 ⟨b, c, rfl, hS, hb⟩; clear hS)
        | (go_at_call 28; with_reducible refine (H16.out _).mono ?_; rintro e w2 ⟨rfl, hw⟩; rw [hw]; clear hw))
      go_ret
      exact ⟨rfl, hb⟩
  have hR2 : R = if (H.all fun v => Tgt.hostB v.data.toList) = true then 0 else 400 := by
    by_cases h10 : minor = 1 ∧ m = 0
    · obtain ⟨rfl, rfl⟩ := h10
      cases nh
      · exact absurd ⟨rfl, rfl, rfl⟩ hA
      · rw [← hR, hosts_old true mh H hm rfl, List.eq_nil_of_length_eq_zero hm]; rfl
    · rw [← hR]
      exact hosts_loop nh mh minor H (by rw [hm]; exact h10) (by
        rcases (by omega : m ≤ 1 ∨ 1 < m) with h | h
        · exact .inl (by omega)
        · right
          cases mh
          · exact absurd ⟨h, rfl⟩ hB
          · rfl)
  have HR := Lib.hid hR2
  clear hR hR2 hm
  have hcase : (m = 0 ∧ (¬ minor = 1 ∨ (minor = 1 ∧ nh = true))) ∨ (m = 1 ∧ (¬ minor = 1 ∨ minor = 1)) ∨ ((1 < m ∧ mh = true) ∧ (¬ minor = 1 ∨ minor = 1)) := by
    rcases (by omega : m = 0 ∨ m = 1 ∨ 1 < m) with h | h | h
    · refine .inl ⟨h, ?_⟩
      by_cases h2 : minor = 1
      · right
        cases nh
        · exact absurd ⟨h2, h, rfl⟩ hA
        · exact ⟨h2, rfl⟩
      · exact .inl h2
    · exact .inr (.inl ⟨h, by omega⟩)
    · refine .inr (.inr ⟨⟨h, ?_⟩, by omega⟩)
      cases mh
      · exact absurd ⟨h, rfl⟩ hB
      · rfl
  clear hA hB
  rcases hcase with ⟨h0, hmi⟩ | ⟨h0, hmi⟩ | ⟨⟨h0, rfl⟩, hmi⟩
  · obtain rfl := h0
    have H3 := Lib.hid (show R = 0 from by rw [HR.out, List.eq_nil_of_length_eq_zero HM.out]; rfl)
    rcases hmi with h2 | ⟨rfl, rfl⟩
    all_goals
      try (have t2 : (minor == 1) = false := beq_eq_false_iff_ne.2 h2)
      go_enter Tryd.func17, Tryd.ntmps17
      go_wp2_with (first
        | (go_at_call 27; with_reducible refine (HF.out).mono ?_; rintro e w1 ⟨b, c, rfl, hS, hb⟩; clear hS
           have HB := Lib.hid hb
           clear hb)
        | (go_at_call 28; with_reducible refine (H15.out _).mono ?_; rintro e w2 ⟨rfl, hw⟩; rw [hw]; clear hw))
      go_loopw [8] (fun i wr => i = .int .i64 0 ∧ wr = w1) (fun i _ => 0)
      case atStart => exact ⟨rfl, rfl⟩
      case round =>
        obtain ⟨rfl, rfl⟩ := hrel
        go_wp2_with fail
        go_ret
        exact ⟨by rw [H3.out]; rfl, HB.out⟩
  all_goals
    have t0 : ((m : Int) == 0) = false := beq_eq_false_iff_ne.2 (by omega)
    first
      | (have t1 : (1 : Int) < (m : Int) := by omega)
      | (have t1 : ¬ (1 : Int) < (m : Int) := by omega)
    clear h0
    rcases hmi with h2 | rfl
    all_goals
      try (have t2 : (minor == 1) = false := beq_eq_false_iff_ne.2 h2)
      go_enter Tryd.func17, Tryd.ntmps17
      go_wp2_with (first
        | (go_at_call 27; with_reducible refine (HF.out).mono ?_; rintro e w1 ⟨b, c, rfl, hS, hb⟩
           have HS := Lib.hid hS
           have HB := Lib.hid hb
           clear hS hb)
        | (go_at_call 28; with_reducible refine (H16.out _).mono ?_; rintro e w2 ⟨rfl, hw⟩; rw [hw]; clear hw))
      go_loopw [8] (fun i wr => ∃ k : Nat, k ≤ m ∧ i = .int .i64 k ∧ Hid (Below w1.heap.size w1 wr) ∧ Hid ((H.take k).all (fun v => Tgt.hostB v.data.toList) = true)) (fun i _ => m - (intOf i).toNat)
      case atStart => exact ⟨0, Nat.zero_le _, rfl, Lib.hid (Below.refl _ _), Lib.hid rfl⟩
      case round =>
        obtain ⟨k, hk, rfl, hbr, H1⟩ := hrel
        rcases Nat.lt_or_ge k m with hlt | hge
        · obtain ⟨bl, off, rfl, hbl, hc⟩ := (HS.out.below hbr.out).2 (by omega)
          have hck := hc k hlt
          have HN := Lib.hid (take_all_snoc (fun v : ByteArray => Tgt.hostB v.data.toList) ByteArray.empty H k (by rw [HM.out]; exact hlt))
          have HZ := Lib.hid (all_of_miss (fun v : ByteArray => Tgt.hostB v.data.toList) ByteArray.empty H k (by rw [HM.out]; exact hlt))
          have HC := Lib.hid (HT.out _ (HSZ.out k hlt))
          clear hc
          generalize H[k]?.getD ByteArray.empty = x at *
          have i1 : (k : Int) < (m : Int) := by omega
          generalize Tgt.hostB x.data.toList = q at *
          cases q with
          | true =>
            have H2 := Lib.hid (show (H.take (k + 1)).all (fun v => Tgt.hostB v.data.toList) = true by rw [HN.out, H1.out]; rfl)
            clear HN HZ
            go_wp2_with (go_at_call 32; with_reducible refine (HC.out _).mono ?_; rintro e w2 ⟨rfl, hb⟩)
            have HB2 := Lib.hid (Base.below_step hbr.out hb)
            clear hb
            go_roundw
            case rel => exact ⟨k + 1, by omega, by go_num, HB2, H2⟩
            case measure => simp [intOf]; omega
          | false =>
            have H2 := Lib.hid (show R = 400 by rw [HR.out, HZ.out rfl]; rfl)
            clear HN HZ
            go_wp2_with (go_at_call 32; with_reducible refine (HC.out _).mono ?_; rintro e w2 ⟨rfl, hb⟩)
            have HB2 := Lib.hid (Base.below_step (Base.below_step HB.out hbr.out) hb)
            clear hb
            go_ret
            exact ⟨by rw [H2.out]; rfl, HB2.out⟩
        · obtain rfl : k = m := by omega
          have H2 := Lib.hid (show R = 0 by
            have := H1.out
            rw [List.take_of_length_le (by rw [HM.out]; exact Nat.le_refl _)] at this
            rw [HR.out, this]; rfl)
          have HB2 := Lib.hid (Base.below_step HB.out hbr.out)
          go_wp2_with fail
          go_ret
          exact ⟨by rw [H2.out]; rfl, HB2.out⟩
end code
end Go.Proofs.YtoakalklbpoknaaDoor.Frm
