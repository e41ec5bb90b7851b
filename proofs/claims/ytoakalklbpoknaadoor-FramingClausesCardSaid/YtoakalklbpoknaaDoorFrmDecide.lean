/-
  Layer 10 (framing): what package framing's Hosts, Length and Decide answer.
-/
import Derived.Test.YtoakalklbpoknaaDoorFrm
namespace Go.Proofs.YtoakalklbpoknaaDoor.Frm
open Go.RowKit Base Txt

theorem take_all_snoc {α : Type} (P : α → Bool) (d : α) (l : List α) (k : Nat) (h : k < l.length) : (l.take (k + 1)).all P = ((l.take k).all P && P (l[k]?.getD d)) := by
  rw [List.take_succ_eq_append_getElem h, List.all_append, List.getElem?_eq_getElem h]
  simp
theorem all_of_miss {α : Type} (P : α → Bool) (d : α) (l : List α) (k : Nat) (h : k < l.length) (hp : P (l[k]?.getD d) = false) : l.all P = false := by
  rw [List.getElem?_eq_getElem h] at hp
  exact List.all_eq_false.2 ⟨_, List.getElem_mem h, by simpa using hp⟩
theorem hosts_none (nh mh : Bool) : hostsV nh mh 1 [] = if nh = true then 0 else 400 := by cases nh <;> cases mh <;> rfl
theorem hosts_loop (nh mh : Bool) (minor : Int) (h : List ByteArray) (h1 : ¬ (minor = 1 ∧ h.length = 0)) (h2 : h.length ≤ 1 ∨ mh = true) : hostsV nh mh minor h = if (h.all fun v => Tgt.hostB v.data.toList) = true then 0 else 400 := by
  unfold hostsV
  rw [if_neg]
  simp only [Bool.or_eq_true, Bool.and_eq_true, decide_eq_true_eq, Bool.not_eq_true']
  rintro (⟨a, b, _⟩ | ⟨a, b⟩)
  · exact h1 ⟨a, b⟩
  · rcases h2 with h2 | h2
    · omega
    · rw [h2] at b; cases b
theorem hosts_many (nh : Bool) (minor : Int) (h : List ByteArray) (h2 : 1 < h.length) : hostsV nh false minor h = 400 := by
  unfold hostsV
  rw [if_pos]
  rw [decide_eq_true h2]
  simp
theorem counts_mem (lc lf ll : Bool) (l : List ByteArray) (s : ByteArray) (h : counts lc lf ll l = some s) (hl : l ≠ []) : s ∈ l := by
  unfold counts at h
  have hd : l.headD ByteArray.empty ∈ l := by
    cases l with
    | nil => exact absurd rfl hl
    | cons x r => exact List.mem_cons_self ..
  have hz : l.getLastD ByteArray.empty ∈ l := by
    rw [List.getLastD_eq_getLast?, List.getLast?_eq_some_getLast hl]
    exact List.getLast_mem hl
  split at h
  · cases h; exact hd
  · split at h
    · cases h; exact hz
    · cases h
def ansC : Option ByteArray → Value
  | none => .tuple #[.string ByteArray.empty, .bool false]
  | some s => .tuple #[.string s, .bool true]
theorem plus_trim (s : ByteArray) : (⟨(Lib.trimPrefix s.data.toList [43]).toArray⟩ : ByteArray) = unplus true s := by
  unfold unplus
  rw [Bool.true_and]
  have h : Lib.hasPrefix s.data.toList [43] = decide (s.data.toList.head? = some 43) := by
    cases s.data.toList with
    | nil => rfl
    | cons c r =>
      have : Lib.hasPrefix (c :: r) [43] = (43 == c) := by simp [Lib.hasPrefix, List.isPrefixOf]
      rw [this, List.head?_cons]
      by_cases h : c = 43
      · subst h; rfl
      · rw [decide_eq_false (fun e => h (Option.some.inj e)), beq_eq_false_iff_ne]
        exact fun e => h e.symm
  unfold Lib.trimPrefix
  rw [h]
  split
  · rfl
  · rfl
theorem unplus_size (lp : Bool) (s : ByteArray) : (unplus lp s).size ≤ s.size := by
  unfold unplus
  split
  · rw [ba_size, List.length_drop, len]; omega
  · exact Nat.le_refl _

section code
set_option maxHeartbeats 4000000
set_option maxRecDepth 10000
attribute [local go_sem] Base.some_undef
theorem hosts_any (p : Nat) (hp : p < 4294967296) (minor : Int) (a : Option Addr) (n cap : Nat) (fs : List Fld) (w : World) (hv : Flds w a n fs) (hn : n ≤ 1000000000) (hs : ∀ f ∈ fs, f.1.size ≤ 1000000000 ∧ f.2.size ≤ 1000000000) :
    Calls Tryd.prog 16 #[.int .u32 (p : Nat), .int .i64 minor, .slice a n cap] w fun e w' => e = .returned (.int .i64 (hostsV (Qk.has p 15) (Qk.has p 16) minor (find fs hostN))) ∧ Below w.heap.size w w' := by
  have HF := Lib.hid (find_at a n cap fs ⟨#[72, 111, 115, 116]⟩ w hv hn (fun f hf => Nat.le_trans (hs f hf).1 (by decide)))
  have HU := Lib.hid (fun w => unless_any p hp 15 400 w)
  have H16 := Lib.hid (fun w => Qk.has_any p hp 16 w)
  have hsz := find_sizes fs ⟨#[72, 111, 115, 116]⟩ 1000000000 (fun f hf => (hs f hf).2)
  have hle := find_le fs ⟨#[72, 111, 115, 116]⟩
  rw [hv.1] at hle
  have HT := Lib.hid (fun v (hv : v.size ≤ 1000000000) w => Tgt.host_any v w hv)
  obtain ⟨R, hR⟩ : ∃ R, hostsV (Qk.has p 15) (Qk.has p 16) minor (find fs ⟨#[72, 111, 115, 116]⟩) = R := ⟨_, rfl⟩
  rw [show hostsV (Qk.has p 15) (Qk.has p 16) minor (find fs hostN) = R from hR]
  clear hv hs hp
  generalize find fs ⟨#[72, 111, 115, 116]⟩ = H at *
  generalize Qk.has p 15 = nh at *
  obtain ⟨mh, hmh⟩ : ∃ mh, Qk.has p 16 = mh := ⟨_, rfl⟩
  rw [hmh] at H16 hR
  clear hmh
  obtain ⟨m, hm⟩ : ∃ m, H.length = m := ⟨_, rfl⟩
  rw [hm] at HF hle
  have HSZ := Lib.hid (fun k (hk : k < m) => show (H[k]?.getD ByteArray.empty).size ≤ 1000000000 by
    rw [List.getElem?_eq_getElem (by omega)]
    exact hsz _ (List.getElem_mem _))
  have HM := Lib.hid hm
  clear hsz
  by_cases hA : minor = 1 ∧ m = 0
  · obtain ⟨rfl, rfl⟩ := hA
    obtain rfl := List.eq_nil_of_length_eq_zero hm
    rw [hosts_none] at hR
    rw [hR] at HU
    clear hR hm HSZ HM
    go_enter Tryd.func16, Tryd.ntmps16
    go_wp2_with (first
      | (go_at_call 25; with_reducible refine (HF.out).mono ?_; rintro e w1 ⟨b, c, rfl, hS, hb⟩; clear hS)
      | (go_at_call 29; with_reducible refine (HU.out _).mono ?_; rintro e w2 ⟨rfl, hw⟩; rw [hw]; clear hw))
    go_ret
    exact ⟨rfl, hb⟩
  by_cases hB : 1 < m ∧ mh = false
  · obtain ⟨h1, rfl⟩ := hB
    rw [hosts_many nh minor H (by omega)] at hR
    subst hR
    have t0 : ¬ (m : Int) = 0 := by omega
    have t1 : (1 : Int) < (m : Int) := by omega
    clear hm hA HSZ HM
    go_enter Tryd.func16, Tryd.ntmps16
    go_wp2_with (first
      | (go_at_call 25; with_reducible refine (HF.out).mono ?_; rintro e w1 ⟨b, c, rfl, hS, hb⟩; clear hS)
      | (go_at_call 30; with_reducible refine (H16.out _).mono ?_; rintro e w2 ⟨rfl, hw⟩; rw [hw]; clear hw))
    go_ret
    exact ⟨rfl, hb⟩
  have hR2 := hosts_loop nh mh minor H (by rw [hm]; exact hA) (by
    rcases (by omega : m ≤ 1 ∨ 1 < m) with h | h
    · exact .inl (by omega)
    · right
      cases mh
      · exact absurd ⟨h, rfl⟩ hB
      · rfl)
  rw [hR] at hR2
  have HR := Lib.hid hR2
  clear hR hR2 hm
  have hcase : (m = 0 ∧ ¬ minor = 1) ∨ m = 1 ∨ (1 < m ∧ mh = true) := by
    rcases (by omega : m = 0 ∨ m = 1 ∨ 1 < m) with h | h | h
    · exact .inl ⟨h, fun e => hA ⟨e, h⟩⟩
    · exact .inr (.inl h)
    · refine .inr (.inr ⟨h, ?_⟩)
      cases mh
      · exact absurd ⟨h, rfl⟩ hB
      · rfl
  clear hA hB
  rcases hcase with ⟨h0, t2⟩ | h0 | ⟨h0, rfl⟩
  · have t0 : (m : Int) = 0 := by omega
    have t1 : ¬ (1 : Int) < (m : Int) := by omega
    obtain rfl := h0
    clear t0 t1
    have H3 := Lib.hid (show R = 0 from by rw [HR.out, List.eq_nil_of_length_eq_zero HM.out]; rfl)
    go_enter Tryd.func16, Tryd.ntmps16
    go_wp2_with (go_at_call 25; with_reducible refine (HF.out).mono ?_; rintro e w1 ⟨b, c, rfl, hS, hb⟩; clear hS
                 have HB := Lib.hid hb
                 clear hb)
    go_loopw [34] (fun i wr => i = .int .i64 0 ∧ wr = w1) (fun i _ => 0)
    case atStart => exact ⟨rfl, rfl⟩
    case round =>
      obtain ⟨rfl, rfl⟩ := hrel
      go_wp2_with fail
      go_ret
      exact ⟨by rw [H3.out]; rfl, HB.out⟩
  all_goals
    have t0 : ¬ (m : Int) = 0 := by omega
    have t1 : (1 : Int) < (m : Int) ∨ ¬ (1 : Int) < (m : Int) := by omega
    first
      | (have t2 : (1 : Int) < (m : Int) := by omega)
      | (have t2 : ¬ (1 : Int) < (m : Int) := by omega)
    clear t1 h0
    go_enter Tryd.func16, Tryd.ntmps16
    go_wp2_with (first
      | (go_at_call 25; with_reducible refine (HF.out).mono ?_; rintro e w1 ⟨b, c, rfl, hS, hb⟩
         have HS := Lib.hid hS
         have HB := Lib.hid hb
         clear hS hb)
      | (go_at_call 30; with_reducible refine (H16.out _).mono ?_; rintro e w2 ⟨rfl, hw⟩; rw [hw]; clear hw))
    go_loopw [34] (fun i wr => ∃ k : Nat, k ≤ m ∧ i = .int .i64 k ∧ Hid (Below w1.heap.size w1 wr) ∧ Hid ((H.take k).all (fun v => Tgt.hostB v.data.toList) = true)) (fun i _ => m - (intOf i).toNat)
    case atStart => exact ⟨0, Nat.zero_le _, rfl, Lib.hid (Below.refl _ _), Lib.hid rfl⟩
    case round =>
      obtain ⟨k, hk, rfl, hbr, H1⟩ := hrel
      rcases Nat.lt_or_ge k m with hlt | hge
      · obtain ⟨bl, off, rfl, hbl, hc⟩ := (HS.out.below hbr.out).2 (by omega)
        have hck := hc k hlt
        have HN := Lib.hid (take_all_snoc (fun v : ByteArray => Tgt.hostB v.data.toList) ByteArray.empty H k (by rw [HM.out]; exact hlt))
        have HZ := Lib.hid (all_of_miss (fun v : ByteArray => Tgt.hostB v.data.toList) ByteArray.empty H k (by rw [HM.out]; exact hlt))
        have HC := Lib.hid (HT.out _ (HSZ.out k hlt))
        clear hc
        generalize H[k]?.getD ByteArray.empty = x at *
        have i1 : (k : Int) < (m : Int) := by omega
        generalize Tgt.hostB x.data.toList = q at *
        cases q with
        | true =>
          have H2 := Lib.hid (show (H.take (k + 1)).all (fun v => Tgt.hostB v.data.toList) = true by rw [HN.out, H1.out]; rfl)
          clear HN HZ
          go_wp2_with (go_at_call 31; with_reducible refine (HC.out _).mono ?_; rintro e w2 ⟨rfl, hb⟩)
          have HB2 := Lib.hid (Base.below_step hbr.out hb)
          clear hb
          go_roundw
          case rel => exact ⟨k + 1, by omega, by go_num, HB2, H2⟩
          case measure => simp [intOf]; omega
        | false =>
          have H2 := Lib.hid (show R = 400 by rw [HR.out, HZ.out rfl]; rfl)
          clear HN HZ
          go_wp2_with (go_at_call 31; with_reducible refine (HC.out _).mono ?_; rintro e w2 ⟨rfl, hb⟩)
          have HB2 := Lib.hid (Base.below_step (Base.below_step HB.out hbr.out) hb)
          clear hb
          go_ret
          exact ⟨by rw [H2.out]; rfl, HB2.out⟩
      · obtain rfl : k = m := by omega
        have H2 := Lib.hid (show R = 0 by
          have := H1.out
          rw [List.take_of_length_le (by rw [HM.out]; exact Nat.le_refl _)] at this
          rw [HR.out, this]; rfl)
        have HB2 := Lib.hid (Base.below_step HB.out hbr.out)
        go_wp2_with fail
        go_ret
        exact ⟨by rw [H2.out]; rfl, HB2.out⟩

theorem alike_any (a : Option Addr) (n cap : Nat) (vs : List ByteArray) (w : World) (hv : Strs w a n vs) (hn : n ≤ 1000000000) :
    Calls Tryd.prog 56 #[.slice a n cap] w fun e w' => e = .returned (.bool (alikeL vs)) ∧ w' = w := by
  have HV := Lib.hid hv
  have HM := Lib.hid hv.1
  obtain ⟨R, hR⟩ : ∃ R, alikeL vs = R := ⟨_, rfl⟩
  rw [hR]
  have HR := Lib.hid hR
  clear hv hR
  go_enter Tryd.func56, Tryd.ntmps56
  go_wp2
  go_loop [7] (fun i => ∃ k : Nat, k ≤ n ∧ i = .int .i64 k ∧ Hid ((vs.take k).all (fun v => decide (v = vs.headD ByteArray.empty)) = true)) (fun i => n - (intOf i).toNat)
  case atStart => exact ⟨0, Nat.zero_le _, rfl, Lib.hid rfl⟩
  case round =>
    obtain ⟨k, hk, rfl, H1⟩ := hrel
    rcases Nat.lt_or_ge k n with hlt | hge
    · obtain ⟨bl, off, rfl, hbl, hc⟩ := HV.out.2 (by omega)
      have hck := hc k hlt
      have hc0 := hc 0 (by omega)
      rw [Nat.add_zero] at hc0
      have HN := Lib.hid (take_all_snoc (fun v : ByteArray => decide (v = vs.headD ByteArray.empty)) ByteArray.empty vs k (by rw [HM.out]; exact hlt))
      have HZ := Lib.hid (all_of_miss (fun v : ByteArray => decide (v = vs.headD ByteArray.empty)) ByteArray.empty vs k (by rw [HM.out]; exact hlt))
      have hh : vs[0]?.getD ByteArray.empty = vs.headD ByteArray.empty := by cases vs <;> rfl
      rw [hh] at hc0
      clear hc hh
      have i1 : (k : Int) < (n : Int) := by omega
      have i0 : (0 : Int) < (n : Int) := by omega
      by_cases he : vs[k]?.getD ByteArray.empty = vs.headD ByteArray.empty
      · have H2 := Lib.hid (show (vs.take (k + 1)).all (fun v => decide (v = vs.headD ByteArray.empty)) = true by rw [HN.out, H1.out, he]; simp)
        rw [he] at hck
        clear he HN HZ
        generalize vs.headD ByteArray.empty = y at *
        go_wp2_with fail
        go_round
        case rel => exact ⟨k + 1, by omega, by go_num, H2⟩
        case measure => simp [intOf]; omega
      · have H2 := Lib.hid (show R = false by rw [← HR.out]; exact HZ.out (decide_eq_false he))
        clear HN HZ
        generalize vs[k]?.getD ByteArray.empty = x at *
        generalize vs.headD ByteArray.empty = y at *
        have he2 : ¬ x.toList = y.toList := fun h => he ((toList_iff x y).1 h)
        have he3 : (x.toList == y.toList) = false := by simpa using he2
        go_wp2_with fail
        go_ret
        exact ⟨by rw [H2.out]; rfl, rfl⟩
    · obtain rfl : k = n := by omega
      have H2 := Lib.hid (show R = true by
        have := H1.out
        rw [List.take_of_length_le (by rw [HM.out]; exact Nat.le_refl _)] at this
        rw [← HR.out]; exact this)
      go_wp2_with fail
      go_ret
      exact ⟨by rw [H2.out]; rfl, rfl⟩
end code
end Go.Proofs.YtoakalklbpoknaaDoor.Frm
