/-
  Layer 7 (target): what the document's Host, Path, Query answer, of every text up to a great size: the same plain words as package target's.
-/
import Derived.Test.YtoakalklbpoknaaDoorTarget
import Derived.Test.YtoakalklbpoknaaDoorTextRef
import Derived.Test.YtoakalklbpoknaaDoorNumber
import Derived.Deep.CutBlock
import Derived.Deep.DeepCutAuto
import Derived.Test.YtoakalklbpoknaaDoorBase
namespace Go.Proofs.YtoakalklbpoknaaDoor.Tgt
open Go.RowKit Base Oct Num Txt

theorem host_parts (l : List UInt8) : hostB l = match parts 58 l with
    | [n] => nameOk n
    | [n, p] => nameOk n && portOk p
    | _ => false := by
  unfold hostB
  rcases cut_cases 58 l with h | ⟨a, r, rfl, h⟩
  · rw [cutAt_none 58 l h, parts_none 58 l h]
    simp
  · rw [cutAt_app 58 a r h, parts_cut 58 a r h]
    simp only [Bool.not_true, Bool.false_or]
    rcases cut_cases 58 r with h2 | ⟨b, r2, rfl, h2⟩
    · rw [parts_none 58 r h2]
    · rw [parts_cut 58 b r2 h2]
      have : portOk (b ++ 58 :: r2) = false := by
        cases hp : portOk (b ++ 58 :: r2) with
        | false => rfl
        | true => exact absurd (by simp) (port_no_colon hp)
      rw [this, Bool.and_false]
      cases hq : parts 58 r2 with
      | nil =>
        have := parts_length 58 r2
        rw [hq] at this; simp at this
      | cons x xs => rfl
theorem parts_form (c : UInt8) (l : List UInt8) : (∃ n, parts c l = [n]) ∨ (∃ n p, parts c l = [n, p]) ∨ ∃ n p x xs, parts c l = n :: p :: x :: xs := by
  cases h : parts c l with
  | nil =>
    have := parts_length c l
    rw [h] at this; simp at this
  | cons n t =>
    match t with
    | [] => exact .inl ⟨n, rfl⟩
    | [p] => exact .inr (.inl ⟨n, p, rfl⟩)
    | p :: x :: xs => exact .inr (.inr ⟨n, p, x, xs, rfl⟩)
theorem parts_bound (c : UInt8) : ∀ (l : List UInt8), ∀ p ∈ parts c l, p.length ≤ l.length
  | [], p, h => by simp [parts] at h; subst h; simp
  | b :: l, p, h => by
    rw [parts] at h
    have ih := parts_bound c l
    split at h
    · rcases List.mem_cons.1 h with rfl | h
      · simp
      · have := ih p h; simp; omega
    · cases hq : parts c l with
      | nil => rw [hq] at h; simp at h; subst h; simp
      | cons y ys =>
        rw [hq] at h ih
        rcases List.mem_cons.1 h with rfl | h
        · have := ih y (by simp); simp; omega
        · have := ih p (by simp [h]); simp; omega
/-- Which of its six ways a byte of a name takes. -/
theorem name_ways (x : UInt8) : (plainB nameMarks x = true ∧ (Oct.letter (x.toNat : Int) = true ∨ (Oct.letter (x.toNat : Int) = false ∧ Oct.digit (x.toNat : Int) = true) ∨ (Oct.letter (x.toNat : Int) = false ∧ Oct.digit (x.toNat : Int) = false ∧ ((x.toNat : Int) = 45 ∨ (x.toNat : Int) = 46 ∨ (x.toNat : Int) = 95 ∨ (x.toNat : Int) = 126)))) ∨
    (plainB nameMarks x = false ∧ Oct.letter (x.toNat : Int) = false ∧ Oct.digit (x.toNat : Int) = false ∧ ¬ (x.toNat : Int) = 45 ∧ ¬ (x.toNat : Int) = 46 ∧ ¬ (x.toNat : Int) = 95 ∧ ¬ (x.toNat : Int) = 126) := by
  have hc : nameMarks.contains x = true ↔ ((x.toNat : Int) = 45 ∨ (x.toNat : Int) = 46 ∨ (x.toNat : Int) = 95 ∨ (x.toNat : Int) = 126) := by
    have e : ∀ k : UInt8, x = k ↔ (x.toNat : Int) = (k.toNat : Int) := fun k => ⟨fun h => by rw [h], fun h => UInt8.toNat_inj.1 (by omega)⟩
    simp only [nameMarks, List.contains_cons, List.contains_nil, Bool.or_false, Bool.or_eq_true, beq_iff_eq]
    rw [e 45, e 46, e 95, e 126]; rfl
  unfold plainB
  cases hl : Oct.letter (x.toNat : Int) with
  | true => exact .inl ⟨rfl, .inl rfl⟩
  | false =>
    cases hd : Oct.digit (x.toNat : Int) with
    | true => exact .inl ⟨rfl, .inr (.inl ⟨rfl, rfl⟩)⟩
    | false =>
      cases hm : nameMarks.contains x with
      | true => exact .inl ⟨rfl, .inr (.inr ⟨rfl, rfl, hc.1 hm⟩)⟩
      | false =>
        refine .inr ⟨rfl, rfl, rfl, ?_, ?_, ?_, ?_⟩ <;> (intro h; have := hc.2 (by simp [h]); rw [hm] at this; cases this)

section code
set_option maxHeartbeats 1000000
attribute [local go_sem] Base.some_undef
theorem rhost_core (s : ByteArray) (n : List UInt8) (T : Bool) (w : World) (hn : n.length ≤ 1000000000)
    (hS : ∀ w, Calls Tryd.prog 48 #[.string s, .int .u8 58] w fun e w' => ∃ bl off m cp, e = .returned (.slice (some ⟨bl, off, none⟩) m cp) ∧ bl < w'.heap.size ∧ Below w.heap.size w w' ∧ w'.cell? ⟨bl, off, none⟩ = some (.string (ba n)) ∧
      ((m = 1 ∧ T = true) ∨ (m = 2 ∧ ∃ p, w'.cell? ⟨bl, off + 1, none⟩ = some (.string (ba p)) ∧ p.length ≤ 1000000000 ∧ portOk p = T))) :
    Calls Tryd.prog 32 #[.string s] w fun e w' => e = .returned (.bool (nameOk n && T)) ∧ Below w.heap.size w w' := by
  have HS := Lib.hid hS
  clear hS
  obtain ⟨R, hR⟩ : ∃ R, (nameOk n && T) = R := ⟨_, rfl⟩
  rw [hR]
  have hsz := ba_size n
  have HR := Lib.hid hR
  clear hR
  rcases Nat.eq_zero_or_pos n.length with h0 | hpos
  · have hRf : false = R := by
      rw [← HR.out]
      obtain rfl : n = [] := List.length_eq_zero_iff.1 h0
      rfl
    have hz : ((ba n).size : Int) < 1 := by omega
    clear HR hsz h0
    subst hRf
    generalize ba n = N at *
    go_enter Tryd.func32, Tryd.ntmps32
    go_wp2_with (go_at_call 48; with_reducible refine (HS.out _).mono ?_; rintro e w1 ⟨bl, off, m, cp, rfl, hbl, hb, hc0, hm⟩
                 have t1 : ¬ (2 : Int) < (m : Int) := by rcases hm with ⟨rfl, _⟩ | ⟨rfl, _⟩ <;> omega
                 have t2 : (0 : Int) < (m : Int) := by rcases hm with ⟨rfl, _⟩ | ⟨rfl, _⟩ <;> omega
                 clear hm)
    go_ret
    exact ⟨rfl, hb⟩
  have hz : ¬ ((ba n).size : Int) < 1 := by omega
  rcases Nat.lt_or_ge 255 n.length with hbig | hsm
  · have hRf : false = R := by
      rw [← HR.out]
      unfold nameOk
      rw [decide_eq_false (by omega : ¬ n.length ≤ 255), Bool.false_and, Bool.and_false]; rfl
    have hz2 : (255 : Int) < ((ba n).size : Int) := by omega
    clear HR hsz hpos hbig
    subst hRf
    generalize ba n = N at *
    go_enter Tryd.func32, Tryd.ntmps32
    go_wp2_with (go_at_call 48; with_reducible refine (HS.out _).mono ?_; rintro e w1 ⟨bl, off, m, cp, rfl, hbl, hb, hc0, hm⟩
                 have t1 : ¬ (2 : Int) < (m : Int) := by rcases hm with ⟨rfl, _⟩ | ⟨rfl, _⟩ <;> omega
                 have t2 : (0 : Int) < (m : Int) := by rcases hm with ⟨rfl, _⟩ | ⟨rfl, _⟩ <;> omega
                 clear hm)
    go_ret
    exact ⟨rfl, hb⟩
  have hz2 : ¬ (255 : Int) < ((ba n).size : Int) := by omega
  have HR2 : Hid ((n.all (plainB nameMarks) && T) = R) := Lib.hid (by
    rw [← HR.out]
    unfold nameOk
    have : n.isEmpty = false := by cases n with
      | nil => simp at hpos
      | cons _ _ => rfl
    rw [decide_eq_true hsm, this]; rfl)
  have e0 : ∀ k (h : k < (ba n).size) (hk2 : k < n.length), (ba n)[k]'h = n[k] := fun _ _ _ => rfl
  have E0 := Lib.hid e0
  have HZ := Lib.hid hsz
  have hHM : ∀ k (h : k < n.length), n[k] ∈ n := fun k h => List.getElem_mem h
  have HM := Lib.hid hHM
  have hTS : ∀ k (h : k < n.length), n.take (k + 1) = n.take k ++ [n[k]] := fun k h => List.take_succ_eq_append_getElem h
  have HTS := Lib.hid hTS
  clear HR e0 hsz hpos hHM hTS
  generalize ba n = N at *
  go_enter Tryd.func32, Tryd.ntmps32
  go_wp2_with (go_at_call 48; with_reducible refine (HS.out _).mono ?_; rintro e w1 ⟨bl, off, m, cp, rfl, hbl, hb, hc0, hm⟩
               have t1 : ¬ (2 : Int) < (m : Int) := by rcases hm with ⟨rfl, _⟩ | ⟨rfl, _⟩ <;> omega
               have t2 : (0 : Int) < (m : Int) := by rcases hm with ⟨rfl, _⟩ | ⟨rfl, _⟩ <;> omega
               have HMM := Lib.hid hm
               have HBB := Lib.hid hb
               clear hm hb)
  go_loop [4] (fun i => ∃ k : Nat, k ≤ N.size ∧ i = .int .i64 k ∧ Hid ((n.take k).all (plainB nameMarks) = true)) (fun i => N.size - (intOf i).toNat)
  case atStart => exact ⟨0, Nat.zero_le _, rfl, Lib.hid rfl⟩
  case round =>
    obtain ⟨k, hk, rfl, hall⟩ := hrel
    rcases Nat.lt_or_ge k N.size with hlt | hge
    · have i1 : (k : Int) < (N.size : Int) := by omega
      have hkn : k < n.length := by have := HZ.out; omega
      obtain ⟨x, hxx⟩ : ∃ x, n[k] = x := ⟨_, rfl⟩
      have hx : ∀ h, N[k]'h = x := fun h => (E0.out k h hkn).trans hxx
      have hts := Lib.hid (HTS.out k hkn)
      have hmm := Lib.hid (HM.out k hkn)
      rw [hxx] at hts hmm
      clear hxx hkn
      have HL := Lib.hid (fun w => Oct.rletter_any (x.toNat : Int) w)
      have HD := Lib.hid (fun w => Oct.rdigit_any (x.toNat : Int) w)
      rcases name_ways x with ⟨hq, hway⟩ | ⟨hq, hl, hd, n45, n46, n95, n126⟩
      · have HNX : Hid ((n.take (k + 1)).all (plainB nameMarks) = true) := Lib.hid (by rw [hts.out, List.all_append, hall.out]; simp [hq])
        clear hq hmm hts hall
        rcases hway with hl | ⟨hl, hd⟩ | ⟨hl, hd, hc⟩
        · rw [hl] at HL
          clear hl
          go_wp2_with (first
            | (go_at_call 49; with_reducible refine (HL.out _).mono ?_; rintro e w2 ⟨rfl, hw⟩; rw [hw]; clear hw)
            | (go_at_call 50; with_reducible refine (HD.out _).mono ?_; rintro e w2 ⟨rfl, hw⟩; rw [hw]; clear hw))
          go_round
          case rel => exact ⟨k + 1, by omega, by go_num, HNX⟩
          case measure => simp [intOf]; omega
        · rw [hl] at HL
          rw [hd] at HD
          clear hl hd
          go_wp2_with (first
            | (go_at_call 49; with_reducible refine (HL.out _).mono ?_; rintro e w2 ⟨rfl, hw⟩; rw [hw]; clear hw)
            | (go_at_call 50; with_reducible refine (HD.out _).mono ?_; rintro e w2 ⟨rfl, hw⟩; rw [hw]; clear hw))
          go_round
          case rel => exact ⟨k + 1, by omega, by go_num, HNX⟩
          case measure => simp [intOf]; omega
        · rw [hl] at HL
          rw [hd] at HD
          clear hl hd
          rcases hc with hc | hc | hc | hc
          all_goals
            have d1 := fun (z : Int) => congrArg (fun y : Int => y != z) hc
            have d2 := d1 45; have d3 := d1 46; have d4 := d1 95; have d5 := d1 126
            simp only [show ((45 : Int) != 45) = false from rfl, show ((46 : Int) != 45) = true from rfl, show ((46 : Int) != 46) = false from rfl, show ((95 : Int) != 45) = true from rfl, show ((95 : Int) != 46) = true from rfl, show ((95 : Int) != 95) = false from rfl, show ((126 : Int) != 45) = true from rfl, show ((126 : Int) != 46) = true from rfl, show ((126 : Int) != 95) = true from rfl, show ((126 : Int) != 126) = false from rfl] at d2 d3 d4 d5
            clear d1 hc
            go_wp2_with (first
              | (go_at_call 49; with_reducible refine (HL.out _).mono ?_; rintro e w2 ⟨rfl, hw⟩; rw [hw]; clear hw)
              | (go_at_call 50; with_reducible refine (HD.out _).mono ?_; rintro e w2 ⟨rfl, hw⟩; rw [hw]; clear hw))
            go_round
            case rel => exact ⟨k + 1, by omega, by go_num, HNX⟩
            case measure => simp [intOf]; omega
      · have hRf : false = R := by
          rw [← HR2.out, List.all_eq_false.2 ⟨x, hmm.out, by rw [hq]; decide⟩]; rfl
        have HRF := Lib.hid hRf
        rw [hl] at HL
        rw [hd] at HD
        have d45 : ((x.toNat : Int) != 45) = true := bne_iff_ne.2 n45
        have d46 : ((x.toNat : Int) != 46) = true := bne_iff_ne.2 n46
        have d95 : ((x.toNat : Int) != 95) = true := bne_iff_ne.2 n95
        have d126 : ((x.toNat : Int) != 126) = true := bne_iff_ne.2 n126
        clear hl hd n45 n46 n95 n126 hq hRf hmm hts hall
        go_wp2_with (first
          | (go_at_call 49; with_reducible refine (HL.out _).mono ?_; rintro e w2 ⟨rfl, hw⟩; rw [hw]; clear hw)
          | (go_at_call 50; with_reducible refine (HD.out _).mono ?_; rintro e w2 ⟨rfl, hw⟩; rw [hw]; clear hw))
        go_ret
        exact ⟨by rw [← HRF.out]; rfl, HBB.out⟩
    · obtain rfl : k = N.size := by omega
      have hTR : T = R := by
        rw [← HR2.out]
        have := hall.out
        rw [List.take_of_length_le (by rw [HZ.out]; exact Nat.le_refl _)] at this
        rw [this, Bool.true_and]
      have HTR := Lib.hid hTR
      clear hTR hall
      rcases HMM.out with ⟨rfl, hT⟩ | ⟨rfl, p, hc1, hpl, hT⟩
      · have HT := Lib.hid (hT.symm.trans HTR.out)
        clear hT HMM
        go_wp2
        go_ret
        exact ⟨by rw [← HT.out]; rfl, HBB.out⟩
      · have hps := ba_size p
        have HDc := Lib.hid (fun w => Num.rdec_any 65535 (by decide) (ba p) w (by unfold maxLen; omega))
        rw [ba_list] at HDc
        have hP : portOk p = (decide ((ba p).size ≤ 5) && decide ((readOf 10 65535 p).2 = 0)) := by unfold portOk; rw [hps]
        rw [hP] at hT
        generalize (readOf 10 65535 p).2 = en at *
        generalize (readOf 10 65535 p).1 = vn at *
        generalize ba p = PP at *
        clear hP hps HMM
        by_cases he : en = 0
        · subst he
          rw [decide_eq_true rfl, Bool.and_true] at hT
          have HT := Lib.hid (hT.trans HTR.out)
          clear hT
          go_wp2_with (go_at_call 41; with_reducible refine (HDc.out _).mono ?_; rintro e w2 ⟨rfl, hw⟩; rw [hw]; clear hw)
          go_ret
          exact ⟨by rw [← HT.out]; first | rfl | (simp; omega), HBB.out⟩
        · rw [decide_eq_false he, Bool.and_false] at hT
          have HT := Lib.hid (hT.trans HTR.out)
          have he2 : (en == 0) = false := beq_eq_false_iff_ne.2 he
          clear hT he
          go_wp2_with (go_at_call 41; with_reducible refine (HDc.out _).mono ?_; rintro e w2 ⟨rfl, hw⟩; rw [hw]; clear hw)
          go_ret
          exact ⟨by rw [← HT.out]; rfl, HBB.out⟩
theorem rhost_any (s : ByteArray) (w : World) (hs : s.size ≤ 1000000000) : Calls Tryd.prog 32 #[.string s] w fun e w' => e = .returned (.bool (hostB s.data.toList)) ∧ Below w.heap.size w w' := by
  have HS := Lib.hid (fun w => Txt.rsplit_any s 58 w hs)
  have hbd := parts_bound 58 s.data.toList
  rw [len] at hbd
  rw [host_parts]
  rcases parts_form 58 s.data.toList with ⟨n, hp⟩ | ⟨n, p, hp⟩ | ⟨n, p, x, xs, hp⟩
  · rw [hp] at HS hbd
    rw [hp]
    have hnl := hbd n (by simp)
    have key := rhost_core s n true w (by omega) fun w => (HS.out w).mono fun e w' h => by
      obtain ⟨b, m, cp, rfl, hm, hst, hb⟩ := h
      obtain rfl : m = 1 := hm
      obtain ⟨bl, off, rfl, hbl, hc⟩ := hst.2 (by omega)
      exact ⟨bl, off, 1, cp, rfl, hbl, hb, hc 0 (by omega), .inl ⟨rfl, rfl⟩⟩
    rw [Bool.and_true] at key
    exact key
  · rw [hp] at HS hbd
    rw [hp]
    have hnl := hbd n (by simp)
    have hpl := hbd p (by simp)
    exact rhost_core s n (portOk p) w (by omega) fun w => (HS.out w).mono fun e w' h => by
      obtain ⟨b, m, cp, rfl, hm, hst, hb⟩ := h
      obtain rfl : m = 2 := hm
      obtain ⟨bl, off, rfl, hbl, hc⟩ := hst.2 (by omega)
      exact ⟨bl, off, 2, cp, rfl, hbl, hb, hc 0 (by omega), .inr ⟨rfl, p, hc 1 (by omega), by omega, rfl⟩⟩
  · rw [hp] at HS
    rw [hp]
    clear hp hbd
    have HS2 : Hid (∀ w, Calls Tryd.prog 48 #[.string s, .int .u8 58] w fun e w' => ∃ b m cp, e = .returned (.slice b m cp) ∧ m = (n :: p :: x :: xs).length ∧ Strs w' b m ((n :: p :: x :: xs).map ba) ∧ Below w.heap.size w w') := HS
    clear HS
    go_enter Tryd.func32, Tryd.ntmps32
    go_wp2_with (go_at_call 48; with_reducible refine (HS2.out _).mono ?_; rintro e w1 ⟨b, m, cp, rfl, hm, hst, hb⟩
                 have t1 : (2 : Int) < (m : Int) := by rw [hm]; simp; omega)
    go_ret
    exact ⟨rfl, hb⟩
end code
end Go.Proofs.YtoakalklbpoknaaDoor.Tgt

/-
  Layer 7 (target): what the document's Path, Query and their bytes answer, of every text up to a great size.
-/
namespace Go.Proofs.YtoakalklbpoknaaDoor.Tgt
open Go.RowKit Base Oct Num Txt

theorem written_drop (ms l : List UInt8) (k : Nat) (h : k < l.length) : written ms (l.drop k) = (okAt ms l[k] (l.drop (k + 1)) && written ms (l.drop (k + 1))) := by
  rw [List.drop_eq_getElem_cons h, written]
theorem okAt_short (ms : List UInt8) (c : UInt8) (r : List UInt8) (h : r.length < 2) : okAt ms c r = plainB ms c := by
  match r, h with
  | [], _ => rfl
  | [a], _ => rfl
theorem okAt_pct (ms l : List UInt8) (k : Nat) (h : k + 2 < l.length) : okAt ms 37 (l.drop (k + 1)) = (hexB l[k + 1] && hexB l[k + 2]) := by
  rw [List.drop_eq_getElem_cons (by omega : k + 1 < l.length), List.drop_eq_getElem_cons (by omega : k + 1 + 1 < l.length), okAt, if_pos rfl]
theorem contains_snoc (l : List UInt8) (k : Nat) (h : k < l.length) (c : UInt8) : (l.take (k + 1)).contains c = ((l.take k).contains c || (c == l[k])) := by
  rw [List.take_succ_eq_append_getElem h]
  generalize l[k] = x
  generalize l.take k = m
  induction m with
  | nil => rw [List.nil_append, List.contains_cons, List.contains_nil, Bool.or_false, Bool.false_or]
  | cons y m ih => rw [List.cons_append, List.contains_cons, List.contains_cons, ih, Bool.or_assoc]

section code
set_option maxHeartbeats 1000000
attribute [local go_sem] Base.some_undef
end code
end Go.Proofs.YtoakalklbpoknaaDoor.Tgt

/-
  Layer 7 (target): what the document's Path, Query, and its test for a colon answer, of every text up to a great size.
-/
namespace Go.Proofs.YtoakalklbpoknaaDoor.Tgt
open Go.RowKit Base Oct Num Txt

section code
set_option maxHeartbeats 1000000
attribute [local go_sem] Base.some_undef
end code
end Go.Proofs.YtoakalklbpoknaaDoor.Tgt

/-
  Layer 7 (target): what the document's origin answers, of every text up to a great size: the parts that package target's makes of it, and whether they may be.
-/
namespace Go.Proofs.YtoakalklbpoknaaDoor.Tgt
open Go.RowKit Base Oct Num Txt

theorem cut_hit (c : UInt8) (l : List UInt8) (k : Nat) (hk : k < l.length) (hc : l[k] = c) (hno : c ∉ l.take k) : cutAt c l = (l.take k, l.drop (k + 1), true) := by
  have e : l = l.take k ++ c :: l.drop (k + 1) := by
    conv => lhs; rw [← List.take_append_drop k l, List.drop_eq_getElem_cons hk, hc]
  conv => lhs; rw [e]
  exact cutAt_app c _ _ hno
section code
set_option maxHeartbeats 1000000
attribute [local go_sem] Base.some_undef
end code
end Go.Proofs.YtoakalklbpoknaaDoor.Tgt

/-
  Layer 7 (target): what the document's Target answers, of every method and text up to a great size: the same plain words as package target's Parse.
-/
namespace Go.Proofs.YtoakalklbpoknaaDoor.Tgt
open Go.RowKit Base Oct Num Txt

theorem cutAt_head (c d : UInt8) (l : List UInt8) (h : (cutAt c l).1.head? = some d) : l.head? = some d := by
  cases l with
  | nil => simp [cutAt] at h
  | cons b r =>
    rw [cutAt] at h
    split at h
    · simp at h
    · simpa using h
theorem origin_head {l : List UInt8} (h : l.head? ≠ some 47) : origin l = none := by
  unfold origin
  have : pathB (cutAt 63 l).1 = false := by
    unfold pathB
    rw [decide_eq_false (fun e => h (cutAt_head _ _ _ e)), Bool.false_and]
  rw [this, Bool.false_and]; rfl
theorem schemed_head {l : List UInt8} (h : l.head? = some 47) : schemed l = false := by
  cases l with
  | nil => simp at h
  | cons c r =>
    obtain rfl : c = 47 := by simpa using h
    unfold schemed
    have : (low (((47 : UInt8) :: r).take 7) == low http) = false := by
      rw [beq_eq_false_iff_ne]
      intro e
      have e2 := congrArg (fun x => x.head?) e
      revert e2
      show some (lowB 47) = some (lowB 104) → False
      decide
    rw [this, Bool.and_false]
theorem parse_alt {m l : List UInt8} (hm : ¬ m = connect) (ho : ¬ (m = options ∧ l = [42])) : parse m l = if schemed l = true then absolute (l.drop 7) else origin l := by
  rw [parse, if_neg hm, if_neg ho]
  by_cases hd : l.head? = some 47
  · rw [if_pos hd, schemed_head hd]; rfl
  · rw [if_neg hd, origin_head hd]
def relabel (F : Nat) (ho : List UInt8) (o : Option Tg) : Option Tg := o.map fun t => ⟨F, ho, t.path, t.query, t.asked⟩
theorem origin_relabel (l : List UInt8) : origin l = relabel 1 [] (origin l) := by
  unfold relabel
  cases h : origin l with
  | none => rfl
  | some t =>
    obtain ⟨_, h1, h2⟩ := putPath_origin h
    obtain ⟨f, ho, p, q, a⟩ := t
    simp only at h1 h2
    subst h1 h2
    rfl
theorem absolute_relabel (l : List UInt8) (h : hostB (hostOf l) = true) : absolute l = relabel 2 (hostOf l) (origin (slashed (restOf l))) := by
  unfold absolute relabel
  cases origin (slashed (restOf l)) with
  | none => rfl
  | some t => simp only [h, if_true]; rfl
theorem absolute_none (l : List UInt8) (h : hostB (hostOf l) = false) : absolute l = none := by
  unfold absolute
  cases origin (slashed (restOf l)) with
  | none => rfl
  | some t => simp only [h]; rfl
theorem host_all : ∀ l : List UInt8, (∀ x ∈ l, ended x = false) → hostOf l = l ∧ restOf l = []
  | [], _ => ⟨rfl, rfl⟩
  | c :: r, h => by
    have hc := h c (by simp)
    have ih := host_all r fun x hx => h x (by simp [hx])
    unfold hostOf restOf at *
    simp only [List.takeWhile_cons, List.dropWhile_cons, hc, Bool.not_false, if_true]
    exact ⟨by rw [ih.1], ih.2⟩
theorem host_stop (l : List UInt8) (k : Nat) (h1 : ∀ x ∈ l.take k, ended x = false) (h2 : l.length ≤ k ∨ ∃ h : k < l.length, ended l[k] = true) : hostOf l = l.take k ∧ restOf l = l.drop k := by
  rcases h2 with h2 | ⟨h2, h3⟩
  · rw [List.take_of_length_le h2] at h1
    rw [List.take_of_length_le h2, List.drop_eq_nil_of_le h2]
    exact host_all l h1
  · have e := host_cut (fun c => !ended c) (l.take k) (l.drop (k + 1)) l[k] (fun x hx => by simp [h1 x hx]) (by simp [h3])
    have e2 : l.take k ++ l[k] :: l.drop (k + 1) = l := by rw [← List.drop_eq_getElem_cons h2, List.take_append_drop]
    rw [e2] at e
    exact ⟨e.1, by rw [List.drop_eq_getElem_cons h2]; exact e.2⟩

section code
set_option maxHeartbeats 1000000
attribute [local go_sem] Base.some_undef
end code
end Go.Proofs.YtoakalklbpoknaaDoor.Tgt
