/-
  Layer 7 (target): what the document's Target answers, of every method and text up to a great size: the same plain words as package target's Parse.
-/
import Derived.Test.YtlignmlkoahbmaaGreatDoorTargetRef2
import Derived.Test.YtlignmlkoahbmaaGreatDoorTargetAbs
import Derived.Test.YtlignmlkoahbmaaGreatDoorTextRef
namespace Go.Proofs.YtlignmlkoahbmaaGreatDoor.Tgt
open Go.RowKit Base Oct Num Txt

theorem cutAt_head (c d : UInt8) (l : List UInt8) (h : (cutAt c l).1.head? = some d) : l.head? = some d := by
  cases l with
  | nil => simp [cutAt] at h
  | cons b r =>
    rw [cutAt] at h
    split at h
    · simp at h
    · simpa using h
theorem origin_head {l : List UInt8} (h : l.head? ≠ some 47) : origin l = none := by
  unfold origin
  have : pathB (cutAt 63 l).1 = false := by
    unfold pathB
    rw [decide_eq_false (fun e => h (cutAt_head _ _ _ e)), Bool.false_and]
  rw [this, Bool.false_and]; rfl
theorem schemed_head {l : List UInt8} (h : l.head? = some 47) : schemed l = false := by
  cases l with
  | nil => simp at h
  | cons c r =>
    obtain rfl : c = 47 := by simpa using h
    unfold schemed
    have : (low (((47 : UInt8) :: r).take 7) == low http) = false := by
      rw [beq_eq_false_iff_ne]
      intro e
      have e2 := congrArg (fun x => x.head?) e
      revert e2
      show some (lowB 47) = some (lowB 104) → False
      decide
    rw [this, Bool.and_false]
theorem parse_alt {m l : List UInt8} (hm : ¬ m = connect) (ho : ¬ (m = options ∧ l = [42])) : parse m l = if schemed l = true then absolute (l.drop 7) else origin l := by
  rw [parse, if_neg hm, if_neg ho]
  by_cases hd : l.head? = some 47
  · rw [if_pos hd, schemed_head hd]; rfl
  · rw [if_neg hd, origin_head hd]
def relabel (F : Nat) (ho : List UInt8) (o : Option Tg) : Option Tg := o.map fun t => ⟨F, ho, t.path, t.query, t.asked⟩
theorem origin_relabel (l : List UInt8) : origin l = relabel 1 [] (origin l) := by
  unfold relabel
  cases h : origin l with
  | none => rfl
  | some t =>
    obtain ⟨_, h1, h2⟩ := putPath_origin h
    obtain ⟨f, ho, p, q, a⟩ := t
    simp only at h1 h2
    subst h1 h2
    rfl
theorem absolute_relabel (l : List UInt8) (h : hostB (hostOf l) = true) : absolute l = relabel 2 (hostOf l) (origin (slashed (restOf l))) := by
  unfold absolute relabel
  cases origin (slashed (restOf l)) with
  | none => rfl
  | some t => simp only [h, if_true]; rfl
theorem absolute_none (l : List UInt8) (h : hostB (hostOf l) = false) : absolute l = none := by
  unfold absolute
  cases origin (slashed (restOf l)) with
  | none => rfl
  | some t => simp only [h]; rfl
theorem host_all : ∀ l : List UInt8, (∀ x ∈ l, ended x = false) → hostOf l = l ∧ restOf l = []
  | [], _ => ⟨rfl, rfl⟩
  | c :: r, h => by
    have hc := h c (by simp)
    have ih := host_all r fun x hx => h x (by simp [hx])
    unfold hostOf restOf at *
    simp only [List.takeWhile_cons, List.dropWhile_cons, hc, Bool.not_false, if_true]
    exact ⟨by rw [ih.1], ih.2⟩
theorem host_stop (l : List UInt8) (k : Nat) (h1 : ∀ x ∈ l.take k, ended x = false) (h2 : l.length ≤ k ∨ ∃ h : k < l.length, ended l[k] = true) : hostOf l = l.take k ∧ restOf l = l.drop k := by
  rcases h2 with h2 | ⟨h2, h3⟩
  · rw [List.take_of_length_le h2] at h1
    rw [List.take_of_length_le h2, List.drop_eq_nil_of_le h2]
    exact host_all l h1
  · have e := host_cut (fun c => !ended c) (l.take k) (l.drop (k + 1)) l[k] (fun x hx => by simp [h1 x hx]) (by simp [h3])
    have e2 : l.take k ++ l[k] :: l.drop (k + 1) = l := by rw [← List.drop_eq_getElem_cons h2, List.take_append_drop]
    rw [e2] at e
    exact ⟨e.1, by rw [List.drop_eq_getElem_cons h2]; exact e.2⟩

section code
set_option maxHeartbeats 1000000
attribute [local go_sem] Base.some_undef
theorem rtarget_connect (m s : ByteArray) (w : World) (hs : s.size ≤ 900000000) (hm : m.data.toList = connect) :
    Calls Tryz.prog 23 #[.string m, .string s] w fun e w' => e = .returned (ans (parse m.data.toList s.data.toList)) ∧ Below w.heap.size w w' := by
  have HCC := Lib.hid (Tgb.new w 57 0 E0 E0 E0 false)
  have HWW := Lib.hid (show Below w.heap.size w (w.alloc (.cells #[.int .i64 0, .string E0, .string E0, .string E0, .bool false] 57)) from (Below.refl _ _).alloc (Nat.le_refl _) _)
  have HG := Lib.hid (show w.heap.size < (w.alloc (.cells #[.int .i64 0, .string E0, .string E0, .string E0, .bool false] 57)).heap.size by simp)
  have HC := Lib.hid (fun w => rport_any s w (by omega))
  have HH := Lib.hid (fun w => rhost_any s w (by omega))
  have hba : ba s.data.toList = s := rfl
  rw [parse, if_pos hm]
  obtain ⟨t1, t2⟩ := eq_facts m [67, 79, 78, 78, 69, 67, 84] true (decide_eq_true hm)
  clear hm
  obtain ⟨R, hR⟩ : ∃ R, authority s.data.toList = R := ⟨_, rfl⟩
  rw [hR]
  unfold authority at hR
  generalize s.data.toList.contains 58 = b at *
  generalize hostB s.data.toList = h at *
  cases h with
  | false =>
    rw [Bool.and_false] at hR
    obtain rfl : none = R := hR
    rw [ans]
    clear hba
    go_enter Tryz.func23, Tryz.ntmps23
    go_wp2_with (go_at_call 40; with_reducible refine (HH.out _).mono ?_; rintro e w2 ⟨rfl, hb⟩
                 obtain ⟨c0, c1, c2, c3, c4, z0, z1, z2, z3, z4⟩ := HCC.out.below HG.out hb
                 have HB := Lib.hid (Base.below_step HWW.out hb)
                 clear hb)
    obtain ⟨W, hW, ⟨d0, d1, d2, d3, d4, _, _, _, _, _⟩, hbW⟩ := Tgb.put ⟨c0, c1, c2, c3, c4, z0, z1, z2, z3, z4⟩ HB.out (Nat.le_refl _) 0 E0 E0 E0 false
    rw [hW]
    exact bodyPost_ret (v := .tuple #[tv 0 E0 E0 E0 false, .int .i64 400]) (by simp [results, Tryz.results23, go_sem, d0, d1, d2, d3, d4]) rfl ⟨rfl, hbW⟩
  | true =>
    cases b with
    | false =>
      obtain rfl : none = R := hR
      rw [ans]
      clear hba
      go_enter Tryz.func23, Tryz.ntmps23
      go_wp2_with (first
        | (go_at_call 41; with_reducible refine (HC.out _).mono ?_; rintro e w1 ⟨rfl, hw⟩; rw [hw]; clear hw)
        | (go_at_call 40; with_reducible refine (HH.out _).mono ?_; rintro e w2 ⟨rfl, hb⟩
           obtain ⟨c0, c1, c2, c3, c4, z0, z1, z2, z3, z4⟩ := HCC.out.below HG.out hb
           have HB := Lib.hid (Base.below_step HWW.out hb)
           clear hb))
      obtain ⟨W, hW, ⟨d0, d1, d2, d3, d4, _, _, _, _, _⟩, hbW⟩ := Tgb.put ⟨c0, c1, c2, c3, c4, z0, z1, z2, z3, z4⟩ HB.out (Nat.le_refl _) 0 E0 E0 E0 false
      rw [hW]
      exact bodyPost_ret (v := .tuple #[tv 0 E0 E0 E0 false, .int .i64 400]) (by simp [results, Tryz.results23, go_sem, d0, d1, d2, d3, d4]) rfl ⟨rfl, hbW⟩
    | true =>
      obtain rfl : some ⟨3, s.data.toList, [], [], false⟩ = R := hR
      rw [ans, hba, show ba [] = E0 from rfl]
      clear hba
      go_enter Tryz.func23, Tryz.ntmps23
      go_wp2_with (first
        | (go_at_call 41; with_reducible refine (HC.out _).mono ?_; rintro e w1 ⟨rfl, hw⟩; rw [hw]; clear hw)
        | (go_at_call 40; with_reducible refine (HH.out _).mono ?_; rintro e w2 ⟨rfl, hb⟩
           obtain ⟨c0, c1, c2, c3, c4, z0, z1, z2, z3, z4⟩ := HCC.out.below HG.out hb
           have HB := Lib.hid (Base.below_step HWW.out hb)
           clear hb))
      obtain ⟨W, hW, ⟨d0, d1, d2, d3, d4, _, _, _, _, _⟩, hbW⟩ := Tgb.put ⟨c0, c1, c2, c3, c4, z0, z1, z2, z3, z4⟩ HB.out (Nat.le_refl _) 3 s E0 E0 false
      rw [hW]
      exact bodyPost_ret (v := .tuple #[tv 3 s E0 E0 false, .int .i64 0]) (by simp [results, Tryz.results23, go_sem, d0, d1, d2, d3, d4]) rfl ⟨rfl, hbW⟩

set_option maxRecDepth 10000 in
theorem rtarget_any (m s : ByteArray) (w : World) (hs : s.size ≤ 900000000) :
    Calls Tryz.prog 23 #[.string m, .string s] w fun e w' => e = .returned (ans (parse m.data.toList s.data.toList)) ∧ Below w.heap.size w w' := by
  by_cases hm : m.data.toList = connect
  · exact rtarget_connect m s w hs hm
  obtain ⟨t1, t2⟩ := eq_facts m [67, 79, 78, 78, 69, 67, 84] false (decide_eq_false hm)
  by_cases ho : m.data.toList = options ∧ s.data.toList = [42]
  · obtain ⟨t3, t4⟩ := eq_facts m [79, 80, 84, 73, 79, 78, 83] true (decide_eq_true ho.1)
    obtain ⟨t5, t6⟩ := eq_facts s [42] true (decide_eq_true ho.2)
    rw [parse, if_neg hm, if_pos ho]
    clear ho hm
    go_enter Tryz.func23, Tryz.ntmps23
    go_wp2_with fail
    exact bodyPost_ret (v := .tuple #[tv 4 E0 E0 E0 false, .int .i64 0]) (by simp [results, Tryz.results23, go_sem]) rfl ⟨rfl, (Below.refl _ _).alloc (Nat.le_refl _) _⟩
  obtain ⟨R, hR⟩ : ∃ R, parse m.data.toList s.data.toList = R := ⟨_, rfl⟩
  rw [hR]
  rw [parse_alt hm ho] at hR
  have HR := Lib.hid hR
  have hno : ((m.toList == [79, 80, 84, 73, 79, 78, 83]) = false ∧ (m.toList == (ByteArray.mk #[79, 80, 84, 73, 79, 78, 83]).toList) = false) ∨ ((m.toList == [79, 80, 84, 73, 79, 78, 83]) = true ∧ (m.toList == (ByteArray.mk #[79, 80, 84, 73, 79, 78, 83]).toList) = true ∧ (s.toList == [42]) = false ∧ (s.toList == (ByteArray.mk #[42]).toList) = false) := by
    by_cases h1 : m.data.toList = options
    · obtain ⟨t3, t4⟩ := eq_facts m [79, 80, 84, 73, 79, 78, 83] true (decide_eq_true h1)
      obtain ⟨t5, t6⟩ := eq_facts s [42] false (decide_eq_false fun e => ho ⟨h1, e⟩)
      exact .inr ⟨t3, t4, t5, t6⟩
    · obtain ⟨t3, t4⟩ := eq_facts m [79, 80, 84, 73, 79, 78, 83] false (decide_eq_false h1)
      exact .inl ⟨t3, t4⟩
  have HNO := Lib.hid hno
  clear ho hm hR hno
  have hcc := Tgb.new w 57 0 E0 E0 E0 false
  have hww : Below w.heap.size w (w.alloc (.cells #[.int .i64 0, .string E0, .string E0, .string E0, .bool false] 57)) := (Below.refl _ _).alloc (Nat.le_refl _) _
  have hgg : w.heap.size < (w.alloc (.cells #[.int .i64 0, .string E0, .string E0, .string E0, .bool false] 57)).heap.size := by simp
  go_enter Tryz.func23, Tryz.ntmps23
  go_upto_region 5 with fail
  generalize w.alloc (.cells #[.int .i64 0, .string E0, .string E0, .string E0, .bool false] 57) = W at *
  have HCC := Lib.hid hcc; have HWW := Lib.hid hww; have HG := Lib.hid hgg
  clear hcc hww hgg
  go_cut [29] from 24 (fun v wx => v = .bool false ∧ wx = W)
  case first =>
    rcases HNO.out with ⟨t3, t4⟩ | ⟨t3, t4, t5, t6⟩
    all_goals
      go_wp2_with fail
      go_meet
      case rel => exact ⟨rfl, rfl⟩
  case rest =>
    obtain ⟨rfl, hw0⟩ := hcut
    rw [hw0]
    clear hw0 HNO
    go_upto_region 8 with fail
    go_cut [38] from 31 (fun v wx => v = .bool (schemed s.data.toList) ∧ Hid (Below W.heap.size W wx))
    case first =>
      by_cases h7 : 7 ≤ s.size
      · have q7 : (7 : Int) ≤ (s.size : Int) := by omega
        have x1 : (s.extract 0 7).data.toList = s.data.toList.take 7 := by rw [Lib.extract_data]; simp
        have hx1 : (s.extract 0 7).size ≤ 1000 := by rw [← len, x1, List.length_take]; omega
        have HM := Lib.hid (fun w => Txt.rsame_any (s.extract 0 7) ⟨#[104, 116, 116, 112, 58, 47, 47]⟩ w (by omega) (by decide))
        have hsm : same (s.extract 0 7) ⟨#[104, 116, 116, 112, 58, 47, 47]⟩ = schemed s.data.toList := by
          unfold same schemed
          rw [x1, len, decide_eq_true h7]; rfl
        rw [hsm] at HM
        clear x1 hx1 hsm h7 HR
        generalize schemed s.data.toList = sc at *
        go_wp2_with (go_at_call 42; with_reducible refine (HM.out _).mono ?_; rintro e w2 ⟨rfl, hb⟩)
        go_meet
        case rel => exact ⟨rfl, Lib.hid hb⟩
      · have q7 : ¬ (7 : Int) ≤ (s.size : Int) := by omega
        have hsc : schemed s.data.toList = false := by unfold schemed; rw [len, decide_eq_false h7, Bool.false_and]
        have HSC := Lib.hid hsc
        clear hsc h7
        go_wp2_with fail
        go_meet
        case rel => exact ⟨by rw [HSC.out], Lib.hid (Below.refl _ _)⟩
    case rest =>
      obtain ⟨rfl, hbc⟩ := hcut
      have H1 := Lib.hid (HCC.out.below HG.out hbc.out)
      have HB1 := Lib.hid (Base.below_step HWW.out hbc.out)
      have HG1 := Lib.hid (Nat.lt_of_lt_of_le HG.out hbc.out.size)
      clear HCC HWW HG hbc
      go_upto_if 38 with fail
      go_cut [1, 6, 7] from 8 (fun v1 v6 v7 wx => ∃ (F : Nat) (HO SS : List UInt8), v1 = .string (ba SS) ∧ v6 = .int .i64 F ∧ v7 = .string (ba HO) ∧ SS.length ≤ 1000000000 ∧ Hid (relabel F HO (origin SS) = R) ∧ Hid (Below wc.heap.size wc wx))
      case first =>
        cases hsc : schemed s.data.toList with
        | false =>
          rw [hsc, if_neg (by decide), origin_relabel] at HR
          clear hsc
          go_wp2_with fail
          go_meet
          case rel => exact ⟨1, [], s.data.toList, rfl, rfl, rfl, by rw [len]; omega, HR, Lib.hid (Below.refl _ _)⟩
        | true =>
          rw [hsc, if_pos rfl] at HR
          have hs7 : 7 ≤ s.size := by
            unfold schemed at hsc
            rw [Bool.and_eq_true, decide_eq_true_eq, len] at hsc
            exact hsc.1
          clear hsc
          go_wp2_with fail
          go_loop [8] (fun i => ∃ k : Nat, 7 ≤ k ∧ k ≤ s.size ∧ i = .int .i64 k ∧ Hid (∀ x ∈ (s.data.toList.drop 7).take (k - 7), ended x = false)) (fun i => s.size - (intOf i).toNat)
          case atStart => exact ⟨7, Nat.le_refl _, hs7, rfl, Lib.hid (by simp)⟩
          case round =>
            obtain ⟨k, hlk, hle, rfl, hall⟩ := hrel
            rcases Nat.lt_or_ge k s.size with hlt | hge
            · have i1 : (k : Int) < (s.size : Int) := by omega
              have hkl : k < s.data.toList.length := by rw [len]; exact hlt
              obtain ⟨c, hck⟩ : ∃ c, s.data.toList[k] = c := ⟨_, rfl⟩
              have hxk : ∀ h, s[k]'h = c := fun _ => hck
              have hdl : k - 7 < (s.data.toList.drop 7).length := by rw [List.length_drop, len]; omega
              have hdk : (s.data.toList.drop 7)[k - 7] = c := by
                rw [List.getElem_drop, ← hck]
                congr 1
                omega
              by_cases h47 : c = 47
              · have t47 : ((c.toNat : Int) != 47) = false := by rw [h47]; rfl
                have hstop : (s.data.toList.drop 7).length ≤ k - 7 ∨ ∃ h : k - 7 < (s.data.toList.drop 7).length, ended (s.data.toList.drop 7)[k - 7] = true := .inr ⟨hdl, by rw [hdk, h47]; rfl⟩
                clear hdl hdk
                have j7 : (7 : Int) ≤ (k : Int) := by omega
                have jk : (k : Int) ≤ (s.size : Int) := by omega
                obtain ⟨g1, g2⟩ := host_stop (s.data.toList.drop 7) (k - 7) hall.out hstop
                rw [List.drop_drop, show 7 + (k - 7) = k by omega] at g2
                have hx : s.extract 7 k = ba (hostOf (s.data.toList.drop 7)) := ba_ext (by rw [Lib.extract_data, g1]; rfl)
                have hy : s.extract k s.size = ba (restOf (s.data.toList.drop 7)) := ba_ext (by rw [drop_ext, g2]; rfl)
                have HHo := Lib.hid (fun w => rhost_any (s.extract 7 k) w (by rw [hx, ba_size]; have := hostOf_le (s.data.toList.drop 7); rw [List.length_drop, len] at this; omega))
                rw [hx, ba_list] at HHo
                have hlen := slashed_le (restOf (s.data.toList.drop 7))
                have hrl := restOf_le (s.data.toList.drop 7)
                rw [List.length_drop, len] at hrl
                have HLEN := Lib.hid (show (slashed (restOf (s.data.toList.drop 7))).length ≤ 1000000000 by omega)
                have hre : restOf (s.data.toList.drop 7) = 47 :: s.data.toList.drop (k + 1) := by rw [g2, List.drop_eq_getElem_cons hkl, hck, h47]
                have hemp : (s.extract k s.size).toList.isEmpty = false := by rw [hy]; exact full_of hre
                have hpos : (0 : Int) < ((s.extract k s.size).size : Int) := by rw [hy, ba_size, hre, List.length_cons]; omega
                have hat : ∀ h, (s.extract k s.size)[0]'h = 47 := fun h => at_zero (by rw [hy]; exact hre) h
                have hsl : s.extract k s.size = ba (slashed (restOf (s.data.toList.drop 7))) := by rw [hy, hre]; rfl
                have HX := Lib.hid hx
                have HSL := Lib.hid hsl
                clear hx hy hsl hre g1 g2 hlen hrl hstop hall hck hkl h47
                cases hh : hostB (hostOf (s.data.toList.drop 7)) with
                | false =>
                  rw [hh] at HHo
                  have HN : Hid (none = R) := Lib.hid (by rw [← HR.out, absolute_none _ hh])
                  clear hh HR
                  go_wp2_with fail
                  go_quiet (fail)
                  rename_i nq
                  generalize s.extract k s.size = X at *
                  generalize s.extract 7 k = Y at *
                  have HH2 : Hid (∀ w, Calls Tryz.prog 40 #[.string Y] w fun e w' => e = .returned (.bool false) ∧ Below w.heap.size w w') := Lib.hid (by rw [HX.out]; exact HHo.out)
                  have hbq := Lib.hid (Base.below_drewN (Below.refl wc.heap.size wc) nq)
                  generalize wc.drewN nq = wq at *
                  go_wp2_with (go_at_call 40; with_reducible refine (HH2.out _).mono ?_; rintro e w2 ⟨rfl, hb⟩
                               have hb' := Base.below_step hbq.out hb
                               obtain ⟨c0, c1, c2, c3, c4, z0, z1, z2, z3, z4⟩ := H1.out.below HG1.out hb'
                               have HB := Lib.hid (Base.below_step HB1.out hb')
                               clear hb hb')
                  obtain ⟨W9, hW, ⟨d0, d1, d2, d3, d4, _, _, _, _, _⟩, hbW⟩ := Tgb.put ⟨c0, c1, c2, c3, c4, z0, z1, z2, z3, z4⟩ HB.out (Nat.le_refl _) 0 E0 E0 E0 false
                  rw [hW]
                  exact bodyPost_ret (v := .tuple #[tv 0 E0 E0 E0 false, .int .i64 400]) (by simp [results, Tryz.results23, go_sem, d0, d1, d2, d3, d4]) rfl ⟨by rw [← HN.out]; rfl, hbW⟩
                | true =>
                  rw [hh] at HHo
                  have HRR : Hid (relabel 2 (hostOf (s.data.toList.drop 7)) (origin (slashed (restOf (s.data.toList.drop 7)))) = R) := Lib.hid (by rw [← HR.out, absolute_relabel _ hh])
                  clear hh HR
                  go_wp2_with fail
                  go_quiet (fail)
                  rename_i nq
                  generalize s.extract k s.size = X at *
                  generalize s.extract 7 k = Y at *
                  have HH2 : Hid (∀ w, Calls Tryz.prog 40 #[.string Y] w fun e w' => e = .returned (.bool true) ∧ Below w.heap.size w w') := Lib.hid (by rw [HX.out]; exact HHo.out)
                  have hbq := Lib.hid (Base.below_drewN (Below.refl wc.heap.size wc) nq)
                  generalize wc.drewN nq = wq at *
                  go_wp2_with (go_at_call 40; with_reducible refine (HH2.out _).mono ?_; rintro e w2 ⟨rfl, hb⟩
                               have HBH := Lib.hid (Base.below_step hbq.out hb)
                               clear hb)
                  go_meet
                  case rel => exact ⟨2, hostOf (s.data.toList.drop 7), slashed (restOf (s.data.toList.drop 7)), by rw [HSL.out], rfl, by rw [HX.out], HLEN.out, HRR, HBH⟩

              · have t47 : ((c.toNat : Int) != 47) = true := bne_iff_ne.2 fun e => h47 (UInt8.toNat_inj.1 (by show c.toNat = 47; omega))
                by_cases h63 : c = 63
                · have t63 : ((c.toNat : Int) != 63) = false := by rw [h63]; rfl
                  have hstop : (s.data.toList.drop 7).length ≤ k - 7 ∨ ∃ h : k - 7 < (s.data.toList.drop 7).length, ended (s.data.toList.drop 7)[k - 7] = true := .inr ⟨hdl, by rw [hdk, h63]; rfl⟩
                  clear hdl hdk
                  have j7 : (7 : Int) ≤ (k : Int) := by omega
                  have jk : (k : Int) ≤ (s.size : Int) := by omega
                  obtain ⟨g1, g2⟩ := host_stop (s.data.toList.drop 7) (k - 7) hall.out hstop
                  rw [List.drop_drop, show 7 + (k - 7) = k by omega] at g2
                  have hx : s.extract 7 k = ba (hostOf (s.data.toList.drop 7)) := ba_ext (by rw [Lib.extract_data, g1]; rfl)
                  have hy : s.extract k s.size = ba (restOf (s.data.toList.drop 7)) := ba_ext (by rw [drop_ext, g2]; rfl)
                  have HHo := Lib.hid (fun w => rhost_any (s.extract 7 k) w (by rw [hx, ba_size]; have := hostOf_le (s.data.toList.drop 7); rw [List.length_drop, len] at this; omega))
                  rw [hx, ba_list] at HHo
                  have hlen := slashed_le (restOf (s.data.toList.drop 7))
                  have hrl := restOf_le (s.data.toList.drop 7)
                  rw [List.length_drop, len] at hrl
                  have HLEN := Lib.hid (show (slashed (restOf (s.data.toList.drop 7))).length ≤ 1000000000 by omega)
                  have hre : restOf (s.data.toList.drop 7) = 63 :: s.data.toList.drop (k + 1) := by rw [g2, List.drop_eq_getElem_cons hkl, hck, h63]
                  have hemp : (s.extract k s.size).toList.isEmpty = false := by rw [hy]; exact full_of hre
                  have hpos : (0 : Int) < ((s.extract k s.size).size : Int) := by rw [hy, ba_size, hre, List.length_cons]; omega
                  have hat : ∀ h, (s.extract k s.size)[0]'h = 63 := fun h => at_zero (by rw [hy]; exact hre) h
                  have hsl : (⟨#[47]⟩ : ByteArray) ++ s.extract k s.size = ba (slashed (restOf (s.data.toList.drop 7))) := by rw [hy, hre]; exact ba_ext (by simp [ba, slashed])
                  have hv : ¬ 9223372036854775807 < 1 + (s.extract k s.size).size := by rw [hy, ba_size]; omega
                  have HX := Lib.hid hx
                  have HSL := Lib.hid hsl
                  clear hx hy hsl hre g1 g2 hlen hrl hstop hall hck hkl h63 h47
                  cases hh : hostB (hostOf (s.data.toList.drop 7)) with
                  | false =>
                    rw [hh] at HHo
                    have HN : Hid (none = R) := Lib.hid (by rw [← HR.out, absolute_none _ hh])
                    clear hh HR
                    go_wp2_with fail
                    go_quiet (fail)
                    rename_i nq
                    generalize s.extract k s.size = X at *
                    generalize s.extract 7 k = Y at *
                    have HH2 : Hid (∀ w, Calls Tryz.prog 40 #[.string Y] w fun e w' => e = .returned (.bool false) ∧ Below w.heap.size w w') := Lib.hid (by rw [HX.out]; exact HHo.out)
                    have hbq := Lib.hid (Base.below_drewN (Below.refl wc.heap.size wc) nq)
                    generalize wc.drewN nq = wq at *
                    go_wp2_with (go_at_call 40; with_reducible refine (HH2.out _).mono ?_; rintro e w2 ⟨rfl, hb⟩
                                 have hb' := Base.below_step hbq.out hb
                                 obtain ⟨c0, c1, c2, c3, c4, z0, z1, z2, z3, z4⟩ := H1.out.below HG1.out hb'
                                 have HB := Lib.hid (Base.below_step HB1.out hb')
                                 clear hb hb')
                    obtain ⟨W9, hW, ⟨d0, d1, d2, d3, d4, _, _, _, _, _⟩, hbW⟩ := Tgb.put ⟨c0, c1, c2, c3, c4, z0, z1, z2, z3, z4⟩ HB.out (Nat.le_refl _) 0 E0 E0 E0 false
                    rw [hW]
                    exact bodyPost_ret (v := .tuple #[tv 0 E0 E0 E0 false, .int .i64 400]) (by simp [results, Tryz.results23, go_sem, d0, d1, d2, d3, d4]) rfl ⟨by rw [← HN.out]; rfl, hbW⟩
                  | true =>
                    rw [hh] at HHo
                    have HRR : Hid (relabel 2 (hostOf (s.data.toList.drop 7)) (origin (slashed (restOf (s.data.toList.drop 7)))) = R) := Lib.hid (by rw [← HR.out, absolute_relabel _ hh])
                    clear hh HR
                    go_wp2_with fail
                    go_quiet (fail)
                    rename_i nq
                    generalize s.extract k s.size = X at *
                    generalize s.extract 7 k = Y at *
                    have HH2 : Hid (∀ w, Calls Tryz.prog 40 #[.string Y] w fun e w' => e = .returned (.bool true) ∧ Below w.heap.size w w') := Lib.hid (by rw [HX.out]; exact HHo.out)
                    have hbq := Lib.hid (Base.below_drewN (Below.refl wc.heap.size wc) nq)
                    generalize wc.drewN nq = wq at *
                    go_wp2_with (go_at_call 40; with_reducible refine (HH2.out _).mono ?_; rintro e w2 ⟨rfl, hb⟩
                                 have HBH := Lib.hid (Base.below_step hbq.out hb)
                                 clear hb)
                    go_meet
                    case rel => exact ⟨2, hostOf (s.data.toList.drop 7), slashed (restOf (s.data.toList.drop 7)), by rw [HSL.out], rfl, by rw [HX.out], HLEN.out, HRR, HBH⟩

                · have t63 : ((c.toNat : Int) != 63) = true := bne_iff_ne.2 fun e => h63 (UInt8.toNat_inj.1 (by show c.toNat = 63; omega))
                  have HN : Hid (∀ x ∈ (s.data.toList.drop 7).take (k + 1 - 7), ended x = false) := Lib.hid (by
                    rw [show k + 1 - 7 = (k - 7) + 1 by omega, List.take_succ_eq_append_getElem hdl, hdk]
                    intro x hx
                    rcases List.mem_append.1 hx with hx | hx
                    · exact hall.out x hx
                    · obtain rfl : x = c := by simpa using hx
                      simp [ended, h47, h63])
                  clear h47 h63 hdl hdk hck hkl hall
                  go_wp2_with fail
                  go_round
                  case rel => exact ⟨k + 1, by omega, by omega, by go_num, HN⟩
                  case measure => simp [intOf]; omega
            · have i1 : ¬ (k : Int) < (s.size : Int) := by omega
              have hstop : (s.data.toList.drop 7).length ≤ k - 7 ∨ ∃ h : k - 7 < (s.data.toList.drop 7).length, ended (s.data.toList.drop 7)[k - 7] = true := .inl (by rw [List.length_drop, len]; omega)
              have j7 : (7 : Int) ≤ (k : Int) := by omega
              have jk : (k : Int) ≤ (s.size : Int) := by omega
              obtain ⟨g1, g2⟩ := host_stop (s.data.toList.drop 7) (k - 7) hall.out hstop
              rw [List.drop_drop, show 7 + (k - 7) = k by omega] at g2
              have hx : s.extract 7 k = ba (hostOf (s.data.toList.drop 7)) := ba_ext (by rw [Lib.extract_data, g1]; rfl)
              have hy : s.extract k s.size = ba (restOf (s.data.toList.drop 7)) := ba_ext (by rw [drop_ext, g2]; rfl)
              have HHo := Lib.hid (fun w => rhost_any (s.extract 7 k) w (by rw [hx, ba_size]; have := hostOf_le (s.data.toList.drop 7); rw [List.length_drop, len] at this; omega))
              rw [hx, ba_list] at HHo
              have hlen := slashed_le (restOf (s.data.toList.drop 7))
              have hrl := restOf_le (s.data.toList.drop 7)
              rw [List.length_drop, len] at hrl
              have HLEN := Lib.hid (show (slashed (restOf (s.data.toList.drop 7))).length ≤ 1000000000 by omega)
              have hre : restOf (s.data.toList.drop 7) = [] := by rw [g2]; exact List.drop_eq_nil_of_le (by rw [len]; omega)
              have hemp : (s.extract k s.size).toList.isEmpty = true := by rw [hy, hre]; exact empty_of rfl
              have hsl : (⟨#[47]⟩ : ByteArray) ++ s.extract k s.size = ba (slashed (restOf (s.data.toList.drop 7))) := by rw [hy, hre]; exact ba_ext (by simp [ba, slashed])
              have hv : ¬ 9223372036854775807 < 1 + (s.extract k s.size).size := by rw [hy, ba_size]; omega
              have HX := Lib.hid hx
              have HSL := Lib.hid hsl
              clear hx hy hsl hre g1 g2 hlen hrl hstop hall
              cases hh : hostB (hostOf (s.data.toList.drop 7)) with
              | false =>
                rw [hh] at HHo
                have HN : Hid (none = R) := Lib.hid (by rw [← HR.out, absolute_none _ hh])
                clear hh HR
                go_wp2_with fail
                go_quiet (fail)
                rename_i nq
                generalize s.extract k s.size = X at *
                generalize s.extract 7 k = Y at *
                have HH2 : Hid (∀ w, Calls Tryz.prog 40 #[.string Y] w fun e w' => e = .returned (.bool false) ∧ Below w.heap.size w w') := Lib.hid (by rw [HX.out]; exact HHo.out)
                have hbq := Lib.hid (Base.below_drewN (Below.refl wc.heap.size wc) nq)
                generalize wc.drewN nq = wq at *
                go_wp2_with (go_at_call 40; with_reducible refine (HH2.out _).mono ?_; rintro e w2 ⟨rfl, hb⟩
                             have hb' := Base.below_step hbq.out hb
                             obtain ⟨c0, c1, c2, c3, c4, z0, z1, z2, z3, z4⟩ := H1.out.below HG1.out hb'
                             have HB := Lib.hid (Base.below_step HB1.out hb')
                             clear hb hb')
                obtain ⟨W9, hW, ⟨d0, d1, d2, d3, d4, _, _, _, _, _⟩, hbW⟩ := Tgb.put ⟨c0, c1, c2, c3, c4, z0, z1, z2, z3, z4⟩ HB.out (Nat.le_refl _) 0 E0 E0 E0 false
                rw [hW]
                exact bodyPost_ret (v := .tuple #[tv 0 E0 E0 E0 false, .int .i64 400]) (by simp [results, Tryz.results23, go_sem, d0, d1, d2, d3, d4]) rfl ⟨by rw [← HN.out]; rfl, hbW⟩
              | true =>
                rw [hh] at HHo
                have HRR : Hid (relabel 2 (hostOf (s.data.toList.drop 7)) (origin (slashed (restOf (s.data.toList.drop 7)))) = R) := Lib.hid (by rw [← HR.out, absolute_relabel _ hh])
                clear hh HR
                go_wp2_with fail
                go_quiet (fail)
                rename_i nq
                generalize s.extract k s.size = X at *
                generalize s.extract 7 k = Y at *
                have HH2 : Hid (∀ w, Calls Tryz.prog 40 #[.string Y] w fun e w' => e = .returned (.bool true) ∧ Below w.heap.size w w') := Lib.hid (by rw [HX.out]; exact HHo.out)
                have hbq := Lib.hid (Base.below_drewN (Below.refl wc.heap.size wc) nq)
                generalize wc.drewN nq = wq at *
                go_wp2_with (go_at_call 40; with_reducible refine (HH2.out _).mono ?_; rintro e w2 ⟨rfl, hb⟩
                             have HBH := Lib.hid (Base.below_step hbq.out hb)
                             clear hb)
                go_meet
                case rel => exact ⟨2, hostOf (s.data.toList.drop 7), slashed (restOf (s.data.toList.drop 7)), by rw [HSL.out], rfl, by rw [HX.out], HLEN.out, HRR, HBH⟩

      case rest =>
        obtain ⟨F, HO, SS, rfl, rfl, rfl, hSS, hRR, hbc⟩ := hcut
        have H2 := Lib.hid (H1.out.below HG1.out hbc.out)
        have HB2 := Lib.hid (Base.below_step HB1.out hbc.out)
        have HG2 := Lib.hid (Nat.lt_of_lt_of_le HG1.out hbc.out.size)
        clear H1 HB1 HG1 hbc HR
        have HOR := Lib.hid (fun w => rorigin_any (ba SS) w (by rw [ba_size]; omega))
        rw [ba_list] at HOR
        have hor : origin SS = if (pathB (cutAt 63 SS).1 && queryB (cutAt 63 SS).2.1) = true then some ⟨1, [], (cutAt 63 SS).1, (cutAt 63 SS).2.1, (cutAt 63 SS).2.2⟩ else none := rfl
        rw [hor] at hRR
        clear hor
        generalize (cutAt 63 SS).1 = p at *
        generalize (cutAt 63 SS).2.1 = q at *
        generalize (cutAt 63 SS).2.2 = bb at *
        cases hk : (pathB p && queryB q) with
        | false =>
          rw [hk] at HOR hRR
          have HN : Hid (none = R) := hRR
          clear hk hRR
          go_upto_if 82 with (go_at_call 43; with_reducible refine (HOR.out _).mono ?_; rintro e w2 ⟨rfl, hb⟩)
          have hb3 : Below wc.heap.size wc (w2.alloc (.cells #[.int .i64 0, .string E0, .string (ba p), .string (ba q), .bool bb] 57)) := hb.alloc hb.size _
          generalize w2.alloc (.cells #[.int .i64 0, .string E0, .string (ba p), .string (ba q), .bool bb] 57) = W3 at *
          obtain ⟨c0, c1, c2, c3, c4, z0, z1, z2, z3, z4⟩ := H2.out.below HG2.out hb3
          have HB := Lib.hid (Base.below_step HB2.out hb3)
          clear hb hb3 H2 HB2 HG2
          go_wp2_with fail
          obtain ⟨W9, hW, ⟨d0, d1, d2, d3, d4, _, _, _, _, _⟩, hbW⟩ := Tgb.put ⟨c0, c1, c2, c3, c4, z0, z1, z2, z3, z4⟩ HB.out (Nat.le_refl _) 0 E0 E0 E0 false
          rw [hW]
          exact bodyPost_ret (v := .tuple #[tv 0 E0 E0 E0 false, .int .i64 400]) (by simp [results, Tryz.results23, go_sem, d0, d1, d2, d3, d4]) rfl ⟨by rw [← HN.out]; rfl, hbW⟩
        | true =>
          rw [hk] at HOR hRR
          have HN : Hid (some ⟨F, HO, p, q, bb⟩ = R) := hRR
          clear hk hRR
          go_upto_if 82 with (go_at_call 43; with_reducible refine (HOR.out _).mono ?_; rintro e w2 ⟨rfl, hb⟩)
          have HT5 := Lib.hid (Tgb.new w2 57 0 E0 (ba p) (ba q) bb)
          have hb3 : Below wc.heap.size wc (w2.alloc (.cells #[.int .i64 0, .string E0, .string (ba p), .string (ba q), .bool bb] 57)) := hb.alloc hb.size _
          have hne : w.heap.size < w2.heap.size := Nat.lt_of_lt_of_le HG2.out hb.size
          generalize w2.alloc (.cells #[.int .i64 0, .string E0, .string (ba p), .string (ba q), .bool bb] 57) = W3 at *
          obtain ⟨c0, c1, c2, c3, c4, z0, z1, z2, z3, z4⟩ := H2.out.below HG2.out hb3
          obtain ⟨a0, a1, a2, a3, a4, y0, y1, y2, y3, y4⟩ := HT5.out
          have HB := Lib.hid (Base.below_step HB2.out hb3)
          clear hb hb3 H2 HB2 HG2 HT5
          have n1 : ¬ w.heap.size = w2.heap.size := by omega
          have n2 : ¬ w2.heap.size = w.heap.size := by omega
          generalize w2.heap.size = g7 at *
          go_wp2_with fail
          have hB5 := (HB.out.setCell (p := ⟨g7, 0, none⟩) (Nat.le_of_lt hne) (.int .i64 F)).setCell (p := ⟨g7, 1, none⟩) (Nat.le_of_lt hne) (.string (ba HO))
          obtain ⟨W9, hW, ⟨d0, d1, d2, d3, d4, _, _, _, _, _⟩, hbW⟩ := Tgb.put (((Tgb.mk c0 c1 c2 c3 c4 z0 z1 z2 z3 z4).other g7 0 (.int .i64 F) n2).other g7 1 (.string (ba HO)) n2) hB5 (Nat.le_refl _) F (ba HO) (ba p) (ba q) bb
          rw [hW]
          exact bodyPost_ret (v := .tuple #[tv F (ba HO) (ba p) (ba q) bb, .int .i64 0]) (by simp [results, Tryz.results23, go_sem, d0, d1, d2, d3, d4]) rfl ⟨by rw [← HN.out]; rfl, hbW⟩
end code
end Go.Proofs.YtlignmlkoahbmaaGreatDoor.Tgt
