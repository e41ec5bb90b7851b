/-
  Layer 19 (percent): the document's own Decode and Norm: the same plain words as package percent's.
-/
import Derived.Test.YtojjhknejkhdhaaDoorPctD
import Derived.Deep.CutBlock
import Derived.Deep.DeepCutAuto
namespace Go.Proofs.YtojjhknejkhdhaaDoor.Pct
open Go.RowKit Base Txt

theorem nums_own {w : World} {base : Nat} {v : Value} {n : Nat} {bs : List UInt8} {e : TypeId} (h : w.ownsRow base e 1 v n (Lib.byteCells bs)) : ∃ A c, v = .slice A n c ∧ Nums .u8 w A n (Txt.nums bs) := by
  have hl : bs.length = n := by simpa [Lib.byteCells] using h.1
  rcases h.2 with ⟨rfl, rfl⟩ | ⟨g, cap, cur, rfl, _, hh, _, hc, _, ht⟩
  · obtain rfl : bs = [] := List.length_eq_zero_iff.1 hl
    exact ⟨none, 0, rfl, Nums.nil _ _ _⟩
  · refine ⟨_, _, rfl, ⟨by rw [Txt.nums, List.length_map]; exact hl, fun _ => ⟨g, 0, rfl, ?_, fun k hk => ?_⟩⟩⟩
    · rcases Nat.lt_or_ge g w.heap.size with hlt | hge
      · exact hlt
      · rw [Array.getElem?_eq_none hge] at hh; cases hh
    · rw [Nat.zero_add, cell_of_row w g k cur e (0, 0) hh, Txt.nums_at bs k (by omega)]
      have h1 : (Lib.byteCells bs)[k]? = some (.int .u8 (bs[k].toNat : Int)) := by
        rw [Lib.byteCells, List.getElem?_map, List.getElem?_eq_getElem (by omega)]; rfl
      rw [← ht, List.getElem?_take_of_lt (by omega)] at h1
      simpa using h1
def upN (n : Int) : Int := if 97 ≤ n ∧ n ≤ 102 then n - 32 else n
theorem up_hex : ∀ k : Fin 256, hx (UInt8.ofNat k.val) = true → upN (k.val : Int) = ((up (hv (UInt8.ofNat k.val))).toNat : Int) := by decide +kernel
theorem upN_hex (c : UInt8) (h : hx c = true) : upN (c.toNat : Int) = ((up (hv c)).toNat : Int) := by
  have := up_hex ⟨c.toNat, c.toNat_lt⟩
  simp only [show UInt8.ofNat c.toNat = c by simp] at this
  exact this h
theorem two_tab : ∀ a b : Fin 16, (16 * (a.val : Int) + (b.val : Int)) = (((UInt8.ofNat (16 * a.val + b.val)).toNat : Nat) : Int) ∧ (UInt8.ofNat (16 * a.val + b.val)).toNat / 16 = a.val ∧ (UInt8.ofNat (16 * a.val + b.val)).toNat % 16 = b.val := by decide +kernel
theorem byte2_parts (a b : UInt8) : (16 * (hv a : Int) + (hv b : Int)) = ((byte2 a b).toNat : Int) ∧ (byte2 a b).toNat / 16 = hv a ∧ (byte2 a b).toNat % 16 = hv b := two_tab ⟨hv a, (hv_le a).1⟩ ⟨hv b, (hv_le b).1⟩
/-- The ways in which a byte needs no percent, and the one in which it does. -/
theorem bare_ways (d : UInt8) : (bare d = true ∧ (Oct.letter (d.toNat : Int) = true ∨ (Oct.letter (d.toNat : Int) = false ∧ Oct.digit (d.toNat : Int) = true) ∨ d = 45 ∨ d = 46 ∨ d = 95 ∨ d = 126)) ∨
    (bare d = false ∧ Oct.letter (d.toNat : Int) = false ∧ Oct.digit (d.toNat : Int) = false ∧ ¬ (d.toNat : Int) = 45 ∧ ¬ (d.toNat : Int) = 46 ∧ ¬ (d.toNat : Int) = 95 ∧ ¬ (d.toNat : Int) = 126) := by
  unfold bare
  cases hl : Oct.letter (d.toNat : Int) with
  | true => exact .inl ⟨rfl, .inl rfl⟩
  | false =>
    cases hd : Oct.digit (d.toNat : Int) with
    | true => exact .inl ⟨rfl, .inr (.inl ⟨rfl, rfl⟩)⟩
    | false =>
      have hs : Oct.stands [45, 46, 95, 126] (d.toNat : Int) = true ↔ (d = 45 ∨ d = 46 ∨ d = 95 ∨ d = 126) := by
        unfold Oct.stands
        simp only [List.any_cons, List.any_nil, Bool.or_eq_true, beq_iff_eq, Bool.or_false]
        constructor
        · rintro (h | h | h | h)
          · exact .inl (UInt8.toNat_inj.1 (by have : ((45 : UInt8).toNat : Int) = 45 := rfl
                                              omega))
          · exact .inr (.inl (UInt8.toNat_inj.1 (by have : ((46 : UInt8).toNat : Int) = 46 := rfl
                                                    omega)))
          · exact .inr (.inr (.inl (UInt8.toNat_inj.1 (by have : ((95 : UInt8).toNat : Int) = 95 := rfl
                                                          omega))))
          · exact .inr (.inr (.inr (UInt8.toNat_inj.1 (by have : ((126 : UInt8).toNat : Int) = 126 := rfl
                                                          omega))))
        · rintro (h | h | h | h) <;> simp [h]
      cases hh : Oct.stands [45, 46, 95, 126] (d.toNat : Int) with
      | true => exact .inl ⟨rfl, .inr (.inr (hs.1 hh))⟩
      | false =>
        have hn := mt hs.2 (by rw [hh]; simp)
        simp only [not_or] at hn
        refine .inr ⟨rfl, rfl, rfl, ?_, ?_, ?_, ?_⟩
        · intro e; exact hn.1 (UInt8.toNat_inj.1 (by have : ((45 : UInt8).toNat : Int) = 45 := rfl
                                                     omega))
        · intro e; exact hn.2.1 (UInt8.toNat_inj.1 (by have : ((46 : UInt8).toNat : Int) = 46 := rfl
                                                       omega))
        · intro e; exact hn.2.2.1 (UInt8.toNat_inj.1 (by have : ((95 : UInt8).toNat : Int) = 95 := rfl
                                                         omega))
        · intro e; exact hn.2.2.2 (UInt8.toNat_inj.1 (by have : ((126 : UInt8).toNat : Int) = 126 := rfl
                                                         omega))
/-- Two digits behind a place, and what is there then. -/
theorem two_there {s : ByteArray} {k : Nat} {a b : UInt8} {r : List UInt8} (h : s.data.toList.drop (k + 1) = a :: b :: r) :
    s.size = k + 3 + r.length ∧ (∀ hh, s[k + 1]'hh = a) ∧ (∀ hh, s[k + 2]'hh = b) := by
  have hl := congrArg List.length h
  rw [List.length_drop, len] at hl
  simp only [List.length_cons] at hl
  refine ⟨by omega, fun hh => ?_, fun hh => ?_⟩
  · have : (s.data.toList.drop (k + 1))[0]? = some a := by rw [h]; rfl
    rw [List.getElem?_drop, List.getElem?_eq_getElem (by rw [len]; omega)] at this
    exact Option.some.inj this
  · have : (s.data.toList.drop (k + 1))[1]? = some b := by rw [h]; rfl
    rw [List.getElem?_drop, List.getElem?_eq_getElem (by rw [len]; omega)] at this
    exact Option.some.inj this
theorem three_here (w : World) (x y z : Int) : (0 < 3 → ∃ b off, (some ⟨w.heap.size, 0, none⟩ : Option Addr) = some ⟨b, off, none⟩ ∧ ∀ j u, [Value.int .u8 x, .int .u8 y, .int .u8 z][j]? = some u → (w.alloc (.cells #[.int .u8 x, .int .u8 y, .int .u8 z] 5)).cell? ⟨b, off + j, none⟩ = some u) := by
  intro _
  refine ⟨_, 0, rfl, fun j u hj => ?_⟩
  rw [Nat.zero_add, cell_of_row _ _ j _ _ (0, 0) (heap_alloc_new w _)]
  simpa using hj

section code
set_option maxHeartbeats 4000000
set_option maxRecDepth 100000
attribute [local go_sem] Base.some_undef
theorem upper_any (n : Int) (w : World) (h0 : 0 ≤ n) (h1 : n ≤ 255) : Calls Tryd.prog 25 #[.int .u8 n] w fun e w' => e = .returned (.int .u8 (upN n)) ∧ w' = w := by
  unfold upN
  by_cases c1 : 97 ≤ n
  · by_cases c2 : n ≤ 102
    · rw [if_pos ⟨c1, c2⟩]
      have e2 : IntKind.u8.wrap (n - 32) = n - 32 := by rw [IntKind.wrap_u8]; omega
      go_enter Tryd.func25, Tryd.ntmps25
      go_wp2
      go_ret
      exact ⟨rfl, rfl⟩
    · rw [if_neg (by omega)]
      go_enter Tryd.func25, Tryd.ntmps25
      go_wp2
      go_ret
      exact ⟨rfl, rfl⟩
  · rw [if_neg (by omega)]
    go_enter Tryd.func25, Tryd.ntmps25
    go_wp2
    go_ret
    exact ⟨rfl, rfl⟩
theorem two_yes (s : ByteArray) (k : Nat) (w : World) (a b : UInt8) (r : List UInt8) (hs : s.size ≤ 1000000000) (hl : s.data.toList.drop (k + 1) = a :: b :: r) (hh : (hx a && hx b) = true) :
    Calls Tryd.prog 22 #[.string s, .int .i64 k] w fun e w' => e = .returned (.tuple #[.int .u8 ((byte2 a b).toNat : Int), .bool true]) ∧ w' = w := by
  obtain ⟨hsz, e0, e1⟩ := two_there hl
  have HA := Lib.hid (fun w => Oct.rhex_any (a.toNat : Int) w (by omega) (byte_lt a))
  have HB := Lib.hid (fun w => Oct.rhex_any (b.toNat : Int) w (by omega) (byte_lt b))
  have hA : Oct.isHex (a.toNat : Int) = hx a := rfl
  have hB : Oct.isHex (b.toNat : Int) = hx b := rfl
  rw [Bool.and_eq_true] at hh
  rw [hA, hh.1, (hv_le a).2] at HA
  rw [hB, hh.2, (hv_le b).2] at HB
  rw [← (byte2_parts a b).1]
  have ha := (hv_le a).1
  have hb := (hv_le b).1
  have c1 : IntKind.i64.wrap ((s.size : Int) - (k : Int)) = ((s.size - k : Nat) : Int) := by rw [wrap_in _ (by omega) (by omega)]; omega
  have c2 : ¬ ((s.size - k : Nat) : Int) < 3 := by omega
  have c3 : IntKind.i64.wrap ((k : Int) + 1) = ((k + 1 : Nat) : Int) := by rw [wrap_in _ (by omega) (by omega)]; omega
  have c4 : IntKind.i64.wrap ((k : Int) + 2) = ((k + 2 : Nat) : Int) := by rw [wrap_in _ (by omega) (by omega)]; omega
  have l1 : k + 1 < s.size := by omega
  have l2 : k + 2 < s.size := by omega
  clear hl hsz hh hA hB
  generalize hv a = va at *
  generalize hv b = vb at *
  generalize hX : (16 * (va : Int) + (vb : Int)) = X
  generalize s.size - k = q at *
  go_enter Tryd.func22, Tryd.ntmps22
  go_wp2_with (first
    | (go_at_call 38; with_reducible refine (HA.out _).mono ?_; rintro e w1 ⟨rfl, hw⟩; rw [hw]; clear hw)
    | (go_at_call 38; with_reducible refine (HB.out _).mono ?_; rintro e w1 ⟨rfl, hw⟩; rw [hw]; clear hw))
  go_ret2
  exact ⟨by rw [← hX]; rfl, rfl⟩
theorem two_no (s : ByteArray) (k : Nat) (w : World) (hs : s.size ≤ 1000000000) (hk : k < s.size) (hno : ¬ ∃ a b r, s.data.toList.drop (k + 1) = a :: b :: r ∧ (hx a && hx b) = true) :
    Calls Tryd.prog 22 #[.string s, .int .i64 k] w fun e w' => ∃ v : Int, e = .returned (.tuple #[.int .u8 v, .bool false]) ∧ w' = w := by
  by_cases h3 : s.size - k < 3
  · have c1 : IntKind.i64.wrap ((s.size : Int) - (k : Int)) = ((s.size - k : Nat) : Int) := by rw [wrap_in _ (by omega) (by omega)]; omega
    have c2 : ((s.size - k : Nat) : Int) < 3 := by omega
    generalize s.size - k = q at *
    go_enter Tryd.func22, Tryd.ntmps22
    go_wp2
    go_ret2
    exact ⟨_, rfl, rfl⟩
  · obtain ⟨a, b, r, hl⟩ : ∃ a b r, s.data.toList.drop (k + 1) = a :: b :: r := by
      have hq : 2 ≤ (s.data.toList.drop (k + 1)).length := by rw [List.length_drop, len]; omega
      match s.data.toList.drop (k + 1), hq with
      | a :: b :: r, _ => exact ⟨a, b, r, rfl⟩
    have hh : (hx a && hx b) = false := by
      cases hh : (hx a && hx b)
      · rfl
      · exact absurd ⟨a, b, r, hl, hh⟩ hno
    obtain ⟨hsz, e0, e1⟩ := two_there hl
    have HA := Lib.hid (fun w => Oct.rhex_any (a.toNat : Int) w (by omega) (byte_lt a))
    have HB := Lib.hid (fun w => Oct.rhex_any (b.toNat : Int) w (by omega) (byte_lt b))
    have hA : Oct.isHex (a.toNat : Int) = hx a := rfl
    have hB : Oct.isHex (b.toNat : Int) = hx b := rfl
    rw [hA, (hv_le a).2] at HA
    rw [hB, (hv_le b).2] at HB
    have ha := (hv_le a).1
    have hb := (hv_le b).1
    have c1 : IntKind.i64.wrap ((s.size : Int) - (k : Int)) = ((s.size - k : Nat) : Int) := by rw [wrap_in _ (by omega) (by omega)]; omega
    have c2 : ¬ ((s.size - k : Nat) : Int) < 3 := by omega
    have c3 : IntKind.i64.wrap ((k : Int) + 1) = ((k + 1 : Nat) : Int) := by rw [wrap_in _ (by omega) (by omega)]; omega
    have c4 : IntKind.i64.wrap ((k : Int) + 2) = ((k + 2 : Nat) : Int) := by rw [wrap_in _ (by omega) (by omega)]; omega
    have l1 : k + 1 < s.size := by omega
    have l2 : k + 2 < s.size := by omega
    clear hl hsz hA hB hno
    generalize hv a = va at *
    generalize hv b = vb at *
    generalize hx a = xa at *
    generalize hx b = xb at *
    generalize s.size - k = q at *
    cases xa
    · go_enter Tryd.func22, Tryd.ntmps22
      go_wp2_with (first
        | (go_at_call 38; with_reducible refine (HA.out _).mono ?_; rintro e w1 ⟨rfl, hw⟩; rw [hw]; clear hw)
        | (go_at_call 38; with_reducible refine (HB.out _).mono ?_; rintro e w1 ⟨rfl, hw⟩; rw [hw]; clear hw))
      go_ret2
      exact ⟨_, rfl, rfl⟩
    · rw [Bool.true_and] at hh
      subst hh
      go_enter Tryd.func22, Tryd.ntmps22
      go_wp2_with (first
        | (go_at_call 38; with_reducible refine (HA.out _).mono ?_; rintro e w1 ⟨rfl, hw⟩; rw [hw]; clear hw)
        | (go_at_call 38; with_reducible refine (HB.out _).mono ?_; rintro e w1 ⟨rfl, hw⟩; rw [hw]; clear hw))
      go_ret2
      exact ⟨_, rfl, rfl⟩
theorem rdecode_any (s : ByteArray) (w : World) (hs : s.size ≤ 1000000000) :
    Calls Tryd.prog 12 #[.string s] w fun e w' => e = .returned (ans (repl plain s.data.toList)) ∧ Below w.heap.size w w' := by
  obtain ⟨i0, hi, hz0, hz1, hz2⟩ := info_parts Bld.infoB
  have G1 := Lib.hid hi; have G2 := Lib.hid hz0; have G3 := Lib.hid hz1; have G4 := Lib.hid hz2
  clear hi hz0 hz1 hz2
  obtain ⟨R, hR⟩ : ∃ R, repl plain s.data.toList = R := ⟨_, rfl⟩
  rw [hR]
  have HR := Lib.hid hR
  clear hR
  go_enter Tryd.func12, Tryd.ntmps12
  go_wp2
  go_loopw [4, 5] (fun v i wr => ∃ (k : Nat) (out : List UInt8), k ≤ s.size ∧ i = .int .i64 k ∧ out.length ≤ k ∧ Hid ((repl plain (s.data.toList.drop k)).map (out ++ ·) = R) ∧ Hid (wr.ownsRow w.heap.size 5 1 v out.length (Lib.byteCells out)) ∧ Hid (Below w.heap.size w wr)) (fun _ i _ => s.size - (intOf i).toNat)
  case atStart => exact ⟨0, [], Nat.zero_le _, rfl, Nat.zero_le _, Lib.hid (by rw [List.drop_zero, ← HR.out]; simp), Lib.hid ⟨rfl, .inl ⟨rfl, rfl⟩⟩, Lib.hid (Below.refl _ _)⟩
  case round =>
    obtain ⟨k, out, hk, rfl, hol, hrep, hown, hbr⟩ := hrel
    rcases Nat.lt_or_ge k s.size with hlt | hge
    · have hkl : k < s.data.toList.length := by rw [len]; exact hlt
      obtain ⟨c, hc⟩ : ∃ c, s[k] = c := ⟨_, rfl⟩
      have e0 : ∀ hh, s[k]'hh = c := fun _ => hc
      have hdr : s.data.toList.drop k = c :: s.data.toList.drop (k + 1) := by
        rw [List.drop_eq_getElem_cons hkl, ← hc]; rfl
      by_cases h37 : c = 37
      · subst h37
        rw [hdr] at hrep
        by_cases hgood : ∃ a b r, s.data.toList.drop (k + 1) = a :: b :: r ∧ (hx a && hx b) = true
        · obtain ⟨a, b, r, hl, hh⟩ := hgood
          have hQ := Lib.hid (fun w => two_yes s k w a b r (by omega) hl hh)
          have hd3 : s.data.toList.drop (k + 2 + 1) = r := by
            rw [show k + 2 + 1 = (k + 1) + 2 by omega, ← List.drop_drop, hl]; rfl
          rw [hl, repl_two plain a b r hh, ← hd3] at hrep
          obtain ⟨hsz, f1, f2⟩ := two_there hl
          generalize byte2 a b = d at *
          have HR2 : Hid ((repl plain (s.data.toList.drop (k + 2 + 1))).map ((out ++ [d]) ++ ·) = R) := Lib.hid (by rw [← hrep.out, Option.map_map]; congr 1; funext z; simp [plain])
          clear hdr hrep hc hl hh hd3 f1 f2
          go_wp2_with (first
            | (go_at_call 22; with_reducible refine (hQ.out _).mono ?_; rintro e w1 ⟨rfl, hw⟩; rw [hw]; clear hw)
            | (at_builtin; refine wpList_append_own _ rfl _ _ 22 rfl w.heap.size 5 i0 (.int .u8 0) 1 1 Tryd.underlying22 G1.out G2.out G3.out G4.out rfl (by decide) _ _ _ rfl (hown.out.alloc _) ⟨wr.heap.size, 0, none⟩ 1 1 [.int .u8 (d.toNat : Int)] rfl rfl ?c1 ?c2 ?c3 ?c4 ?c5 ?_))
          case c1 => exact news_one wr _ _
          case c2 => intro u hu; obtain rfl : u = .int .u8 (d.toNat : Int) := by simpa using hu
                     rfl
          case c3 => unfold maxLen; omega
          case c4 => omega
          case c5 => have := hbr.out.size; simp; omega
          intro v' w' hown' hgr _
          have H2 : Hid (w'.ownsRow w.heap.size 5 1 v' (out ++ [d]).length (Lib.byteCells (out ++ [d]))) := Lib.hid (by
            rw [bytes_one, List.length_append]; exact hown')
          have H3 := Lib.hid ((hbr.out.alloc hbr.out.size _).grown hgr (by have := hbr.out.size; simp; omega) (own_base hown.out))
          clear hown' hgr hown hbr
          go_wp2
          go_roundw
          case rel => exact ⟨k + 2 + 1, out ++ [d], by omega, by go_num, by simp; omega, HR2, H2, H3⟩
          case measure => simp [intOf]; omega
        · have hQ := Lib.hid (fun w => two_no s k w (by omega) hlt hgood)
          have hnone : repl plain (37 :: s.data.toList.drop (k + 1)) = none := by
            match hl : s.data.toList.drop (k + 1) with
            | [] => exact repl_last plain
            | [a] => exact repl_one plain a
            | a :: b :: r =>
              refine repl_bad plain a b r ?_
              cases hh : (hx a && hx b)
              · rfl
              · exact absurd ⟨a, b, r, hl, hh⟩ hgood
          have hRn := hrep.out
          rw [hnone] at hRn
          have HN := Lib.hid hRn
          clear hdr hrep hc hgood hnone hRn hown
          go_wp2_with (first
            | (go_at_call 22; with_reducible refine (hQ.out _).mono ?_; rintro e w1 ⟨v9, rfl, hw⟩; rw [hw]; clear hw))
          go_ret2
          exact ⟨by rw [← HN.out]; rfl, hbr.out⟩
      · rw [hdr, repl_other plain c _ h37] at hrep
        have hne : ¬ (c.toNat : Int) = 37 := by
          intro e; exact h37 (UInt8.toNat_inj.1 (by show c.toNat = 37; omega))
        have HR2 : Hid ((repl plain (s.data.toList.drop (k + 1))).map ((out ++ [c]) ++ ·) = R) := Lib.hid (by rw [← hrep.out, Option.map_map]; congr 1; funext z; simp)
        clear hdr hrep h37 hc
        go_wp2_with (at_builtin; refine wpList_append_own _ rfl _ _ 22 rfl w.heap.size 5 i0 (.int .u8 0) 1 1 Tryd.underlying22 G1.out G2.out G3.out G4.out rfl (by decide) _ _ _ rfl (hown.out.alloc _) ⟨wr.heap.size, 0, none⟩ 1 1 [.int .u8 (c.toNat : Int)] rfl rfl ?c1 ?c2 ?c3 ?c4 ?c5 ?_)
        case c1 => exact news_one wr _ _
        case c2 => intro u hu; obtain rfl : u = .int .u8 (c.toNat : Int) := by simpa using hu
                   rfl
        case c3 => unfold maxLen; omega
        case c4 => omega
        case c5 => have := hbr.out.size; simp; omega
        intro v' w' hown' hgr _
        have H2 : Hid (w'.ownsRow w.heap.size 5 1 v' (out ++ [c]).length (Lib.byteCells (out ++ [c]))) := Lib.hid (by
          rw [bytes_one, List.length_append]; exact hown')
        have H3 := Lib.hid ((hbr.out.alloc hbr.out.size _).grown hgr (by have := hbr.out.size; simp; omega) (own_base hown.out))
        clear hown' hgr hown hbr
        go_wp2
        go_roundw
        case rel => exact ⟨k + 1, out ++ [c], by omega, by go_num, by simp; omega, HR2, H2, H3⟩
        case measure => simp [intOf]; omega
    · obtain rfl : k = s.size := by omega
      have hrep2 := hrep.out
      rw [List.drop_of_length_le (by rw [len]; exact Nat.le_refl _), repl_nil, Option.map_some, List.append_nil] at hrep2
      subst hrep2
      obtain ⟨b, cp, rfl, hNm⟩ := nums_own hown.out
      have hcv := conv_str wr b out.length cp out hNm
      clear hrep hNm hown HR
      go_wp2
      go_ret2
      exact ⟨rfl, hbr.out⟩
theorem rnorm_yes (s : ByteArray) (w : World) (hs : s.size ≤ 100000) (r : List UInt8) (hr : s.data.toList = 47 :: r) :
    Calls Tryd.prog 10 #[.string s] w fun e w' => e = .returned (ans (norm s.data.toList)) ∧ Below w.heap.size w w' := by
  obtain ⟨i0, hi, hz0, hz1, hz2⟩ := info_parts Bld.infoB
  have G1 := Lib.hid hi; have G2 := Lib.hid hz0; have G3 := Lib.hid hz1; have G4 := Lib.hid hz2
  clear hi hz0 hz1 hz2
  obtain ⟨R, hR⟩ : ∃ R, repl spell s.data.toList = R := ⟨_, rfl⟩
  have hN : ans (norm s.data.toList) = ans (R.map fun y => join (dots (segs y))) := by rw [hr, norm_slash, ← hr, hR]
  rw [hN]
  have hz : s.size = r.length + 1 := by rw [← len, hr]; rfl
  have e00 : ∀ hh, s[0]'hh = 47 := fun hh => by
    have : s.data.toList[0]? = some 47 := by rw [hr]; rfl
    rw [List.getElem?_eq_getElem (by rw [hr]; simp)] at this
    exact Option.some.inj this
  have l00 : 0 < s.size := by omega
  have n00 : ¬ s.toList = [] := by
    intro e
    have := (Ls.toList_iff s ⟨#[]⟩).1 (by rw [e]; decide +kernel)
    subst this; exact absurd l00 (by decide)
  have n01 : s.toList.isEmpty = false := by cases h : s.toList with | nil => exact absurd h n00 | cons _ _ => rfl
  have n02 : (s.toList == []) = false := beq_eq_false_iff_ne.2 n00
  clear hN hr hz
  have HR := Lib.hid hR
  clear hR
  go_enter Tryd.func10, Tryd.ntmps10
  go_wp2
  clear n00 n01 n02 e00 l00
  go_loopw [4, 5] (fun v i wr => ∃ (k : Nat) (out : List UInt8), k ≤ s.size ∧ i = .int .i64 k ∧ out.length ≤ k ∧ Hid ((repl spell (s.data.toList.drop k)).map (out ++ ·) = R) ∧ Hid (wr.ownsRow w.heap.size 5 1 v out.length (Lib.byteCells out)) ∧ Hid (Below w.heap.size w wr)) (fun _ i _ => s.size - (intOf i).toNat)
  case atStart => exact ⟨0, [], Nat.zero_le _, rfl, Nat.zero_le _, Lib.hid (by rw [List.drop_zero, ← HR.out]; simp), Lib.hid ⟨rfl, .inl ⟨rfl, rfl⟩⟩, Lib.hid (Below.refl _ _)⟩
  case round =>
    obtain ⟨k, out, hk, rfl, hol, hrep, hown, hbr⟩ := hrel
    rcases Nat.lt_or_ge k s.size with hlt | hge
    · have hkl : k < s.data.toList.length := by rw [len]; exact hlt
      obtain ⟨c, hc⟩ : ∃ c, s[k] = c := ⟨_, rfl⟩
      have e0 : ∀ hh, s[k]'hh = c := fun _ => hc
      have hdr : s.data.toList.drop k = c :: s.data.toList.drop (k + 1) := by
        rw [List.drop_eq_getElem_cons hkl, ← hc]; rfl
      by_cases h37 : c = 37
      · subst h37
        rw [hdr] at hrep
        by_cases hgood : ∃ a b r, s.data.toList.drop (k + 1) = a :: b :: r ∧ (hx a && hx b) = true
        · obtain ⟨a, b, r, hl, hh⟩ := hgood
          have hQ := Lib.hid (fun w => two_yes s k w a b r (by omega) hl hh)
          have hd3 : s.data.toList.drop (k + 2 + 1) = r := by
            rw [show k + 2 + 1 = (k + 1) + 2 by omega, ← List.drop_drop, hl]; rfl
          rw [hl, repl_two spell a b r hh, ← hd3] at hrep
          obtain ⟨hsz, f1, f2⟩ := two_there hl
          have hpar := byte2_parts a b
          have hua := upN_hex a (by simp only [Bool.and_eq_true] at hh; exact hh.1)
          have hub := upN_hex b (by simp only [Bool.and_eq_true] at hh; exact hh.2)
          rw [← hpar.2.1] at hua
          rw [← hpar.2.2] at hub
          have HUa := Lib.hid (fun w => upper_any (a.toNat : Int) w (by omega) (byte_lt a))
          have HUb := Lib.hid (fun w => upper_any (b.toNat : Int) w (by omega) (byte_lt b))
          rw [hua] at HUa
          rw [hub] at HUb
          generalize byte2 a b = d at *
          have HLt := Lib.hid (fun w => Oct.rletter_any (d.toNat : Int) w)
          have HDg := Lib.hid (fun w => Oct.rdigit_any (d.toNat : Int) w)
          clear hdr hc hl hh hd3 hua hub hpar
          rcases bare_ways d with ⟨hb, hway⟩ | ⟨hb, hlt1, hdg, x1, x2, x3, x4⟩
          · have HR2 : Hid ((repl spell (s.data.toList.drop (k + 2 + 1))).map ((out ++ [d]) ++ ·) = R) := Lib.hid (by rw [← hrep.out, Option.map_map]; congr 1; funext z; simp [spell, hb])
            clear hrep f1 f2 HUa HUb hb
            rcases hway with hl | ⟨hl, hd⟩ | rfl | rfl | rfl | rfl
            · rw [hl] at HLt
              clear hl
              go_wp2_with (first
                | (go_at_call 22; with_reducible refine (hQ.out _).mono ?_; rintro e w1 ⟨rfl, hw⟩; rw [hw]; clear hw)
                | (go_at_call 23; with_reducible refine (HLt.out _).mono ?_; rintro e w1 ⟨rfl, hw⟩; rw [hw]; clear hw)
                | (go_at_call 24; with_reducible refine (HDg.out _).mono ?_; rintro e w1 ⟨rfl, hw⟩; rw [hw]; clear hw)
                | (at_builtin; refine wpList_append_own _ rfl _ _ 22 rfl w.heap.size 5 i0 (.int .u8 0) 1 1 Tryd.underlying22 G1.out G2.out G3.out G4.out rfl (by decide) _ _ _ rfl (hown.out.alloc _) ⟨wr.heap.size, 0, none⟩ 1 1 [.int .u8 (d.toNat : Int)] rfl rfl ?c1 ?c2 ?c3 ?c4 ?c5 ?_))
              case c1 => exact news_one wr _ _
              case c2 => intro u hu; obtain rfl : u = .int .u8 (d.toNat : Int) := by simpa using hu
                         rfl
              case c3 => unfold maxLen; omega
              case c4 => omega
              case c5 => have := hbr.out.size; simp; omega
              intro v' w' hown' hgr _
              have H2 : Hid (w'.ownsRow w.heap.size 5 1 v' (out ++ [d]).length (Lib.byteCells (out ++ [d]))) := Lib.hid (by
                rw [bytes_one, List.length_append]; exact hown')
              have H3 := Lib.hid ((hbr.out.alloc hbr.out.size _).grown hgr (by have := hbr.out.size; simp; omega) (own_base hown.out))
              clear hown' hgr hown hbr
              go_wp2
              go_roundw
              case rel => exact ⟨k + 2 + 1, out ++ [d], by omega, by go_num, by simp; omega, HR2, H2, H3⟩
              case measure => simp [intOf]; omega
            · rw [hl] at HLt
              rw [hd] at HDg
              clear hl hd
              go_wp2_with (first
                | (go_at_call 22; with_reducible refine (hQ.out _).mono ?_; rintro e w1 ⟨rfl, hw⟩; rw [hw]; clear hw)
                | (go_at_call 23; with_reducible refine (HLt.out _).mono ?_; rintro e w1 ⟨rfl, hw⟩; rw [hw]; clear hw)
                | (go_at_call 24; with_reducible refine (HDg.out _).mono ?_; rintro e w1 ⟨rfl, hw⟩; rw [hw]; clear hw)
                | (at_builtin; refine wpList_append_own _ rfl _ _ 22 rfl w.heap.size 5 i0 (.int .u8 0) 1 1 Tryd.underlying22 G1.out G2.out G3.out G4.out rfl (by decide) _ _ _ rfl (hown.out.alloc _) ⟨wr.heap.size, 0, none⟩ 1 1 [.int .u8 (d.toNat : Int)] rfl rfl ?c1 ?c2 ?c3 ?c4 ?c5 ?_))
              case c1 => exact news_one wr _ _
              case c2 => intro u hu; obtain rfl : u = .int .u8 (d.toNat : Int) := by simpa using hu
                         rfl
              case c3 => unfold maxLen; omega
              case c4 => omega
              case c5 => have := hbr.out.size; simp; omega
              intro v' w' hown' hgr _
              have H2 : Hid (w'.ownsRow w.heap.size 5 1 v' (out ++ [d]).length (Lib.byteCells (out ++ [d]))) := Lib.hid (by
                rw [bytes_one, List.length_append]; exact hown')
              have H3 := Lib.hid ((hbr.out.alloc hbr.out.size _).grown hgr (by have := hbr.out.size; simp; omega) (own_base hown.out))
              clear hown' hgr hown hbr
              go_wp2
              go_roundw
              case rel => exact ⟨k + 2 + 1, out ++ [d], by omega, by go_num, by simp; omega, HR2, H2, H3⟩
              case measure => simp [intOf]; omega
            · have hQ' : Hid (∀ w, Calls Tryd.prog 22 #[.string s, .int .i64 k] w fun e w' => e = .returned (.tuple #[.int .u8 45, .bool true]) ∧ w' = w) := Lib.hid (fun w => hQ.out w)
              have HLt' : Hid (∀ w, Calls Tryd.prog 23 #[.int .u8 45] w fun e w' => e = .returned (.bool false) ∧ w' = w) := Lib.hid (fun w => HLt.out w)
              have HDg' : Hid (∀ w, Calls Tryd.prog 24 #[.int .u8 45] w fun e w' => e = .returned (.bool false) ∧ w' = w) := Lib.hid (fun w => HDg.out w)
              clear hQ HLt HDg
              go_wp2_with (first
                | (go_at_call 22; with_reducible refine (hQ'.out _).mono ?_; rintro e w1 ⟨rfl, hw⟩; rw [hw]; clear hw)
                | (go_at_call 23; with_reducible refine (HLt'.out _).mono ?_; rintro e w1 ⟨rfl, hw⟩; rw [hw]; clear hw)
                | (go_at_call 24; with_reducible refine (HDg'.out _).mono ?_; rintro e w1 ⟨rfl, hw⟩; rw [hw]; clear hw)
                | (at_builtin; refine wpList_append_own _ rfl _ _ 22 rfl w.heap.size 5 i0 (.int .u8 0) 1 1 Tryd.underlying22 G1.out G2.out G3.out G4.out rfl (by decide) _ _ _ rfl (hown.out.alloc _) ⟨wr.heap.size, 0, none⟩ 1 1 [.int .u8 45] rfl rfl ?c1 ?c2 ?c3 ?c4 ?c5 ?_))
              case c1 => exact news_one wr _ _
              case c2 => intro u hu; obtain rfl : u = .int .u8 45 := by simpa using hu
                         rfl
              case c3 => unfold maxLen; omega
              case c4 => omega
              case c5 => have := hbr.out.size; simp; omega
              intro v' w' hown' hgr _
              have H2 : Hid (w'.ownsRow w.heap.size 5 1 v' (out ++ [45]).length (Lib.byteCells (out ++ [45]))) := Lib.hid (by
                rw [bytes_one, List.length_append]; exact hown')
              have H3 := Lib.hid ((hbr.out.alloc hbr.out.size _).grown hgr (by have := hbr.out.size; simp; omega) (own_base hown.out))
              clear hown' hgr hown hbr
              go_wp2
              go_roundw
              case rel => exact ⟨k + 2 + 1, out ++ [45], by omega, by go_num, by simp; omega, HR2, H2, H3⟩
              case measure => simp [intOf]; omega
            · have hQ' : Hid (∀ w, Calls Tryd.prog 22 #[.string s, .int .i64 k] w fun e w' => e = .returned (.tuple #[.int .u8 46, .bool true]) ∧ w' = w) := Lib.hid (fun w => hQ.out w)
              have HLt' : Hid (∀ w, Calls Tryd.prog 23 #[.int .u8 46] w fun e w' => e = .returned (.bool false) ∧ w' = w) := Lib.hid (fun w => HLt.out w)
              have HDg' : Hid (∀ w, Calls Tryd.prog 24 #[.int .u8 46] w fun e w' => e = .returned (.bool false) ∧ w' = w) := Lib.hid (fun w => HDg.out w)
              clear hQ HLt HDg
              go_wp2_with (first
                | (go_at_call 22; with_reducible refine (hQ'.out _).mono ?_; rintro e w1 ⟨rfl, hw⟩; rw [hw]; clear hw)
                | (go_at_call 23; with_reducible refine (HLt'.out _).mono ?_; rintro e w1 ⟨rfl, hw⟩; rw [hw]; clear hw)
                | (go_at_call 24; with_reducible refine (HDg'.out _).mono ?_; rintro e w1 ⟨rfl, hw⟩; rw [hw]; clear hw)
                | (at_builtin; refine wpList_append_own _ rfl _ _ 22 rfl w.heap.size 5 i0 (.int .u8 0) 1 1 Tryd.underlying22 G1.out G2.out G3.out G4.out rfl (by decide) _ _ _ rfl (hown.out.alloc _) ⟨wr.heap.size, 0, none⟩ 1 1 [.int .u8 46] rfl rfl ?c1 ?c2 ?c3 ?c4 ?c5 ?_))
              case c1 => exact news_one wr _ _
              case c2 => intro u hu; obtain rfl : u = .int .u8 46 := by simpa using hu
                         rfl
              case c3 => unfold maxLen; omega
              case c4 => omega
              case c5 => have := hbr.out.size; simp; omega
              intro v' w' hown' hgr _
              have H2 : Hid (w'.ownsRow w.heap.size 5 1 v' (out ++ [46]).length (Lib.byteCells (out ++ [46]))) := Lib.hid (by
                rw [bytes_one, List.length_append]; exact hown')
              have H3 := Lib.hid ((hbr.out.alloc hbr.out.size _).grown hgr (by have := hbr.out.size; simp; omega) (own_base hown.out))
              clear hown' hgr hown hbr
              go_wp2
              go_roundw
              case rel => exact ⟨k + 2 + 1, out ++ [46], by omega, by go_num, by simp; omega, HR2, H2, H3⟩
              case measure => simp [intOf]; omega
            · have hQ' : Hid (∀ w, Calls Tryd.prog 22 #[.string s, .int .i64 k] w fun e w' => e = .returned (.tuple #[.int .u8 95, .bool true]) ∧ w' = w) := Lib.hid (fun w => hQ.out w)
              have HLt' : Hid (∀ w, Calls Tryd.prog 23 #[.int .u8 95] w fun e w' => e = .returned (.bool false) ∧ w' = w) := Lib.hid (fun w => HLt.out w)
              have HDg' : Hid (∀ w, Calls Tryd.prog 24 #[.int .u8 95] w fun e w' => e = .returned (.bool false) ∧ w' = w) := Lib.hid (fun w => HDg.out w)
              clear hQ HLt HDg
              go_wp2_with (first
                | (go_at_call 22; with_reducible refine (hQ'.out _).mono ?_; rintro e w1 ⟨rfl, hw⟩; rw [hw]; clear hw)
                | (go_at_call 23; with_reducible refine (HLt'.out _).mono ?_; rintro e w1 ⟨rfl, hw⟩; rw [hw]; clear hw)
                | (go_at_call 24; with_reducible refine (HDg'.out _).mono ?_; rintro e w1 ⟨rfl, hw⟩; rw [hw]; clear hw)
                | (at_builtin; refine wpList_append_own _ rfl _ _ 22 rfl w.heap.size 5 i0 (.int .u8 0) 1 1 Tryd.underlying22 G1.out G2.out G3.out G4.out rfl (by decide) _ _ _ rfl (hown.out.alloc _) ⟨wr.heap.size, 0, none⟩ 1 1 [.int .u8 95] rfl rfl ?c1 ?c2 ?c3 ?c4 ?c5 ?_))
              case c1 => exact news_one wr _ _
              case c2 => intro u hu; obtain rfl : u = .int .u8 95 := by simpa using hu
                         rfl
              case c3 => unfold maxLen; omega
              case c4 => omega
              case c5 => have := hbr.out.size; simp; omega
              intro v' w' hown' hgr _
              have H2 : Hid (w'.ownsRow w.heap.size 5 1 v' (out ++ [95]).length (Lib.byteCells (out ++ [95]))) := Lib.hid (by
                rw [bytes_one, List.length_append]; exact hown')
              have H3 := Lib.hid ((hbr.out.alloc hbr.out.size _).grown hgr (by have := hbr.out.size; simp; omega) (own_base hown.out))
              clear hown' hgr hown hbr
              go_wp2
              go_roundw
              case rel => exact ⟨k + 2 + 1, out ++ [95], by omega, by go_num, by simp; omega, HR2, H2, H3⟩
              case measure => simp [intOf]; omega
            · have hQ' : Hid (∀ w, Calls Tryd.prog 22 #[.string s, .int .i64 k] w fun e w' => e = .returned (.tuple #[.int .u8 126, .bool true]) ∧ w' = w) := Lib.hid (fun w => hQ.out w)
              have HLt' : Hid (∀ w, Calls Tryd.prog 23 #[.int .u8 126] w fun e w' => e = .returned (.bool false) ∧ w' = w) := Lib.hid (fun w => HLt.out w)
              have HDg' : Hid (∀ w, Calls Tryd.prog 24 #[.int .u8 126] w fun e w' => e = .returned (.bool false) ∧ w' = w) := Lib.hid (fun w => HDg.out w)
              clear hQ HLt HDg
              go_wp2_with (first
                | (go_at_call 22; with_reducible refine (hQ'.out _).mono ?_; rintro e w1 ⟨rfl, hw⟩; rw [hw]; clear hw)
                | (go_at_call 23; with_reducible refine (HLt'.out _).mono ?_; rintro e w1 ⟨rfl, hw⟩; rw [hw]; clear hw)
                | (go_at_call 24; with_reducible refine (HDg'.out _).mono ?_; rintro e w1 ⟨rfl, hw⟩; rw [hw]; clear hw)
                | (at_builtin; refine wpList_append_own _ rfl _ _ 22 rfl w.heap.size 5 i0 (.int .u8 0) 1 1 Tryd.underlying22 G1.out G2.out G3.out G4.out rfl (by decide) _ _ _ rfl (hown.out.alloc _) ⟨wr.heap.size, 0, none⟩ 1 1 [.int .u8 126] rfl rfl ?c1 ?c2 ?c3 ?c4 ?c5 ?_))
              case c1 => exact news_one wr _ _
              case c2 => intro u hu; obtain rfl : u = .int .u8 126 := by simpa using hu
                         rfl
              case c3 => unfold maxLen; omega
              case c4 => omega
              case c5 => have := hbr.out.size; simp; omega
              intro v' w' hown' hgr _
              have H2 : Hid (w'.ownsRow w.heap.size 5 1 v' (out ++ [126]).length (Lib.byteCells (out ++ [126]))) := Lib.hid (by
                rw [bytes_one, List.length_append]; exact hown')
              have H3 := Lib.hid ((hbr.out.alloc hbr.out.size _).grown hgr (by have := hbr.out.size; simp; omega) (own_base hown.out))
              clear hown' hgr hown hbr
              go_wp2
              go_roundw
              case rel => exact ⟨k + 2 + 1, out ++ [126], by omega, by go_num, by simp; omega, HR2, H2, H3⟩
              case measure => simp [intOf]; omega
          · obtain ⟨d1, hd1⟩ : ∃ d1, up (d.toNat / 16) = d1 := ⟨_, rfl⟩
            obtain ⟨d2, hd2⟩ : ∃ d2, up (d.toNat % 16) = d2 := ⟨_, rfl⟩
            have HR2 : Hid ((repl spell (s.data.toList.drop (k + 2 + 1))).map ((out ++ [37, d1, d2]) ++ ·) = R) := Lib.hid (by rw [← hrep.out, Option.map_map]; congr 1; funext z; simp [spell, hb, hd1, hd2])
            rw [hd1] at HUa
            rw [hd2] at HUb
            rw [hlt1] at HLt
            rw [hdg] at HDg
            have c3 : IntKind.i64.wrap ((k : Int) + 1) = ((k + 1 : Nat) : Int) := by rw [wrap_in _ (by omega) (by omega)]; omega
            have c4 : IntKind.i64.wrap ((k : Int) + 2) = ((k + 2 : Nat) : Int) := by rw [wrap_in _ (by omega) (by omega)]; omega
            have l1 : k + 1 < s.size := by omega
            have l2 : k + 2 < s.size := by omega
            have HSZ := Lib.hid hsz
            have i1 : 0 ≤ (k : Int) + 1 ∧ (k : Int) + 1 < (s.size : Int) := by omega
            have i2 : 0 ≤ (k : Int) + 2 ∧ (k : Int) + 2 < (s.size : Int) := by omega
            have j1 : ∀ hh, s[((k : Int) + 1).toNat]'hh = a := fun hh => by
              have e9 : ((k : Int) + 1).toNat = k + 1 := by omega
              simp only [e9]; exact f1 _
            have j2 : ∀ hh, s[((k : Int) + 2).toNat]'hh = b := fun hh => by
              have e9 : ((k : Int) + 2).toNat = k + 2 := by omega
              simp only [e9]; exact f2 _
            have y1 : ((d.toNat : Int) == 45) = false := beq_eq_false_iff_ne.2 x1
            have y2 : ((d.toNat : Int) == 46) = false := beq_eq_false_iff_ne.2 x2
            have y3 : ((d.toNat : Int) == 95) = false := beq_eq_false_iff_ne.2 x3
            have y4 : ((d.toNat : Int) == 126) = false := beq_eq_false_iff_ne.2 x4
            have HBd : Hid (Below w.heap.size w (wr.drewN 1)) := Lib.hid (Base.below_drewN hbr.out 1)
            have HOd : Hid ((wr.drewN 1).ownsRow w.heap.size 5 1 u4 out.length (Lib.byteCells out)) := Lib.hid hown.out
            clear hrep hb hd1 hd2 hlt1 hdg hsz hown
            go_upto_region 14 with (first
              | (go_at_call 22; with_reducible refine (hQ.out _).mono ?_; rintro e w1 ⟨rfl, hw⟩; rw [hw]; clear hw)
              | (go_at_call 23; with_reducible refine (HLt.out _).mono ?_; rintro e w1 ⟨rfl, hw⟩; rw [hw]; clear hw)
              | (go_at_call 24; with_reducible refine (HDg.out _).mono ?_; rintro e w1 ⟨rfl, hw⟩; rw [hw]; clear hw))
            refine Sched.region [(0, false), (1, false), (2, false), (3, false), (4, false), (6, false), (7, false), (8, false), (9, false), (5, true), (10, true), (11, true), (12, true), (13, false)] (fun w' => Below w.heap.size w w') (by kernel_rfl) (by kernel_rfl) (fun _ _ d _ _ h => by cases d <;> exact h) HBd.out ?_
            simp only [Sched.picked, List.filterMap_cons, List.filterMap_nil, List.getElem?_cons_zero, List.getElem?_cons_succ, Option.map_some]
            refine Sched.quiet (by rfl) ?_ ?_ ?_
            rotate_left 1
            · intro w' hS
              go_simp
              with_reducible rfl
            simp only [Act.put, List.setIfInBounds_toArray, List.set_cons_zero, List.set_cons_succ]
            refine Sched.quiet (by rfl) ?_ ?_ ?_
            rotate_left 1
            · intro w' hS
              go_simp
              with_reducible rfl
            simp only [Act.put, List.setIfInBounds_toArray, List.set_cons_zero, List.set_cons_succ]
            refine Sched.quiet (by rfl) ?_ ?_ ?_
            rotate_left 1
            · intro w' hS
              go_simp
              with_reducible rfl
            simp only [Act.put, List.setIfInBounds_toArray, List.set_cons_zero, List.set_cons_succ]
            refine Sched.quiet (by rfl) ?_ ?_ ?_
            rotate_left 1
            · intro w' hS
              go_simp
              with_reducible rfl
            simp only [Act.put, List.setIfInBounds_toArray, List.set_cons_zero, List.set_cons_succ]
            refine Sched.quiet (by rfl) (.int .u8 (a.toNat : Int)) ?_ ?_
            · intro w' hS
              go_simp
            simp only [Act.put, List.setIfInBounds_toArray, List.set_cons_zero, List.set_cons_succ]
            refine Sched.quiet (by rfl) ?_ ?_ ?_
            rotate_left 1
            · intro w' hS
              go_simp
              with_reducible rfl
            simp only [Act.put, List.setIfInBounds_toArray, List.set_cons_zero, List.set_cons_succ]
            refine Sched.quiet (by rfl) ?_ ?_ ?_
            rotate_left 1
            · intro w' hS
              go_simp
              with_reducible rfl
            simp only [Act.put, List.setIfInBounds_toArray, List.set_cons_zero, List.set_cons_succ]
            refine Sched.quiet (by rfl) ?_ ?_ ?_
            rotate_left 1
            · intro w' hS
              go_simp
              with_reducible rfl
            simp only [Act.put, List.setIfInBounds_toArray, List.set_cons_zero, List.set_cons_succ]
            refine Sched.quiet (by rfl) (.int .u8 (b.toNat : Int)) ?_ ?_
            · intro w' hS
              go_simp
            simp only [Act.put, List.setIfInBounds_toArray, List.set_cons_zero, List.set_cons_succ]
            refine Sched.change (by rfl) (fun K hK => ?_)
            go_simp
            (with_reducible refine (HUa.out _).mono ?_)
            rintro e w1 ⟨rfl, hw⟩
            rw [hw]
            clear hw
            dsimp only
            refine hK _ _ HBd.out ?_
            clear hK K
            refine Sched.change (by rfl) (fun K hK => ?_)
            go_simp
            (with_reducible refine (HUb.out _).mono ?_)
            rintro e w1 ⟨rfl, hw⟩
            rw [hw]
            clear hw
            dsimp only
            refine hK _ _ HBd.out ?_
            clear hK K
            generalize World.drewN wr 1 = Wd at *
            refine Sched.change (by rfl) (fun K hK => ?_)
            go_simp
            refine hK _ _ (HBd.out.alloc HBd.out.size _) ?_
            clear hK K
            refine Sched.change (by rfl) (fun K hK => ?_)
            obtain ⟨v2, w2, hr2, ho2, hg2, _⟩ := App.run_append_list (P := Tryd.prog) (Wd.alloc (.cells #[.int .u8 37, .int .u8 (d1.toNat : Int), .int .u8 (d2.toNat : Int)] 5)) 22 22 w.heap.size 5 i0 (.int .u8 0) 1 1 Tryd.underlying22 G1.out G2.out G3.out G4.out rfl (by decide) u4 out.length (Lib.byteCells out) (HOd.out.alloc _) (some ⟨Wd.heap.size, 0, none⟩) 3 3 [.int .u8 37, .int .u8 (d1.toNat : Int), .int .u8 (d2.toNat : Int)] rfl (three_here Wd _ _ _) (by intro u hu; simp only [List.mem_cons, List.not_mem_nil, or_false] at hu; rcases hu with rfl | rfl | rfl <;> rfl) (by unfold maxLen; omega) (by omega) (by have := HBd.out.size; simp; omega)
            have HB2 := Lib.hid ((HBd.out.alloc HBd.out.size (.cells #[.int .u8 37, .int .u8 (d1.toNat : Int), .int .u8 (d2.toNat : Int)] 5)).grown hg2 (by have := HBd.out.size; simp; omega) (fun k hk => (HOd.out.lt k hk).1))
            have HO2 := Lib.hid ho2
            refine oper_append _ _ _ rfl rfl rfl hr2 ?_
            refine hK _ _ HB2.out ?_
            clear hK K ho2 hg2 hr2
            simp only [Act.put, List.setIfInBounds_toArray, List.set_cons_zero, List.set_cons_succ]
            refine Sched.assign _ (by rfl) (by rfl) ?_
            simp only [Act.put, Act.eval, Array.getD_eq_getD_getElem?, List.getElem?_toArray, List.getElem?_cons_zero, List.getElem?_cons_succ, Option.getD_some, List.setIfInBounds_toArray, List.set_cons_zero, List.set_cons_succ]
            refine Sched.done ?_
            have H2 : Hid (w2.ownsRow w.heap.size 5 1 v2 (out ++ [37, d1, d2]).length (Lib.byteCells (out ++ [37, d1, d2]))) := Lib.hid (by
              rw [Lib.byteCells_append, List.length_append]; exact HO2.out)
            have hsz := HSZ.out
            clear HO2 HSZ
            go_wp2
            go_roundw
            case rel => exact ⟨k + 2 + 1, out ++ [37, d1, d2], by omega, by go_num, by simp; omega, HR2, H2, HB2⟩
            case measure => simp [intOf]; omega
        · have hQ := Lib.hid (fun w => two_no s k w (by omega) hlt hgood)
          have hnone : repl spell (37 :: s.data.toList.drop (k + 1)) = none := by
            match hl : s.data.toList.drop (k + 1) with
            | [] => exact repl_last spell
            | [a] => exact repl_one spell a
            | a :: b :: r =>
              refine repl_bad spell a b r ?_
              cases hh : (hx a && hx b)
              · rfl
              · exact absurd ⟨a, b, r, hl, hh⟩ hgood
          have hRn := hrep.out
          rw [hnone] at hRn
          have HN := Lib.hid hRn
          clear hdr hrep hc hgood hnone hRn hown
          go_wp2_with (first
            | (go_at_call 22; with_reducible refine (hQ.out _).mono ?_; rintro e w1 ⟨v9, rfl, hw⟩; rw [hw]; clear hw))
          go_ret2
          exact ⟨by rw [← HN.out]; rfl, hbr.out⟩
      · rw [hdr, repl_other spell c _ h37] at hrep
        have hne : ¬ (c.toNat : Int) = 37 := by
          intro e; exact h37 (UInt8.toNat_inj.1 (by show c.toNat = 37; omega))
        have HR2 : Hid ((repl spell (s.data.toList.drop (k + 1))).map ((out ++ [c]) ++ ·) = R) := Lib.hid (by rw [← hrep.out, Option.map_map]; congr 1; funext z; simp)
        clear hdr hrep h37 hc
        go_wp2_with (at_builtin; refine wpList_append_own _ rfl _ _ 22 rfl w.heap.size 5 i0 (.int .u8 0) 1 1 Tryd.underlying22 G1.out G2.out G3.out G4.out rfl (by decide) _ _ _ rfl (hown.out.alloc _) ⟨wr.heap.size, 0, none⟩ 1 1 [.int .u8 (c.toNat : Int)] rfl rfl ?c1 ?c2 ?c3 ?c4 ?c5 ?_)
        case c1 => exact news_one wr _ _
        case c2 => intro u hu; obtain rfl : u = .int .u8 (c.toNat : Int) := by simpa using hu
                   rfl
        case c3 => unfold maxLen; omega
        case c4 => omega
        case c5 => have := hbr.out.size; simp; omega
        intro v' w' hown' hgr _
        have H2 : Hid (w'.ownsRow w.heap.size 5 1 v' (out ++ [c]).length (Lib.byteCells (out ++ [c]))) := Lib.hid (by
          rw [bytes_one, List.length_append]; exact hown')
        have H3 := Lib.hid ((hbr.out.alloc hbr.out.size _).grown hgr (by have := hbr.out.size; simp; omega) (own_base hown.out))
        clear hown' hgr hown hbr
        go_wp2
        go_roundw
        case rel => exact ⟨k + 1, out ++ [c], by omega, by go_num, by simp; omega, HR2, H2, H3⟩
        case measure => simp [intOf]; omega
    · obtain rfl : k = s.size := by omega
      have hrep2 := hrep.out
      rw [List.drop_of_length_le (by rw [len]; exact Nat.le_refl _), repl_nil, Option.map_some, List.append_nil] at hrep2
      subst hrep2
      obtain ⟨b, cp, rfl, hNm⟩ := nums_own hown.out
      have hcv := conv_str wr b out.length cp out hNm
      clear hrep hNm hown HR
      have hol2 : out.length ≤ 100000 := by omega
      have hsl := segs_len out
      have HJ := Lib.hid (dots_bound out hol2)
      have HS := Lib.hid (fun w => rsegments_any (ba out) w (by rw [ba_size]; omega))
      have e3 : segsB (ba out) = (segs out).map ba := rfl
      have hml : ((segs out).map ba).length ≤ 1000000000 := by rw [List.length_map]; omega
      have hdl : ((dots (segs out)).map ba).length ≤ 1000000000 := by have := dots_len (segs out); rw [List.length_map]; omega
      have HD := Lib.hid (fun a n c w hv hn => rdots_any a n c ((segs out).map ba) w hv hn)
      have e4 : dotsB ((segs out).map ba) = (dots (segs out)).map ba := by unfold dotsB; rw [listL_map]
      have HN := Lib.hid (fun a n c w hv hn => rjoin_any a n c ((dots (segs out)).map ba) w hv hn (by rw [listL_map]; exact HJ.out))
      have e5 : joinB ((dots (segs out)).map ba) = ba (join (dots (segs out))) := by unfold joinB; rw [listL_map]
      simp only [e3] at HS
      simp only [e4] at HD
      simp only [e5] at HN
      clear e3 e4 e5 HJ
      generalize (segs out).map ba = S at *
      generalize (dots (segs out)).map ba = D at *
      go_wp2_with (first
        | (go_at_call 26; with_reducible refine (HN.out _ _ _ _ g3.out hm3).mono ?_; rintro e w4 ⟨rfl, hb⟩
           have b4 := Lib.hid (Base.below_step b3.out hb))
        | (go_at_call 17; with_reducible refine (HD.out _ _ _ _ g2.out hm2).mono ?_; rintro e w3 ⟨a3, n3, c3, rfl, hn3, hS3, hb⟩
           have g3 := Lib.hid hS3
           have hm3 : n3 ≤ 1000000000 := by omega
           have b3 := Lib.hid (Base.below_step b2.out hb)
           clear hS3 hb hn3)
        | (go_at_call 15; with_reducible refine (HS.out _).mono ?_; rintro e w2 ⟨a2, n2, c2, rfl, hn2, hS2, hb⟩
           have g2 := Lib.hid hS2
           have hm2 : n2 ≤ 1000000000 := by omega
           have b2 := Lib.hid (Base.below_step hbr.out hb)
           clear hS2 hb hn2))
      go_ret2
      exact ⟨rfl, b4.out⟩
theorem rnorm_any (s : ByteArray) (w : World) (hs : s.size ≤ 100000) :
    Calls Tryd.prog 10 #[.string s] w fun e w' => e = .returned (ans (norm s.data.toList)) ∧ Below w.heap.size w w' := by
  by_cases hr : ∃ r, s.data.toList = 47 :: r
  · obtain ⟨r, hr⟩ := hr
    exact rnorm_yes s w hs r hr
  · rw [norm_no hr]
    by_cases h0 : s = ⟨#[]⟩
    · subst h0
      unfold ans
      go_enter Tryd.func10, Tryd.ntmps10
      go_wp2
      go_ret2
      exact ⟨rfl, Below.refl _ _⟩
    · have n0 : ¬ s.toList = [] := fun e => h0 ((Ls.toList_iff s ⟨#[]⟩).1 (by rw [e]; decide +kernel))
      have l0 : 0 < s.size := by
        rcases Nat.eq_zero_or_pos s.size with h | h
        · exfalso; apply h0; apply Txt.ba_ext; rw [List.length_eq_zero_iff.1 ((len s).trans h)]
        · exact h
      obtain ⟨c, hc⟩ : ∃ c, s[0] = c := ⟨_, rfl⟩
      have e0 : ∀ hh, s[0]'hh = c := fun _ => hc
      have hne : ¬ (c.toNat : Int) = 47 := by
        intro e
        refine hr ⟨s.data.toList.drop 1, ?_⟩
        have : s.data.toList = s.data.toList[0]'(by rw [len]; exact l0) :: s.data.toList.drop 1 := by
          conv => lhs; rw [← List.drop_zero (l := s.data.toList), List.drop_eq_getElem_cons (by rw [len]; exact l0)]
        rw [this]
        congr 1
        have : s.data.toList[0]'(by rw [len]; exact l0) = c := hc
        rw [this]
        exact UInt8.toNat_inj.1 (by show c.toNat = 47; omega)
      have n1 : s.toList.isEmpty = false := by cases h : s.toList with | nil => exact absurd h n0 | cons _ _ => rfl
      have n2 : (s.toList == []) = false := beq_eq_false_iff_ne.2 n0
      clear hr h0 hc
      unfold ans
      go_enter Tryd.func10, Tryd.ntmps10
      go_wp2
      go_ret2
      exact ⟨rfl, Below.refl _ _⟩
end code
end Go.Proofs.YtojjhknejkhdhaaDoor.Pct
