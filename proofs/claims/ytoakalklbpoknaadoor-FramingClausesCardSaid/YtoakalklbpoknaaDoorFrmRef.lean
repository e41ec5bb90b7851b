/-
  Layer 10 (framing): what the document's Hosts, Coding and Length answer.
-/
import Derived.Test.YtoakalklbpoknaaDoorFrmBody
import Derived.Test.YtoakalklbpoknaaDoorTextRef2
import Derived.Test.YtoakalklbpoknaaDoorTargetRef
import Derived.Deep.QuietTactic
import Derived.BigQuiet
namespace Go.Proofs.YtoakalklbpoknaaDoor.Frm
open Go.RowKit Base Txt

/-- A block whose first cells are texts, and may be written. -/
def Rowf (w : World) (g n : Nat) (f : Nat → ByteArray) : Prop := ∀ j, j < n → w.cell? ⟨g, j, none⟩ = some (.string (f j)) ∧ w.frozen? ⟨g, j, none⟩ = false
theorem Rowf.set {w : World} {g n : Nat} {f : Nat → ByteArray} (h : Rowf w g n f) (k : Nat) (x : ByteArray) : Rowf (w.setCell ⟨g, k, none⟩ (.string x)) g n (fun j => if j = k then x else f j) := by
  intro j hj
  obtain ⟨c, z⟩ := h j hj
  refine ⟨?_, by rw [World.frozen?_setCell]; exact z⟩
  by_cases e : j = k
  · subst e
    rw [World.cell?_setCell_same _ _ _ c]; simp
  · rw [World.cell?_setCell_other _ _ _ _ (by simp <;> omega)]
    simp only [if_neg e]; exact c
theorem Rowf.below {w w' : World} {g n : Nat} {f : Nat → ByteArray} (h : Rowf w g n f) (hg : g < w.heap.size) (hb : Below w.heap.size w w') : Rowf w' g n f :=
  fun j hj => ⟨(hb.cell (p := ⟨g, j, none⟩) hg).trans (h j hj).1, (hb.frozen (p := ⟨g, j, none⟩) hg).trans (h j hj).2⟩
theorem Rowf.congr {w : World} {g n : Nat} {f f' : Nat → ByteArray} (h : Rowf w g n f) (e : ∀ j, j < n → f j = f' j) : Rowf w g n f' :=
  fun j hj => by rw [← e j hj]; exact h j hj
theorem rowf_of_own {w : World} {base : Nat} {e : TypeId} {v : Value} {n : Nat} {ss : List ByteArray} (h : w.ownsRow base e 1 v n (ss.map Value.string)) :
    ∃ A c, v = .slice A n c ∧ (0 < n → ∃ g, A = some ⟨g, 0, none⟩ ∧ base ≤ g ∧ g < w.heap.size ∧ Rowf w g n (fun j => ss[j]?.getD ByteArray.empty)) := by
  have hl : ss.length = n := by simpa using h.1
  rcases h.2 with ⟨rfl, rfl⟩ | ⟨g, cap, cur, rfl, hbg, hh, hnc, _, hsz, ht⟩
  · exact ⟨none, 0, rfl, fun h => absurd h (by omega)⟩
  · refine ⟨_, _, rfl, fun _ => ⟨g, rfl, hbg, ?_, fun k hk => ⟨?_, ?_⟩⟩⟩
    · rcases Nat.lt_or_ge g w.heap.size with hlt | hge
      · exact hlt
      · rw [Array.getElem?_eq_none hge] at hh; cases hh
    · rw [cell_of_row w g k cur e (0, 0) hh]
      have h1 : (ss.map Value.string)[k]? = some (.string (ss[k]?.getD ByteArray.empty)) := by
        rw [List.getElem?_map, List.getElem?_eq_getElem (by omega)]; rfl
      rw [← ht, List.getElem?_take_of_lt (by omega)] at h1
      simpa using h1
    · unfold World.frozen?; simp only [hh]; simp
/-- A coding's part, as the document holds it against "chunked". -/
def norm (tb : Bool) (v : ByteArray) : ByteArray := lower (if tb = true then trimOf v blanksOf else v)
theorem norm_is (tb : Bool) (v : ByteArray) : decide (norm tb v = chunked) = isC tb v := lower_chunked _
def mixN (tb : Bool) (ls : List ByteArray) (k : Nat) (j : Nat) : ByteArray := if j < k then norm tb (ls[j]?.getD ByteArray.empty) else ls[j]?.getD ByteArray.empty
theorem getD_map (ls : List ByteArray) (tb : Bool) (k : Nat) (h : k < ls.length) : (ls.map (isC tb))[k]'(by rw [List.length_map]; exact h) = isC tb (ls[k]?.getD ByteArray.empty) := by
  rw [List.getElem_map, List.getElem?_eq_getElem h]; rfl
theorem count_snoc (bs : List Bool) (k : Nat) (h : k < bs.length) : (bs.take (k + 1)).countP id = (bs.take k).countP id + (if bs[k] = true then 1 else 0) := by
  rw [List.take_succ_eq_append_getElem h, List.countP_append]
  congr 1
  cases bs[k] <;> rfl
theorem count_le (bs : List Bool) (k : Nat) : (bs.take k).countP id ≤ k := Nat.le_trans List.countP_le_length (by rw [List.length_take]; omega)

section code
set_option maxHeartbeats 4000000
set_option maxRecDepth 10000
attribute [local go_sem] Base.some_undef
theorem rcoding_any (p : Nat) (hp : p < 4294967296) (a : Option Addr) (n cap : Nat) (vs : List ByteArray) (w : World) (hv : Strs w a n vs) (hr : room vs ≤ 1000000000) :
    Calls Tryd.prog 21 #[.int .u32 (p : Nat), .slice a n cap] w fun e w' => e = .returned (.bool (coding (Qk.has p 17) (Qk.has p 18) vs)) ∧ Below w.heap.size w w' := by
  have HL := Lib.hid (rlist_own a n cap vs w hv hr)
  have H17 := Lib.hid (fun w => Qk.rhas_any p hp 17 w)
  have H18 := Lib.hid (fun w => Qk.rhas_any p hp 18 w)
  have HM := Lib.hid (fun x hx => Nat.le_trans (list_mem_size vs x hx) hr)
  have hlr := Nat.le_trans (list_le vs) hr
  have HX : coding (Qk.has p 17) (Qk.has p 18) vs = ((decide (((list vs).map (isC (Qk.has p 17))).countP id = 1) && ((list vs).map (isC (Qk.has p 17))).getLastD false) && (decide ((list vs).length = 1) || Qk.has p 18)) := by
    rw [only_count]; rfl
  rw [HX]
  clear HX hv hr hp
  generalize list vs = ls at *
  generalize Qk.has p 17 = tb at *
  generalize Qk.has p 18 = tl at *
  obtain ⟨m, hm⟩ : ∃ m, ls.length = m := ⟨_, rfl⟩
  rw [hm] at HL hlr ⊢
  have HSZ := Lib.hid (fun k (hk : k < m) => show (ls[k]?.getD ByteArray.empty).size ≤ 1000000000 by
    rw [List.getElem?_eq_getElem (by omega)]
    exact HM.out _ (List.getElem_mem _))
  obtain ⟨bs, hbs⟩ : ∃ bs, ls.map (isC tb) = bs := ⟨_, rfl⟩
  rw [hbs]
  have HBL := Lib.hid (show bs.length = m by rw [← hbs, List.length_map, hm])
  have HBA := Lib.hid (fun k (hk : k < m) => show bs[k]'(by rw [HBL.out]; exact hk) = isC tb (ls[k]?.getD ByteArray.empty) by
    simp only [← hbs, List.getElem_map]
    rw [List.getElem?_eq_getElem (by omega)]; rfl)
  clear HM hbs hm
  obtain ⟨R, hR0⟩ : ∃ R, ((decide (bs.countP id = 1) && bs.getLastD false) && (decide (m = 1) || tl)) = R := ⟨_, rfl⟩
  rw [hR0]
  have HRR := Lib.hid hR0
  clear hR0
  rcases Nat.eq_zero_or_pos m with h0 | h0
  · subst h0
    have e0 : bs = [] := List.eq_nil_of_length_eq_zero HBL.out
    subst e0
    have HRF := Lib.hid (show R = false from HRR.out.symm)
    clear HBA HBL HSZ hlr HRR
    go_enter Tryd.func21, Tryd.ntmps21
    go_wp2_with (go_at_call 35; with_reducible refine (HL.out).mono ?_; rintro e w1 ⟨v, rfl, ho, hb⟩
                 obtain ⟨A1, c1, rfl, _⟩ := rowf_of_own ho
                 have HB := Lib.hid hb
                 clear ho hb)
    go_loopw [6] (fun i wr => i = .int .i64 0 ∧ wr = w1) (fun i _ => 0)
    case atStart => exact ⟨rfl, rfl⟩
    case round =>
      obtain ⟨rfl, rfl⟩ := hrel
      go_wp2_with fail
      go_loopw [7, 8] (fun c i wr' => c = .int .i64 0 ∧ i = .int .i64 0 ∧ wr' = wr) (fun _ i _ => 0)
      case atStart => exact ⟨rfl, rfl, rfl⟩
      case round =>
        obtain ⟨rfl, rfl, rfl⟩ := hrel
        go_wp2_with fail
        go_ret
        exact ⟨by rw [HRF.out]; rfl, HB.out⟩
  have HT := Lib.hid (fun v (hv : v.size ≤ 1000000000) w => rtrimOf_any v ⟨#[11, 12, 32, 9]⟩ w (by decide) (Nat.le_trans hv (by decide)))
  have HLo := Lib.hid (fun v (hv : v.size ≤ 1000000000) w => rlower_any v w (Nat.le_trans hv (by decide)))
  have HTZ := Lib.hid (fun v (hv : v.size ≤ 1000000000) => show (trimOf v ⟨#[11, 12, 32, 9]⟩).size ≤ 1000000000 from Nat.le_trans (trim_size _ _) hv)
  have HC1 := Lib.hid (show IntKind.i64.wrap ((m : Int) - 1) = ((m - 1 : Nat) : Int) by rw [Base.wrap_in _ (by omega) (by omega)]; omega)
  have HC2 := Lib.hid (show wrap64 ((m : Int) - 1) = ((m - 1 : Nat) : Int) by unfold wrap64; omega)
  go_enter Tryd.func21, Tryd.ntmps21
  go_wp2_with (go_at_call 35; with_reducible refine (HL.out).mono ?_; rintro e w1 ⟨v, rfl, ho, hb⟩
               obtain ⟨A1, c3, rfl, ho2⟩ := rowf_of_own ho
               obtain ⟨g, rfl, hg, hlt, hR⟩ := ho2 h0
               have HR0 := Lib.hid (show Rowf w1 g m (mixN tb ls 0) from hR.congr fun j _ => by simp [mixN])
               have HB := Lib.hid hb
               clear ho hb ho2 hR)
  go_loopw [6] (fun i wr => ∃ k : Nat, k ≤ m ∧ i = .int .i64 k ∧ Hid (Below w.heap.size w wr) ∧ Hid (Rowf wr g m (mixN tb ls k)) ∧ g < wr.heap.size) (fun i _ => m - (intOf i).toNat)
  case atStart => exact ⟨0, Nat.zero_le _, rfl, HB, HR0, hlt⟩
  case round =>
    obtain ⟨k, hk, rfl, hbr, hR, hgl⟩ := hrel
    rcases Nat.lt_or_ge k m with hlk | hge
    · obtain ⟨hck, hzk⟩ := hR.out k hlk
      have hsz := HSZ.out k hlk
      rw [show mixN tb ls k k = ls[k]?.getD ByteArray.empty from if_neg (Nat.lt_irrefl k)] at hck
      have HS := Lib.hid (fun x (hx : x = norm tb (ls[k]?.getD ByteArray.empty)) (w' : World) (h : Rowf w' g m (mixN tb ls k)) => show Rowf (w'.setCell ⟨g, k, none⟩ (.string x)) g m (mixN tb ls (k + 1)) from (h.set k x).congr fun j hj => by
        unfold mixN
        by_cases e : j = k
        · rw [if_pos e, if_pos (by omega), hx, e]
        · rw [if_neg e]
          by_cases e2 : j < k
          · rw [if_pos e2, if_pos (by omega)]
          · rw [if_neg e2, if_neg (by omega)])
      have HS2 := Lib.hid (fun T x (hx : x = norm tb (ls[k]?.getD ByteArray.empty)) (w' : World) (h : Rowf w' g m (fun j => if j = k then T else mixN tb ls k j)) => show Rowf (w'.setCell ⟨g, k, none⟩ (.string x)) g m (mixN tb ls (k + 1)) from (h.set k x).congr fun j hj => by
        unfold mixN
        by_cases e : j = k
        · rw [if_pos e, if_pos (by omega), hx, e]
        · rw [if_neg e, if_neg e]
          by_cases e2 : j < k
          · rw [if_pos e2, if_pos (by omega)]
          · rw [if_neg e2, if_neg (by omega)])
      generalize ls[k]?.getD ByteArray.empty = x at *
      have i1 : (k : Int) < (m : Int) := by omega
      cases tb with
      | false =>
        have HC := Lib.hid (HLo.out x hsz)
        have HY := Lib.hid (show lower x = norm false x from rfl)
        generalize lower x = y at *
        clear HT HTZ hsz
        go_wp2_with (first
          | (go_at_call 28; with_reducible refine (H17.out _).mono ?_; rintro e w2 ⟨rfl, hw⟩; rw [hw]; clear hw)
          | (go_at_call 37; (with_reducible refine (HC.out _).mono ?_); rintro e w3 ⟨rfl, hb⟩
             have HB3 := Lib.hid (Base.below_step hbr.out hb)
             have hR3 := hR.out.below hgl hb
             have hg3 := Nat.lt_of_lt_of_le hgl hb.size
             clear hck hzk
             obtain ⟨hck, hzk⟩ := hR3 k hlk
             have HR3 := Lib.hid hR3
             clear hb hR3))
        go_roundw
        case rel => exact ⟨k + 1, by omega, by go_num, Lib.hid (HB3.out.setCell hg _), Lib.hid (HS.out _ HY.out _ HR3.out), by simpa using hg3⟩
        case measure => simp [intOf]; omega
      | true =>
        have HT2 := Lib.hid (HT.out x hsz)
        have hsT := HTZ.out x hsz
        have HY0 := Lib.hid (show lower (trimOf x ⟨#[11, 12, 32, 9]⟩) = norm true x from rfl)
        generalize trimOf x ⟨#[11, 12, 32, 9]⟩ = T at *
        have HC := Lib.hid (HLo.out T hsT)
        have HRT := Lib.hid (hR.out.set k T)
        have HBT : Hid (Below w.heap.size w (wr.setCell ⟨g, k, none⟩ (.string T))) := Lib.hid (hbr.out.setCell hg _)
        have hgT : g < (wr.setCell ⟨g, k, none⟩ (.string T)).heap.size := by simpa using hgl
        generalize lower T = y at *
        clear HT HTZ hsz hsT
        go_wp2_with (first
          | (go_at_call 28; with_reducible refine (H17.out _).mono ?_; rintro e w2 ⟨rfl, hw⟩; rw [hw]; clear hw)
          | (go_at_call 36; with_reducible refine (HT2.out _).mono ?_; rintro e w2 ⟨rfl, hw⟩; rw [hw]; clear hw)
          | (go_at_call 37; (with_reducible refine (HC.out _).mono ?_); rintro e w3 ⟨rfl, hb⟩
             have HB3 := Lib.hid (Base.below_step HBT.out hb)
             have hR3 := HRT.out.below hgT hb
             have hg3 := Nat.lt_of_lt_of_le hgT hb.size
             clear hck hzk
             obtain ⟨hck, hzk⟩ := hR3 k hlk
             have HR3 := Lib.hid hR3
             clear hb hR3))
        go_roundw
        case rel => exact ⟨k + 1, by omega, by go_num, Lib.hid (HB3.out.setCell hg _), Lib.hid (HS2.out _ _ HY0.out _ HR3.out), by simpa using hg3⟩
        case measure => simp [intOf]; omega
    · obtain rfl : k = m := by omega
      have HRk := Lib.hid (hR.out.congr (f' := fun j => norm tb (ls[j]?.getD ByteArray.empty)) fun j hj => if_pos hj)
      have HBk := hbr
      clear hR hbr HR0 HT HLo HTZ HSZ H17 HL
      go_wp2_with fail
      go_loop [7, 8] (fun c i => ∃ j : Nat, j ≤ k ∧ i = .int .i64 j ∧ ∃ q : Nat, c = .int .i64 q ∧ q ≤ j ∧ Hid (q = (bs.take j).countP id)) (fun _ i => k - (intOf i).toNat)
      case atStart => exact ⟨0, Nat.zero_le _, rfl, 0, rfl, Nat.le_refl _, Lib.hid rfl⟩
      case round =>
        obtain ⟨j, hj, rfl, q, rfl, hqj, HQ⟩ := hrel
        rcases Nat.lt_or_ge j k with hlj | hgj
        · have hcj : wr.cell? ⟨g, j, none⟩ = some (.string (norm tb (ls[j]?.getD ByteArray.empty))) := (HRk.out j hlj).1
          have HN := Lib.hid (count_snoc bs j (by rw [HBL.out]; exact hlj))
          have hbj := HBA.out j hlj
          rw [← norm_is] at hbj
          have HBJ := Lib.hid hbj
          clear hbj
          generalize norm tb (ls[j]?.getD ByteArray.empty) = x at *
          have i1 : (j : Int) < (k : Int) := by omega
          have hq1 : q + 1 ≤ j + 1 := by omega
          have hq2 : q ≤ j + 1 := by omega
          have hj1 : j + 1 ≤ k := by omega
          have c3 : wrap64 ((q : Int) + 1) = ((q + 1 : Nat) : Int) := by unfold wrap64; omega
          by_cases hx : x = chunked
          · have H2 := Lib.hid (show q + 1 = (bs.take (j + 1)).countP id by
              rw [HN.out, HBJ.out, decide_eq_true hx, if_pos rfl, ← HQ.out])
            obtain ⟨t1, t2⟩ := Tgt.eq_facts x [99, 104, 117, 110, 107, 101, 100] true (decide_eq_true (by rw [hx]))
            clear HN HBJ hx
            go_wp2_with fail
            clear c3
            go_round
            case rel => exact ⟨j + 1, hj1, by go_num, q + 1, rfl, hq1, H2⟩
            case measure => simp [intOf]; omega
          · have H2 := Lib.hid (show q = (bs.take (j + 1)).countP id by
              rw [HN.out, HBJ.out, decide_eq_false hx, if_neg (by decide), ← HQ.out]; rfl)
            obtain ⟨t1, t2⟩ := Tgt.eq_facts x [99, 104, 117, 110, 107, 101, 100] false (decide_eq_false fun e => hx (ba_ext e))
            clear HN HBJ hx c3
            go_wp2_with fail
            go_round
            case rel => exact ⟨j + 1, hj1, by go_num, q, rfl, hq2, H2⟩
            case measure => simp [intOf]; omega
        · obtain rfl : j = k := by omega
          have hcl : wr.cell? ⟨g, j - 1, none⟩ = some (.string (norm tb (ls[j - 1]?.getD ByteArray.empty))) := (HRk.out (j - 1) (by omega)).1
          have hQ := HQ.out
          rw [List.take_of_length_le (by rw [HBL.out]; exact Nat.le_refl _)] at hQ
          have hRR := HRR.out
          rw [← hQ] at hRR
          have hlast : bs.getLastD false = decide (norm tb (ls[j - 1]?.getD ByteArray.empty) = chunked) := by
            rw [norm_is, ← HBA.out (j - 1) (by omega), List.getLastD_eq_getLast?, List.getLast?_eq_getElem?, show bs.length - 1 = j - 1 by rw [HBL.out], List.getElem?_eq_getElem (by rw [HBL.out]; omega)]; rfl
          rw [hlast] at hRR
          have HR2 := Lib.hid hRR
          have HJ := Lib.hid hgj
          have c1 := HC1.out
          have c2 := HC2.out
          clear hQ hlast HQ HBA HBL hgj hRR HRR HC1 HC2
          generalize norm tb (ls[j - 1]?.getD ByteArray.empty) = x at *
          have i1 : ((j - 1 : Nat) : Int) < (j : Int) := by omega
          generalize j - 1 = j1 at *
          by_cases hq : q = 1
          · have t0 : ((q : Int) == 1) = true := beq_iff_eq.2 (by omega)
            by_cases hx : x = chunked
            · obtain ⟨t1, t2⟩ := Tgt.eq_facts x [99, 104, 117, 110, 107, 101, 100] true (decide_eq_true (by rw [hx]))
              by_cases h1 : j = 1
              · have t3 : ((j : Int) == 1) = true := beq_iff_eq.2 (by omega)
                have HH := Lib.hid (show R = true by rw [← HR2.out, decide_eq_true hq, decide_eq_true hx, decide_eq_true h1]; rfl)
                clear h1 hq hx HR2
                go_wp2_with fail
                go_ret
                exact ⟨by rw [HH.out]; rfl, HBk.out⟩
              · have t3 : ((j : Int) == 1) = false := beq_eq_false_iff_ne.2 (by omega)
                have HH := Lib.hid (show R = tl by rw [← HR2.out, decide_eq_true hq, decide_eq_true hx, decide_eq_false h1]; rfl)
                clear h1 hq hx HR2
                go_wp2_with (go_at_call 28; with_reducible refine (H18.out _).mono ?_; rintro e w2 ⟨rfl, hw⟩; rw [hw]; clear hw)
                go_ret
                exact ⟨by rw [HH.out]; rfl, HBk.out⟩
            · obtain ⟨t1, t2⟩ := Tgt.eq_facts x [99, 104, 117, 110, 107, 101, 100] false (decide_eq_false fun e => hx (ba_ext e))
              have HH := Lib.hid (show R = false by rw [← HR2.out, decide_eq_true hq, decide_eq_false hx]; rfl)
              clear hq hx HR2
              go_wp2_with fail
              go_ret
              exact ⟨by rw [HH.out]; rfl, HBk.out⟩
          · have t0 : ((q : Int) == 1) = false := beq_eq_false_iff_ne.2 (by omega)
            have HH := Lib.hid (show R = false by rw [← HR2.out, decide_eq_false hq]; rfl)
            clear hq HR2
            go_wp2_with fail
            go_ret
            exact ⟨by rw [HH.out]; rfl, HBk.out⟩
end code
end Go.Proofs.YtoakalklbpoknaaDoor.Frm
