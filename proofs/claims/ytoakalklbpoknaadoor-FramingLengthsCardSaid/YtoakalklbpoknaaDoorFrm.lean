/-
  Layer 10 (framing): what package framing answers.
-/
import Derived.Test.YtoakalklbpoknaaDoorFrmWords
import Derived.Test.YtoakalklbpoknaaDoorTextFind
import Derived.Test.YtoakalklbpoknaaDoorShelf
import Derived.WalkKit
namespace Go.Proofs.YtoakalklbpoknaaDoor.Frm
open Go.RowKit Base Txt

/-- A block that holds a framing from its start, and may be written. -/
structure Gb (w : World) (g : Nat) (k l : Int) : Prop where
  c0 : w.cell? ⟨g, 0, none⟩ = some (.int .i64 k)
  c1 : w.cell? ⟨g, 1, none⟩ = some (.int .i64 l)
  z0 : w.frozen? ⟨g, 0, none⟩ = false
  z1 : w.frozen? ⟨g, 1, none⟩ = false
theorem Gb.new (w : World) (t : TypeId) (k l : Int) : Gb (w.alloc (.cells #[.int .i64 k, .int .i64 l] t)) w.heap.size k l := by
  have hh := heap_alloc_new w (.cells #[.int .i64 k, .int .i64 l] t)
  have c : ∀ j u, (#[Value.int .i64 k, .int .i64 l] : Array Value)[j]? = some u → (w.alloc (.cells #[.int .i64 k, .int .i64 l] t)).cell? ⟨w.heap.size, j, none⟩ = some u :=
    fun j u e => (cell_of_row (w.alloc _) w.heap.size j _ t (0, 0) hh).trans e
  have z : ∀ j, (w.alloc (.cells #[.int .i64 k, .int .i64 l] t)).frozen? ⟨w.heap.size, j, none⟩ = false := fun j => by unfold World.frozen?; simp only [hh]; simp
  exact ⟨c 0 _ rfl, c 1 _ rfl, z 0, z 1⟩
theorem Gb.below {w w' : World} {g : Nat} {k l : Int} (h : Gb w g k l) (hg : g < w.heap.size) (hb : Below w.heap.size w w') : Gb w' g k l :=
  ⟨(hb.cell (p := ⟨g, 0, none⟩) hg).trans h.c0, (hb.cell (p := ⟨g, 1, none⟩) hg).trans h.c1, (hb.frozen (p := ⟨g, 0, none⟩) hg).trans h.z0, (hb.frozen (p := ⟨g, 1, none⟩) hg).trans h.z1⟩
theorem Gb.put {B : Nat} {w0 w : World} {g : Nat} {k l : Int} (H : Gb w g k l) (hb : Below B w0 w) (hg : B ≤ g) (k' l' : Int) :
    ∃ W, (w.setCell ⟨g, 0, none⟩ (.int .i64 k')).setCell ⟨g, 1, none⟩ (.int .i64 l') = W ∧ Gb W g k' l' ∧ Below B w0 W := by
  obtain ⟨c0, c1, z0, z1⟩ := H
  refine ⟨_, rfl, ⟨?_, ?_, ?_, ?_⟩, (hb.setCell hg _).setCell hg _⟩
  all_goals go_simp
/-- A framing's value. -/
abbrev fr (k l : Int) : Value := .agg #[.int .i64 k, .int .i64 l]

theorem find_at (a : Option Addr) (n cap : Nat) (fs : List Fld) (name : ByteArray) (w : World) (hv : Flds w a n fs) (hn : n ≤ 1000000000) (hs : ∀ f ∈ fs, f.1.size ≤ maxLen) :
    Calls Tryd.prog 25 #[.slice a n cap, .string name] w fun e w' => ∃ b c, e = .returned (.slice b (find fs name).length c) ∧ Strs w' b (find fs name).length (find fs name) ∧ Below w.heap.size w w' :=
  (find_any a n cap fs name w hv hn hs).mono (by rintro e w' ⟨b, m, c, rfl, rfl, hS, hb⟩; exact ⟨b, c, rfl, hS, hb⟩)
theorem list_at (a : Option Addr) (n cap : Nat) (vs : List ByteArray) (w : World) (hv : Strs w a n vs) (hr : room vs ≤ 1000000000) :
    Calls Tryd.prog 33 #[.slice a n cap] w fun e w' => ∃ b c, e = .returned (.slice b (list vs).length c) ∧ Strs w' b (list vs).length (list vs) ∧ Below w.heap.size w w' :=
  (list_any a n cap vs w hv hr).mono (by rintro e w' ⟨b, m, c, rfl, rfl, hS, hb⟩; exact ⟨b, c, rfl, hS, hb⟩)

section code
set_option maxHeartbeats 2000000
attribute [local go_sem] Base.some_undef
theorem unless_any (p : Nat) (hp : p < 4294967296) (c e0 : Int) (w : World) : Calls Tryd.prog 29 #[.int .u32 (p : Nat), .int .i64 c, .int .i64 e0] w fun e w' => e = .returned (.int .i64 (if Qk.has p c = true then 0 else e0)) ∧ w' = w := by
  have H := Lib.hid (fun w => Qk.has_any p hp c w)
  generalize Qk.has p c = b at *
  cases b
  all_goals
    go_enter Tryd.func29, Tryd.ntmps29
    go_wp2_with (go_at_call 30; with_reducible refine (H.out _).mono ?_; rintro e w1 ⟨rfl, hw⟩; rw [hw]; clear hw)
    go_ret
    exact ⟨rfl, rfl⟩
theorem isChunked_any (v : ByteArray) (p : Nat) (hp : p < 4294967296) (w : World) (hs : v.size ≤ maxLen) : Calls Tryd.prog 34 #[.string v, .int .u32 (p : Nat)] w fun e w' => e = .returned (.bool (isC (Qk.has p 17) v)) ∧ Below w.heap.size w w' := by
  have H := Lib.hid (fun w => Qk.has_any p hp 17 w)
  have HT := Lib.hid (fun w => trimOf_any v ⟨#[11, 12, 32, 9]⟩ w hs (by decide))
  have hz : (trimOf v ⟨#[11, 12, 32, 9]⟩).size ≤ maxLen := Nat.le_trans (trim_size _ _) hs
  obtain ⟨T, hT⟩ : ∃ T, trimOf v ⟨#[11, 12, 32, 9]⟩ = T := ⟨_, rfl⟩
  rw [hT] at HT hz
  cases hb : Qk.has p 17 with
  | false =>
    rw [hb] at H
    have HS := Lib.hid (fun w => same_any v ⟨#[99, 104, 117, 110, 107, 101, 100]⟩ w hs)
    rw [show isC false v = same v ⟨#[99, 104, 117, 110, 107, 101, 100]⟩ from rfl]
    generalize same v ⟨#[99, 104, 117, 110, 107, 101, 100]⟩ = r at *
    clear hT hb
    go_enter Tryd.func34, Tryd.ntmps34
    go_wp2_with (first
      | (go_at_call 30; with_reducible refine (H.out _).mono ?_; rintro e w1 ⟨rfl, hw⟩; rw [hw]; clear hw)
      | (go_at_call 42; with_reducible refine (HS.out _).mono ?_; rintro e w1 ⟨rfl, hb⟩))
    go_ret
    exact ⟨rfl, hb⟩
  | true =>
    rw [hb] at H
    have HS := Lib.hid (fun w => same_any T ⟨#[99, 104, 117, 110, 107, 101, 100]⟩ w hz)
    rw [show isC true v = same T ⟨#[99, 104, 117, 110, 107, 101, 100]⟩ from by rw [← hT]; rfl]
    generalize same T ⟨#[99, 104, 117, 110, 107, 101, 100]⟩ = r at *
    clear hT hb
    go_enter Tryd.func34, Tryd.ntmps34
    go_wp2_with (first
      | (go_at_call 30; with_reducible refine (H.out _).mono ?_; rintro e w1 ⟨rfl, hw⟩; rw [hw]; clear hw)
      | (go_at_call 53; with_reducible refine (HT.out _).mono ?_; rintro e w1 ⟨rfl, hb1⟩)
      | (go_at_call 42; with_reducible refine (HS.out _).mono ?_; rintro e w2 ⟨rfl, hb⟩))
    go_ret
    exact ⟨rfl, Base.below_step hb1 hb⟩

theorem coding_any (p : Nat) (hp : p < 4294967296) (a : Option Addr) (n cap : Nat) (vs : List ByteArray) (w : World) (hv : Strs w a n vs) (hr : room vs ≤ 1000000000) :
    Calls Tryd.prog 20 #[.int .u32 (p : Nat), .slice a n cap] w fun e w' => e = .returned (.bool (coding (Qk.has p 17) (Qk.has p 18) vs)) ∧ Below w.heap.size w w' := by
  have HL := Lib.hid (list_at a n cap vs w hv hr)
  have H18 := Lib.hid (fun w => Qk.has_any p hp 18 w)
  have HM := Lib.hid (fun x hx => Nat.le_trans (list_mem_size vs x hx) hr)
  have HI := Lib.hid (fun v hs w => isChunked_any v p hp w hs)
  have hlr := Nat.le_trans (list_le vs) hr
  have HX : coding (Qk.has p 17) (Qk.has p 18) vs = (onlyLast ((list vs).map (isC (Qk.has p 17))) && (decide ((list vs).length = 1) || Qk.has p 18)) := rfl
  rw [HX]
  clear HX hv hr hp
  generalize list vs = ls at *
  generalize Qk.has p 17 = tb at *
  generalize Qk.has p 18 = tl at *
  obtain ⟨m, hm⟩ : ∃ m, ls.length = m := ⟨_, rfl⟩
  rw [hm] at HL hlr ⊢
  obtain ⟨bs, hbs⟩ : ∃ bs, ls.map (isC tb) = bs := ⟨_, rfl⟩
  rw [hbs]
  have HBL := Lib.hid (show bs.length = m by rw [← hbs, List.length_map, hm])
  have HBA := Lib.hid (fun k (hk : k < m) => show bs[k]'(by rw [HBL.out]; exact hk) = isC tb (ls[k]?.getD ByteArray.empty) by
    simp only [← hbs, List.getElem_map]
    rw [List.getElem?_eq_getElem (by omega)]; rfl)
  have HSZ := Lib.hid (fun k (hk : k < m) => show (ls[k]?.getD ByteArray.empty).size ≤ maxLen by
    rw [List.getElem?_eq_getElem (by omega)]
    exact Nat.le_trans (HM.out _ (List.getElem_mem _)) (by decide))
  clear HM hbs hm
  have c1 : IntKind.i64.wrap ((m : Int) - 1) = (m : Int) - 1 := Base.wrap_in _ (by omega) (by omega)
  have c2 : wrap64 ((m : Int) - 1) = (m : Int) - 1 := by unfold wrap64; omega
  go_enter Tryd.func20, Tryd.ntmps20
  go_wp2_with (go_at_call 33; with_reducible refine (HL.out).mono ?_; rintro e w1 ⟨b, c, rfl, hS, hb⟩
               have HS := Lib.hid hS
               have HB := Lib.hid hb
               clear hS hb)
  go_loopw [16] (fun i wr => ∃ k : Nat, k ≤ m ∧ i = .int .i64 k ∧ Hid (Below w1.heap.size w1 wr) ∧ Hid (k < m → onlyLast bs = onlyLast (bs.drop k)) ∧ Hid (k = m → 0 < m → onlyLast bs = true)) (fun i _ => m - (intOf i).toNat)
  case atStart => exact ⟨0, Nat.zero_le _, rfl, Lib.hid (Below.refl _ _), Lib.hid (fun _ => rfl), Lib.hid (fun h h2 => absurd h2 (by omega))⟩
  case round =>
    obtain ⟨k, hk, rfl, hbr, H1, H2⟩ := hrel
    rcases Nat.lt_or_ge k m with hlt | hge
    · obtain ⟨bl, off, rfl, hbl, hc⟩ := (HS.out.below hbr.out).2 (by omega)
      have hck := hc k hlt
      have HBk := Lib.hid (HBA.out k hlt)
      have HC := Lib.hid (HI.out _ (HSZ.out k hlt))
      clear hc
      generalize ls[k]?.getD ByteArray.empty = x at *
      generalize isC tb x = q at *
      have i1 : (k : Int) < (m : Int) := by omega
      rcases (by omega : k + 1 < m ∨ k + 1 = m) with hn | hn
      · have i2 : ((k : Int) == (m : Int) - 1) = false := beq_eq_false_iff_ne.2 (by omega)
        cases q with
        | false =>
          have H3 := Lib.hid (show k + 1 < m → onlyLast bs = onlyLast (bs.drop (k + 1)) from fun _ => (H1.out hlt).trans (only_step bs k (by rw [HBL.out]; exact hn) HBk.out))
          go_wp2_with (go_at_call 34; with_reducible refine (HC.out _).mono ?_; rintro e w2 ⟨rfl, hb⟩)
          have HB2 := Lib.hid (Base.below_step hbr.out hb)
          clear hb
          go_roundw
          case rel => exact ⟨k + 1, by omega, by go_num, HB2, H3, Lib.hid (fun h => absurd h (by omega))⟩
          case measure => simp [intOf]; omega
        | true =>
          have H3 := Lib.hid (show onlyLast bs = false from (H1.out hlt).trans (only_hit bs k (by rw [HBL.out]; exact hn) HBk.out))
          go_wp2_with (go_at_call 34; with_reducible refine (HC.out _).mono ?_; rintro e w2 ⟨rfl, hb⟩)
          have HB2 := Lib.hid (Base.below_step (Base.below_step HB.out hbr.out) hb)
          clear hb
          go_ret
          exact ⟨by rw [H3.out]; rfl, HB2.out⟩
      · have i2 : ((k : Int) == (m : Int) - 1) = true := beq_iff_eq.2 (by omega)
        have H3 := Lib.hid (show onlyLast bs = q from ((H1.out hlt).trans (only_end bs k (by rw [HBL.out]; exact hn))).trans HBk.out)
        cases q with
        | true =>
          go_wp2_with (go_at_call 34; with_reducible refine (HC.out _).mono ?_; rintro e w2 ⟨rfl, hb⟩)
          have HB2 := Lib.hid (Base.below_step hbr.out hb)
          clear hb
          go_roundw
          case rel => exact ⟨k + 1, by omega, by go_num, HB2, Lib.hid (fun h => absurd h (by omega)), Lib.hid (fun _ _ => H3.out)⟩
          case measure => simp [intOf]; omega
        | false =>
          go_wp2_with (go_at_call 34; with_reducible refine (HC.out _).mono ?_; rintro e w2 ⟨rfl, hb⟩)
          have HB2 := Lib.hid (Base.below_step (Base.below_step HB.out hbr.out) hb)
          clear hb
          go_ret
          exact ⟨by rw [H3.out]; rfl, HB2.out⟩
    · obtain rfl : k = m := by omega
      have HB2 := Lib.hid (Base.below_step HB.out hbr.out)
      have H3 := Lib.hid (H2.out rfl)
      clear H1 H2 hbr
      rcases (by omega : k = 0 ∨ k = 1 ∨ 1 < k) with rfl | rfl | hk1
      · have H4 := Lib.hid (show onlyLast bs = false by rw [List.eq_nil_of_length_eq_zero HBL.out]; rfl)
        go_wp2_with fail
        go_ret
        exact ⟨by rw [H4.out]; rfl, HB2.out⟩
      · have H4 := Lib.hid (H3.out (by omega))
        go_wp2_with fail
        go_ret
        exact ⟨by rw [H4.out]; rfl, HB2.out⟩
      · have H4 := Lib.hid (H3.out (by omega))
        have i3 : ((k : Int) - 1 == 0) = false := beq_eq_false_iff_ne.2 (by omega)
        have i4 : (0 : Int) < (k : Int) - 1 := by omega
        have H5 := Lib.hid (show decide (k = 1) = false from decide_eq_false (by omega))
        go_wp2_with (go_at_call 30; with_reducible refine (H18.out _).mono ?_; rintro e w1 ⟨rfl, hw⟩; rw [hw]; clear hw)
        go_ret
        exact ⟨by rw [H4.out, H5.out]; rfl, HB2.out⟩
end code
end Go.Proofs.YtoakalklbpoknaaDoor.Frm
