/-
  The statement on closing (RecordCloses): fields of three names and ten values, one behind another: the connection ends just if one of those that are named so says so. No program is spoken of in the first half.
-/
import Derived.Test.YtechehbegiinpaaDoorRecKnown
import Derived.Test.YtechehbegiinpaaDoorRecBent
namespace Go.Proofs.YtechehbegiinpaaDoor.Rec
open Go.RowKit Base Txt

def nms : List ByteArray := [connN, ⟨#[99, 111, 110, 110, 101, 99, 116, 105, 111, 110]⟩, ⟨#[80, 114, 111, 120, 121, 45, 67, 111, 110, 110, 101, 99, 116, 105, 111, 110]⟩]
def vls : List ByteArray := [closeW, ⟨#[67, 76, 79, 83, 69]⟩, keepW, ⟨#[75, 101, 101, 112, 45, 65, 108, 105, 118, 101]⟩, ⟨#[120]⟩, ⟨#[120, 99, 108, 111, 115, 101]⟩, ⟨#[97, 44, 32, 99, 108, 111, 115, 101]⟩, ⟨#[99, 108, 111, 115, 101, 44, 98]⟩, ⟨#[107, 101, 101, 112, 45, 97, 108, 105, 118, 101, 32, 44, 120]⟩, ⟨#[99, 108, 111, 115, 101, 32, 120]⟩]
def cl (m : Nat) : Bool := m == 0 || (m == 1 || (m == 6 || m == 7))
def kp (m : Nat) : Bool := m == 2 || (m == 3 || m == 8)
def nm (j : Nat) : ByteArray := nms[j]?.getD ByteArray.empty
def vl (m : Nat) : ByteArray := vls[m]?.getD ByteArray.empty
theorem one_close : ∀ (j : Fin 3) (m : Fin 10), one (list (find [(nm j.val, vl m.val)] connN)) closeW = (decide (j.val < 2) && cl m.val) := by decide +kernel
theorem one_keep : ∀ (j : Fin 3) (m : Fin 10), one (list (find [(nm j.val, vl m.val)] connN)) keepW = (decide (j.val < 2) && kp m.val) := by decide +kernel
theorem proxy_list : (⟨#[80, 114, 111, 120, 121, 45, 67, 111, 110, 110, 101, 99, 116, 105, 111, 110]⟩ : ByteArray).toList = ([80, 114, 111, 120, 121, 45, 67, 111, 110, 110, 101, 99, 116, 105, 111, 110] : List UInt8) := by simp
theorem find_app (a b : List Fld) (n : ByteArray) : find (a ++ b) n = find a n ++ find b n := by simp [find]
theorem list_app (a b : List ByteArray) : list (a ++ b) = list a ++ list b := by simp [list]
theorem one_app (a b : List ByteArray) (s : ByteArray) : one (a ++ b) s = (one a s || one b s) := by simp [one]
theorem step_close (F : List Fld) (j m : Nat) (hj : j < 3) (hm : m < 10) : one (list (find (F ++ [(nm j, vl m)]) connN)) closeW = (one (list (find F connN)) closeW || (decide (j < 2) && cl m)) := by
  rw [find_app, list_app, one_app, one_close ⟨j, hj⟩ ⟨m, hm⟩]
theorem step_keep (F : List Fld) (j m : Nat) (hj : j < 3) (hm : m < 10) : one (list (find (F ++ [(nm j, vl m)]) connN)) keepW = (one (list (find F connN)) keepW || (decide (j < 2) && kp m)) := by
  rw [find_app, list_app, one_app, one_keep ⟨j, hj⟩ ⟨m, hm⟩]
theorem nm_size : ∀ j : Fin 3, (nm j.val).size ≤ 1000 := by decide +kernel
theorem vl_size : ∀ m : Fin 10, (vl m.val).size ≤ 1000 := by decide +kernel
theorem nm_proxy : ∀ j : Fin 3, decide (nm j.val = ⟨#[80, 114, 111, 120, 121, 45, 67, 111, 110, 110, 101, 99, 116, 105, 111, 110]⟩) = !decide (j.val < 2) := by decide +kernel

section code
set_option maxHeartbeats 4000000
set_option maxRecDepth 20000
attribute [local go_sem] Base.some_undef
theorem recordCloses_law (a0 : Option Addr) (l0 c0 : Nat) (n0 : List Int) (a1 : Bool) (a2 : Int) (W : World) (i0 : Nums .u8 W a0 l0 n0) (w0 : ∀ n ∈ n0, (Lit.int .u8 n).wf = true) :
    Calls Tryd.prog 4 #[.slice a0 l0 c0, .bool a1, .int .u8 a2] W fun e w' => e = .returned (.bool true) ∧ Below W.heap.size W w' := by
  have HK := Lib.hid (fun w => known_any w)
  rcases Nat.lt_or_ge 8 l0 with hbig | hsm
  · have t0 : (8 : Int) < (l0 : Int) := by omega
    go_enter Tryd.func4, Tryd.ntmps4
    go_wp2_with (go_at_call 6; with_reducible refine (HK.out _).mono ?_; rintro e w1 ⟨rfl, hb1⟩)
    go_ret
    exact ⟨rfl, hb1⟩
  · have t0 : ¬ (8 : Int) < (l0 : Int) := by omega
    have HV := Lib.hid i0
    have HW := Lib.hid w0
    have HL := Lib.hid i0.1
    obtain ⟨iF, hi, hz0, hz1, hz2⟩ := info_parts field_info
    have G1 := Lib.hid hi; have G2 := Lib.hid hz0; have G3 := Lib.hid hz1; have G4 := Lib.hid hz2
    clear hi hz0 hz1 hz2 i0 w0
    cases a1 with
    | true =>
      go_enter Tryd.func4, Tryd.ntmps4
      go_wp2_with (go_at_call 6; with_reducible refine (HK.out _).mono ?_; rintro e w1 ⟨rfl, hb1⟩
                   have HB1 := Lib.hid hb1; clear hb1)
      have HB2 := Lib.hid (HB1.out.alloc HB1.out.size (.cells #[.string ⟨#[71, 69, 84]⟩, .string ⟨#[47]⟩, .int .i64 0, .slice none 0 0, .bool false, .slice none 0 0, .slice none 0 0] 25))
      have HA := Lib.hid (Bk.new w1 w1.heap.size rfl 25 [.string ⟨#[71, 69, 84]⟩, .string ⟨#[47]⟩, .int .i64 0, .slice none 0 0, .bool false, .slice none 0 0, .slice none 0 0])
      have HG := Lib.hid (show W.heap.size ≤ w1.heap.size from HB1.out.size)
      have HGl := Lib.hid (show w1.heap.size < (w1.alloc (.cells #[.string ⟨#[71, 69, 84]⟩, .string ⟨#[47]⟩, .int .i64 0, .slice none 0 0, .bool false, .slice none 0 0, .slice none 0 0] 25)).heap.size by simp)
      generalize w1.alloc (.cells #[.string ⟨#[71, 69, 84]⟩, .string ⟨#[47]⟩, .int .i64 0, .slice none 0 0, .bool false, .slice none 0 0, .slice none 0 0] 25) = W1 at *
      generalize w1.heap.size = g at *
      go_loopw [8, 9, 10] (fun c8 c9 i wr => ∃ (k : Nat) (F : List Fld) (v : Value), k ≤ l0 ∧ i = .int .i64 k ∧ F.length = k ∧ Hid (∀ f ∈ F, f.1.size ≤ 1000 ∧ f.2.size ≤ 1000) ∧ c8 = .bool (one (list (find F connN)) closeW) ∧ c9 = .bool (one (list (find F connN)) keepW) ∧
        Hid (Bk wr g [.string ⟨#[71, 69, 84]⟩, .string ⟨#[47]⟩, .int .i64 0, v, .bool false, .slice none 0 0, .slice none 0 0]) ∧ Hid (wr.ownsRow W.heap.size 31 2 v k (cells F)) ∧ Hid (∀ q, v.ownBlock = some q → g < q) ∧ Hid (Below W.heap.size W wr)) (fun _ _ i _ => l0 - (intOf i).toNat)
      case atStart => exact ⟨0, [], .slice none 0 0, Nat.zero_le _, rfl, rfl, Lib.hid (by simp), rfl, rfl, HA, Lib.hid (World.ownsRow_nil _ _ _ _), Lib.hid (by simp [Value.ownBlock]), HB2⟩
      case round =>
        obtain ⟨k, F, v, hk, rfl, hFl, HFs, rfl, rfl, HBk, HOw, HNe, hbr⟩ := hrel
        rcases Nat.lt_or_ge k l0 with hlt | hge
        · obtain ⟨bl, off, rfl, hbl0, hc⟩ := HV.out.2 (by omega)
          have HCK := Lib.hid (fun w' (hb : Below W.heap.size W w') => (hb.cell (p := ⟨bl, off + k, none⟩) hbl0).trans (hc k hlt))
          have hbl := Nat.lt_of_lt_of_le hbl0 hbr.out.size
          have hz : 0 ≤ n0[k]?.getD 0 ∧ n0[k]?.getD 0 ≤ 255 := by
            have : k < n0.length := by rw [HL.out]; exact hlt
            rw [List.getElem?_eq_getElem this]
            exact bounds_u8 (HW.out _ (List.getElem_mem this))
          clear hc
          generalize n0[k]?.getD 0 = z at *
          have hck := HCK.out wr hbr.out
          obtain ⟨m, hm, hM⟩ : ∃ m : Nat, m < 10 ∧ Int.tmod z 10 = (m : Int) := ⟨z.toNat % 10, Nat.mod_lt _ (by decide), by rw [Int.tmod_eq_emod_of_nonneg hz.1]; omega⟩
          obtain ⟨D, hD, hD0, hD1⟩ : ∃ D : Int, Int.tdiv z 10 = D ∧ D % 256 = D ∧ 0 ≤ D := ⟨_, rfl, by rw [Int.tdiv_eq_ediv_of_nonneg hz.1]; omega, Int.tdiv_nonneg hz.1 (by decide)⟩
          obtain ⟨E, hE, hE1⟩ : ∃ E : Int, (D + a2) % 256 = E ∧ 0 ≤ E := ⟨_, rfl, by omega⟩
          obtain ⟨j, hj, hJ, hJ2⟩ : ∃ j : Nat, j < 3 ∧ Int.tmod E 3 = (j : Int) ∧ E % 3 = (j : Int) := ⟨E.toNat % 3, Nat.mod_lt _ (by decide), by rw [Int.tmod_eq_emod_of_nonneg hE1]; omega, by omega⟩
          have hx := (Bk.new wr wr.heap.size rfl 9 [.string ⟨#[99, 108, 111, 115, 101]⟩, .string ⟨#[67, 76, 79, 83, 69]⟩, .string ⟨#[107, 101, 101, 112, 45, 97, 108, 105, 118, 101]⟩, .string ⟨#[75, 101, 101, 112, 45, 65, 108, 105, 118, 101]⟩, .string ⟨#[120]⟩, .string ⟨#[120, 99, 108, 111, 115, 101]⟩, .string ⟨#[97, 44, 32, 99, 108, 111, 115, 101]⟩, .string ⟨#[99, 108, 111, 115, 101, 44, 98]⟩, .string ⟨#[107, 101, 101, 112, 45, 97, 108, 105, 118, 101, 32, 44, 120]⟩, .string ⟨#[99, 108, 111, 115, 101, 32, 120]⟩]).c m (.string (vl m)) (by
            have : ∀ m : Fin 10, ([.string ⟨#[99, 108, 111, 115, 101]⟩, .string ⟨#[67, 76, 79, 83, 69]⟩, .string ⟨#[107, 101, 101, 112, 45, 97, 108, 105, 118, 101]⟩, .string ⟨#[75, 101, 101, 112, 45, 65, 108, 105, 118, 101]⟩, .string ⟨#[120]⟩, .string ⟨#[120, 99, 108, 111, 115, 101]⟩, .string ⟨#[97, 44, 32, 99, 108, 111, 115, 101]⟩, .string ⟨#[99, 108, 111, 115, 101, 44, 98]⟩, .string ⟨#[107, 101, 101, 112, 45, 97, 108, 105, 118, 101, 32, 44, 120]⟩, .string ⟨#[99, 108, 111, 115, 101, 32, 120]⟩] : List Value)[m.val]? = some (.string (vl m.val)) := by
              intro m
              rcases m with ⟨m, hm⟩
              match m, hm with
              | 0, _ | 1, _ | 2, _ | 3, _ | 4, _ | 5, _ | 6, _ | 7, _ | 8, _ | 9, _ => rfl
            exact this ⟨m, hm⟩)
          have hy := (Bk.new (wr.alloc (.cells #[.string ⟨#[99, 108, 111, 115, 101]⟩, .string ⟨#[67, 76, 79, 83, 69]⟩, .string ⟨#[107, 101, 101, 112, 45, 97, 108, 105, 118, 101]⟩, .string ⟨#[75, 101, 101, 112, 45, 65, 108, 105, 118, 101]⟩, .string ⟨#[120]⟩, .string ⟨#[120, 99, 108, 111, 115, 101]⟩, .string ⟨#[97, 44, 32, 99, 108, 111, 115, 101]⟩, .string ⟨#[99, 108, 111, 115, 101, 44, 98]⟩, .string ⟨#[107, 101, 101, 112, 45, 97, 108, 105, 118, 101, 32, 44, 120]⟩, .string ⟨#[99, 108, 111, 115, 101, 32, 120]⟩] 9)) (wr.heap.size + 1) (by simp) 9 [.string ⟨#[67, 111, 110, 110, 101, 99, 116, 105, 111, 110]⟩, .string ⟨#[99, 111, 110, 110, 101, 99, 116, 105, 111, 110]⟩, .string ⟨#[80, 114, 111, 120, 121, 45, 67, 111, 110, 110, 101, 99, 116, 105, 111, 110]⟩]).c j (.string (nm j)) (by
            match j, hj with
            | 0, _ | 1, _ | 2, _ => rfl)
          have hN := Lib.hid (step_close F j m hj hm)
          have hP := Lib.hid (step_keep F j m hj hm)
          have hs1 := Lib.hid (nm_size ⟨j, hj⟩); have hs2 := Lib.hid (vl_size ⟨m, hm⟩)
          have hpx := Lib.hid (nm_proxy ⟨j, hj⟩)
          generalize vl m = X at *
          generalize nm j = Y at *
          have q0 := HBk.out.c 3 _ rfl
          have hgl := HBk.out.lt
          have i1 : (k : Int) < (l0 : Int) := by omega
          clear hz hD1 hE1
          go_upto_region 14 with fail
          have HW2 := Lib.hid ((((Below.refl _ _).alloc (Nat.le_refl _) (.cells #[.string ⟨#[99, 108, 111, 115, 101]⟩, .string ⟨#[67, 76, 79, 83, 69]⟩, .string ⟨#[107, 101, 101, 112, 45, 97, 108, 105, 118, 101]⟩, .string ⟨#[75, 101, 101, 112, 45, 65, 108, 105, 118, 101]⟩, .string ⟨#[120]⟩, .string ⟨#[120, 99, 108, 111, 115, 101]⟩, .string ⟨#[97, 44, 32, 99, 108, 111, 115, 101]⟩, .string ⟨#[99, 108, 111, 115, 101, 44, 98]⟩, .string ⟨#[107, 101, 101, 112, 45, 97, 108, 105, 118, 101, 32, 44, 120]⟩, .string ⟨#[99, 108, 111, 115, 101, 32, 120]⟩] 9)).alloc (by simp) (.cells #[.string ⟨#[67, 111, 110, 110, 101, 99, 116, 105, 111, 110]⟩, .string ⟨#[99, 111, 110, 110, 101, 99, 116, 105, 111, 110]⟩, .string ⟨#[80, 114, 111, 120, 121, 45, 67, 111, 110, 110, 101, 99, 116, 105, 111, 110]⟩] 9)).alloc (by simp; omega) (.cells #[.string Y, .string X] 31) : Below wr.heap.size wr _)
          have HFb := Lib.hid (Bk.new ((wr.alloc (.cells #[.string ⟨#[99, 108, 111, 115, 101]⟩, .string ⟨#[67, 76, 79, 83, 69]⟩, .string ⟨#[107, 101, 101, 112, 45, 97, 108, 105, 118, 101]⟩, .string ⟨#[75, 101, 101, 112, 45, 65, 108, 105, 118, 101]⟩, .string ⟨#[120]⟩, .string ⟨#[120, 99, 108, 111, 115, 101]⟩, .string ⟨#[97, 44, 32, 99, 108, 111, 115, 101]⟩, .string ⟨#[99, 108, 111, 115, 101, 44, 98]⟩, .string ⟨#[107, 101, 101, 112, 45, 97, 108, 105, 118, 101, 32, 44, 120]⟩, .string ⟨#[99, 108, 111, 115, 101, 32, 120]⟩] 9)).alloc (.cells #[.string ⟨#[67, 111, 110, 110, 101, 99, 116, 105, 111, 110]⟩, .string ⟨#[99, 111, 110, 110, 101, 99, 116, 105, 111, 110]⟩, .string ⟨#[80, 114, 111, 120, 121, 45, 67, 111, 110, 110, 101, 99, 116, 105, 111, 110]⟩] 9)) (wr.heap.size + 1 + 1) (by simp) 31 [.string Y, .string X])
          have hgf := Lib.hid (show g < wr.heap.size + 1 + 1 by omega)
          have hfw := Lib.hid (show wr.heap.size ≤ wr.heap.size + 1 + 1 by omega)
          clear hx hy q0 hgl hck hbl hD hD0 hE hJ hJ2
          generalize ((wr.alloc (.cells #[.string ⟨#[99, 108, 111, 115, 101]⟩, .string ⟨#[67, 76, 79, 83, 69]⟩, .string ⟨#[107, 101, 101, 112, 45, 97, 108, 105, 118, 101]⟩, .string ⟨#[75, 101, 101, 112, 45, 65, 108, 105, 118, 101]⟩, .string ⟨#[120]⟩, .string ⟨#[120, 99, 108, 111, 115, 101]⟩, .string ⟨#[97, 44, 32, 99, 108, 111, 115, 101]⟩, .string ⟨#[99, 108, 111, 115, 101, 44, 98]⟩, .string ⟨#[107, 101, 101, 112, 45, 97, 108, 105, 118, 101, 32, 44, 120]⟩, .string ⟨#[99, 108, 111, 115, 101, 32, 120]⟩] 9)).alloc (.cells #[.string ⟨#[67, 111, 110, 110, 101, 99, 116, 105, 111, 110]⟩, .string ⟨#[99, 111, 110, 110, 101, 99, 116, 105, 111, 110]⟩, .string ⟨#[80, 114, 111, 120, 121, 45, 67, 111, 110, 110, 101, 99, 116, 105, 111, 110]⟩] 9)).alloc (.cells #[.string Y, .string X] 31) = W2 at *
          generalize wr.heap.size + 1 + 1 = fb at *
          have HBk2 := Lib.hid (HBk.out.below HW2.out)
          have HOw2 := Lib.hid (own_below HOw.out HW2.out)
          have hb2 := Lib.hid (Base.below_step hbr.out HW2.out)
          have q3 := HBk2.out.c 3 _ rfl
          have z3 := HBk2.out.z 3 (by simp)
          have y0 := HFb.out.c 0 _ rfl; have y1 := HFb.out.c 1 _ rfl
          go_upto_region 15 with
            (at_builtin; refine App.wpList_append_list _ rfl _ _ 22 rfl W.heap.size 31 iF (.agg #[.string ByteArray.empty, .string ByteArray.empty]) 2 32 Tryd.underlying22 G1.out G2.out G3.out G4.out rfl (by decide) v k (cells F) rfl (HOw2.out.alloc (.cells #[.string Y, .string X] 31)) (some ⟨W2.heap.size, 0, none⟩) 1 1 [.string Y, .string X] rfl rfl (lit_lie W2 W2.heap.size rfl 31 [.string Y, .string X] 1) (by intro u hu; rcases (by simpa using hu : u = .string Y ∨ u = .string X) with rfl | rfl <;> rfl) (by unfold maxLen; omega) (by omega) (by have := hb2.out.size; simp; omega) ?_
             intro v2 w2 hO2 hgr2 _ hor2
             obtain ⟨b2, c2, rfl⟩ := own_slice hO2
             have hO2' : w2.ownsRow W.heap.size 31 2 (.slice b2 (k + 1) c2) (k + 1) (cells (F ++ [(Y, X)])) := by rw [cells_append]; exact hO2
             have HO2 := Lib.hid hO2'
             have hrow : ∀ q, v.ownBlock = some q → g < q := HNe.out
             have HA2 := Lib.hid ((HBk2.out.alloc (.cells #[.string Y, .string X] 31)).grown hgr2 (fun e => by have := hrow _ e.symm; omega))
             have HF2 := Lib.hid ((HFb.out.alloc (.cells #[.string Y, .string X] 31)).grown hgr2 (fun e => by have := own_lt HOw.out _ e.symm; have := hfw.out; omega))
             have HB2' := Lib.hid ((hb2.out.alloc hb2.out.size (.cells #[.string Y, .string X] 31)).grown hgr2 (by have := hb2.out.size; simp; omega) (fun q e => own_base HOw2.out q e))
             have HR2 := Lib.hid (show ∀ q, (Value.slice b2 (k + 1) c2).ownBlock = some q → g < q from fun q e => by
               have := HBk2.out.lt
               rcases hor2 with h | h
               · rw [h] at e; exact hrow q e
               · rw [h] at e; cases e; simp; omega)
             have qx := HA2.out.c 3 _ rfl; have zx := HA2.out.z 3 (by simp)
             clear hO2 hO2' hgr2 hor2 hrow q3 z3 y0 y1)
          clear qx zx
          have HA3 := Lib.hid (HA2.out.set 3 (.slice b2 (k + 1) c2) (by simp))
          have hy3 := (HF2.out.other g 3 (.slice b2 (k + 1) c2) (by have := hgf.out; omega)).c 0 _ rfl
          have HO3 := Lib.hid (ownsRow_setCell_other HO2.out (a := ⟨g, 3, none⟩) (fun e => by have := HR2.out _ e; simp only at this; omega) (.slice b2 (k + 1) c2))
          have HB3 := Lib.hid (show Below W.heap.size W (w2.setCell ⟨g, 3, none⟩ (.slice b2 (k + 1) c2)) from HB2'.out.setCell HG.out _)
          generalize w2.setCell ⟨g, 3, none⟩ (.slice b2 (k + 1) c2) = W3 at *
          have hck := HCK.out W3 HB3.out
          have HFs' := Lib.hid (show ∀ f ∈ F ++ [(Y, X)], f.1.size ≤ 1000 ∧ f.2.size ≤ 1000 from fun f hf => by
            rcases List.mem_append.1 hf with h | h
            · exact HFs.out f h
            · obtain rfl : f = (Y, X) := (by simpa using h)
              exact ⟨hs1.out, hs2.out⟩)
          have HFl' := Lib.hid (show (F ++ [(Y, X)]).length = k + 1 by rw [List.length_append, hFl]; rfl)
          clear hFl
          generalize one (list (find F connN)) closeW = b8 at *
          generalize one (list (find F connN)) keepW = b9 at *
          by_cases hj2 : j < 2
          · rw [decide_eq_true hj2] at hN hP hpx
            have hne : ¬ Y = (⟨#[80, 114, 111, 120, 121, 45, 67, 111, 110, 110, 101, 99, 116, 105, 111, 110]⟩ : ByteArray) := of_decide_eq_false hpx.out
            have s1 : (Y.toList == (⟨#[80, 114, 111, 120, 121, 45, 67, 111, 110, 110, 101, 99, 116, 105, 111, 110]⟩ : ByteArray).toList) = false := by rw [ba_beq]; exact decide_eq_false hne
            have s2 : ¬ Y.toList = (⟨#[80, 114, 111, 120, 121, 45, 67, 111, 110, 110, 101, 99, 116, 105, 111, 110]⟩ : ByteArray).toList := fun h => hne ((toList_iff _ _).1 h)
            rw [proxy_list] at s1 s2
            clear hne hpx hj2
            rcases (by omega : m = 0 ∨ m = 1 ∨ m = 2 ∨ m = 3 ∨ m = 4 ∨ m = 5 ∨ m = 6 ∨ m = 7 ∨ m = 8 ∨ m = 9) with rfl | rfl | rfl | rfl | rfl | rfl | rfl | rfl | rfl | rfl
            all_goals (cases b8 <;> cases b9)
            · go_wp2
              go_roundw
              case rel => exact ⟨k + 1, F ++ [(Y, X)], .slice b2 (k + 1) c2, by omega, by go_num, HFl'.out, HFs', by rw [hN.out]; rfl, by rw [hP.out]; rfl, HA3, HO3, HR2, HB3⟩
              case measure => simp [intOf]; omega
            · go_wp2
              go_roundw
              case rel => exact ⟨k + 1, F ++ [(Y, X)], .slice b2 (k + 1) c2, by omega, by go_num, HFl'.out, HFs', by rw [hN.out]; rfl, by rw [hP.out]; rfl, HA3, HO3, HR2, HB3⟩
              case measure => simp [intOf]; omega
            · go_wp2
              go_roundw
              case rel => exact ⟨k + 1, F ++ [(Y, X)], .slice b2 (k + 1) c2, by omega, by go_num, HFl'.out, HFs', by rw [hN.out]; rfl, by rw [hP.out]; rfl, HA3, HO3, HR2, HB3⟩
              case measure => simp [intOf]; omega
            · go_wp2
              go_roundw
              case rel => exact ⟨k + 1, F ++ [(Y, X)], .slice b2 (k + 1) c2, by omega, by go_num, HFl'.out, HFs', by rw [hN.out]; rfl, by rw [hP.out]; rfl, HA3, HO3, HR2, HB3⟩
              case measure => simp [intOf]; omega
            · go_wp2
              go_roundw
              case rel => exact ⟨k + 1, F ++ [(Y, X)], .slice b2 (k + 1) c2, by omega, by go_num, HFl'.out, HFs', by rw [hN.out]; rfl, by rw [hP.out]; rfl, HA3, HO3, HR2, HB3⟩
              case measure => simp [intOf]; omega
            · go_wp2
              go_roundw
              case rel => exact ⟨k + 1, F ++ [(Y, X)], .slice b2 (k + 1) c2, by omega, by go_num, HFl'.out, HFs', by rw [hN.out]; rfl, by rw [hP.out]; rfl, HA3, HO3, HR2, HB3⟩
              case measure => simp [intOf]; omega
            · go_wp2
              go_roundw
              case rel => exact ⟨k + 1, F ++ [(Y, X)], .slice b2 (k + 1) c2, by omega, by go_num, HFl'.out, HFs', by rw [hN.out]; rfl, by rw [hP.out]; rfl, HA3, HO3, HR2, HB3⟩
              case measure => simp [intOf]; omega
            · go_wp2
              go_roundw
              case rel => exact ⟨k + 1, F ++ [(Y, X)], .slice b2 (k + 1) c2, by omega, by go_num, HFl'.out, HFs', by rw [hN.out]; rfl, by rw [hP.out]; rfl, HA3, HO3, HR2, HB3⟩
              case measure => simp [intOf]; omega
            · go_wp2
              go_roundw
              case rel => exact ⟨k + 1, F ++ [(Y, X)], .slice b2 (k + 1) c2, by omega, by go_num, HFl'.out, HFs', by rw [hN.out]; rfl, by rw [hP.out]; rfl, HA3, HO3, HR2, HB3⟩
              case measure => simp [intOf]; omega
            · go_wp2
              go_roundw
              case rel => exact ⟨k + 1, F ++ [(Y, X)], .slice b2 (k + 1) c2, by omega, by go_num, HFl'.out, HFs', by rw [hN.out]; rfl, by rw [hP.out]; rfl, HA3, HO3, HR2, HB3⟩
              case measure => simp [intOf]; omega
            · go_wp2
              go_roundw
              case rel => exact ⟨k + 1, F ++ [(Y, X)], .slice b2 (k + 1) c2, by omega, by go_num, HFl'.out, HFs', by rw [hN.out]; rfl, by rw [hP.out]; rfl, HA3, HO3, HR2, HB3⟩
              case measure => simp [intOf]; omega
            · go_wp2
              go_roundw
              case rel => exact ⟨k + 1, F ++ [(Y, X)], .slice b2 (k + 1) c2, by omega, by go_num, HFl'.out, HFs', by rw [hN.out]; rfl, by rw [hP.out]; rfl, HA3, HO3, HR2, HB3⟩
              case measure => simp [intOf]; omega
            · go_wp2
              go_roundw
              case rel => exact ⟨k + 1, F ++ [(Y, X)], .slice b2 (k + 1) c2, by omega, by go_num, HFl'.out, HFs', by rw [hN.out]; rfl, by rw [hP.out]; rfl, HA3, HO3, HR2, HB3⟩
              case measure => simp [intOf]; omega
            · go_wp2
              go_roundw
              case rel => exact ⟨k + 1, F ++ [(Y, X)], .slice b2 (k + 1) c2, by omega, by go_num, HFl'.out, HFs', by rw [hN.out]; rfl, by rw [hP.out]; rfl, HA3, HO3, HR2, HB3⟩
              case measure => simp [intOf]; omega
            · go_wp2
              go_roundw
              case rel => exact ⟨k + 1, F ++ [(Y, X)], .slice b2 (k + 1) c2, by omega, by go_num, HFl'.out, HFs', by rw [hN.out]; rfl, by rw [hP.out]; rfl, HA3, HO3, HR2, HB3⟩
              case measure => simp [intOf]; omega
            · go_wp2
              go_roundw
              case rel => exact ⟨k + 1, F ++ [(Y, X)], .slice b2 (k + 1) c2, by omega, by go_num, HFl'.out, HFs', by rw [hN.out]; rfl, by rw [hP.out]; rfl, HA3, HO3, HR2, HB3⟩
              case measure => simp [intOf]; omega
            · go_wp2
              go_roundw
              case rel => exact ⟨k + 1, F ++ [(Y, X)], .slice b2 (k + 1) c2, by omega, by go_num, HFl'.out, HFs', by rw [hN.out]; rfl, by rw [hP.out]; rfl, HA3, HO3, HR2, HB3⟩
              case measure => simp [intOf]; omega
            · go_wp2
              go_roundw
              case rel => exact ⟨k + 1, F ++ [(Y, X)], .slice b2 (k + 1) c2, by omega, by go_num, HFl'.out, HFs', by rw [hN.out]; rfl, by rw [hP.out]; rfl, HA3, HO3, HR2, HB3⟩
              case measure => simp [intOf]; omega
            · go_wp2
              go_roundw
              case rel => exact ⟨k + 1, F ++ [(Y, X)], .slice b2 (k + 1) c2, by omega, by go_num, HFl'.out, HFs', by rw [hN.out]; rfl, by rw [hP.out]; rfl, HA3, HO3, HR2, HB3⟩
              case measure => simp [intOf]; omega
            · go_wp2
              go_roundw
              case rel => exact ⟨k + 1, F ++ [(Y, X)], .slice b2 (k + 1) c2, by omega, by go_num, HFl'.out, HFs', by rw [hN.out]; rfl, by rw [hP.out]; rfl, HA3, HO3, HR2, HB3⟩
              case measure => simp [intOf]; omega
            · go_wp2
              go_roundw
              case rel => exact ⟨k + 1, F ++ [(Y, X)], .slice b2 (k + 1) c2, by omega, by go_num, HFl'.out, HFs', by rw [hN.out]; rfl, by rw [hP.out]; rfl, HA3, HO3, HR2, HB3⟩
              case measure => simp [intOf]; omega
            · go_wp2
              go_roundw
              case rel => exact ⟨k + 1, F ++ [(Y, X)], .slice b2 (k + 1) c2, by omega, by go_num, HFl'.out, HFs', by rw [hN.out]; rfl, by rw [hP.out]; rfl, HA3, HO3, HR2, HB3⟩
              case measure => simp [intOf]; omega
            · go_wp2
              go_roundw
              case rel => exact ⟨k + 1, F ++ [(Y, X)], .slice b2 (k + 1) c2, by omega, by go_num, HFl'.out, HFs', by rw [hN.out]; rfl, by rw [hP.out]; rfl, HA3, HO3, HR2, HB3⟩
              case measure => simp [intOf]; omega
            · go_wp2
              go_roundw
              case rel => exact ⟨k + 1, F ++ [(Y, X)], .slice b2 (k + 1) c2, by omega, by go_num, HFl'.out, HFs', by rw [hN.out]; rfl, by rw [hP.out]; rfl, HA3, HO3, HR2, HB3⟩
              case measure => simp [intOf]; omega
            · go_wp2
              go_roundw
              case rel => exact ⟨k + 1, F ++ [(Y, X)], .slice b2 (k + 1) c2, by omega, by go_num, HFl'.out, HFs', by rw [hN.out]; rfl, by rw [hP.out]; rfl, HA3, HO3, HR2, HB3⟩
              case measure => simp [intOf]; omega
            · go_wp2
              go_roundw
              case rel => exact ⟨k + 1, F ++ [(Y, X)], .slice b2 (k + 1) c2, by omega, by go_num, HFl'.out, HFs', by rw [hN.out]; rfl, by rw [hP.out]; rfl, HA3, HO3, HR2, HB3⟩
              case measure => simp [intOf]; omega
            · go_wp2
              go_roundw
              case rel => exact ⟨k + 1, F ++ [(Y, X)], .slice b2 (k + 1) c2, by omega, by go_num, HFl'.out, HFs', by rw [hN.out]; rfl, by rw [hP.out]; rfl, HA3, HO3, HR2, HB3⟩
              case measure => simp [intOf]; omega
            · go_wp2
              go_roundw
              case rel => exact ⟨k + 1, F ++ [(Y, X)], .slice b2 (k + 1) c2, by omega, by go_num, HFl'.out, HFs', by rw [hN.out]; rfl, by rw [hP.out]; rfl, HA3, HO3, HR2, HB3⟩
              case measure => simp [intOf]; omega
            · go_wp2
              go_roundw
              case rel => exact ⟨k + 1, F ++ [(Y, X)], .slice b2 (k + 1) c2, by omega, by go_num, HFl'.out, HFs', by rw [hN.out]; rfl, by rw [hP.out]; rfl, HA3, HO3, HR2, HB3⟩
              case measure => simp [intOf]; omega
            · go_wp2
              go_roundw
              case rel => exact ⟨k + 1, F ++ [(Y, X)], .slice b2 (k + 1) c2, by omega, by go_num, HFl'.out, HFs', by rw [hN.out]; rfl, by rw [hP.out]; rfl, HA3, HO3, HR2, HB3⟩
              case measure => simp [intOf]; omega
            · go_wp2
              go_roundw
              case rel => exact ⟨k + 1, F ++ [(Y, X)], .slice b2 (k + 1) c2, by omega, by go_num, HFl'.out, HFs', by rw [hN.out]; rfl, by rw [hP.out]; rfl, HA3, HO3, HR2, HB3⟩
              case measure => simp [intOf]; omega
            · go_wp2
              go_roundw
              case rel => exact ⟨k + 1, F ++ [(Y, X)], .slice b2 (k + 1) c2, by omega, by go_num, HFl'.out, HFs', by rw [hN.out]; rfl, by rw [hP.out]; rfl, HA3, HO3, HR2, HB3⟩
              case measure => simp [intOf]; omega
            · go_wp2
              go_roundw
              case rel => exact ⟨k + 1, F ++ [(Y, X)], .slice b2 (k + 1) c2, by omega, by go_num, HFl'.out, HFs', by rw [hN.out]; rfl, by rw [hP.out]; rfl, HA3, HO3, HR2, HB3⟩
              case measure => simp [intOf]; omega
            · go_wp2
              go_roundw
              case rel => exact ⟨k + 1, F ++ [(Y, X)], .slice b2 (k + 1) c2, by omega, by go_num, HFl'.out, HFs', by rw [hN.out]; rfl, by rw [hP.out]; rfl, HA3, HO3, HR2, HB3⟩
              case measure => simp [intOf]; omega
            · go_wp2
              go_roundw
              case rel => exact ⟨k + 1, F ++ [(Y, X)], .slice b2 (k + 1) c2, by omega, by go_num, HFl'.out, HFs', by rw [hN.out]; rfl, by rw [hP.out]; rfl, HA3, HO3, HR2, HB3⟩
              case measure => simp [intOf]; omega
            · go_wp2
              go_roundw
              case rel => exact ⟨k + 1, F ++ [(Y, X)], .slice b2 (k + 1) c2, by omega, by go_num, HFl'.out, HFs', by rw [hN.out]; rfl, by rw [hP.out]; rfl, HA3, HO3, HR2, HB3⟩
              case measure => simp [intOf]; omega
            · go_wp2
              go_roundw
              case rel => exact ⟨k + 1, F ++ [(Y, X)], .slice b2 (k + 1) c2, by omega, by go_num, HFl'.out, HFs', by rw [hN.out]; rfl, by rw [hP.out]; rfl, HA3, HO3, HR2, HB3⟩
              case measure => simp [intOf]; omega
            · go_wp2
              go_roundw
              case rel => exact ⟨k + 1, F ++ [(Y, X)], .slice b2 (k + 1) c2, by omega, by go_num, HFl'.out, HFs', by rw [hN.out]; rfl, by rw [hP.out]; rfl, HA3, HO3, HR2, HB3⟩
              case measure => simp [intOf]; omega
            · go_wp2
              go_roundw
              case rel => exact ⟨k + 1, F ++ [(Y, X)], .slice b2 (k + 1) c2, by omega, by go_num, HFl'.out, HFs', by rw [hN.out]; rfl, by rw [hP.out]; rfl, HA3, HO3, HR2, HB3⟩
              case measure => simp [intOf]; omega
            · go_wp2
              go_roundw
              case rel => exact ⟨k + 1, F ++ [(Y, X)], .slice b2 (k + 1) c2, by omega, by go_num, HFl'.out, HFs', by rw [hN.out]; rfl, by rw [hP.out]; rfl, HA3, HO3, HR2, HB3⟩
              case measure => simp [intOf]; omega
          · rw [decide_eq_false hj2] at hN hP hpx
            have heq : Y = (⟨#[80, 114, 111, 120, 121, 45, 67, 111, 110, 110, 101, 99, 116, 105, 111, 110]⟩ : ByteArray) := of_decide_eq_true hpx.out
            have s1 : (Y.toList == (⟨#[80, 114, 111, 120, 121, 45, 67, 111, 110, 110, 101, 99, 116, 105, 111, 110]⟩ : ByteArray).toList) = true := by rw [ba_beq]; exact decide_eq_true heq
            have s2 : Y.toList = (⟨#[80, 114, 111, 120, 121, 45, 67, 111, 110, 110, 101, 99, 116, 105, 111, 110]⟩ : ByteArray).toList := (toList_iff _ _).2 heq
            rw [proxy_list] at s1 s2
            clear heq hpx hj2
            go_wp2
            go_roundw
            case rel => exact ⟨k + 1, F ++ [(Y, X)], .slice b2 (k + 1) c2, by omega, by go_num, HFl'.out, HFs', by rw [hN.out, Bool.false_and, Bool.or_false], by rw [hP.out, Bool.false_and, Bool.or_false], HA3, HO3, HR2, HB3⟩
            case measure => simp [intOf]; omega
        · obtain rfl : k = l0 := by omega
          subst hFl
          obtain ⟨bv, cv, rfl⟩ := own_slice HOw.out
          obtain ⟨A9, c9, e9, h9⟩ := Flds.of_own HOw.out
          simp only [Value.slice.injEq, true_and] at e9
          obtain ⟨rfl, rfl⟩ := e9
          have HC := Lib.hid (closes_any (.agg #[.string ⟨#[71, 69, 84]⟩, .string ⟨#[47]⟩, .int .i64 0, .slice bv F.length cv, .bool false, .slice none 0 0, .slice none 0 0]) ⟨⟨#[71, 69, 84]⟩, ⟨#[47]⟩, 0, F, false, [], []⟩ wr ⟨_, _, none, 0, none, 0, rfl, h9, Nums.nil _ _ _, Flds.nil _ _⟩
            ⟨show (ByteArray.mk #[71, 69, 84]).size ≤ 1000000000 by decide, show (ByteArray.mk #[47]).size ≤ 1000000000 by decide, show F.length ≤ 10000 by omega, fun f hf => by have := HFs.out f hf; omega, Nat.zero_le _, Nat.zero_le _, fun f hf => by simp at hf⟩)
          have hcl : closes ⟨⟨#[71, 69, 84]⟩, ⟨#[47]⟩, 0, F, false, [], []⟩ = (one (list (find F connN)) closeW || (decide ((0 : Int) = 0) && !one (list (find F connN)) keepW)) := rfl
          rw [hcl] at HC
          have hB := HBk.out
          have q0 := hB.c 0 _ rfl; have q1 := hB.c 1 _ rfl; have q2 := hB.c 2 _ rfl; have q3 := hB.c 3 _ rfl; have q4 := hB.c 4 _ rfl; have q5 := hB.c 5 _ rfl; have q6 := hB.c 6 _ rfl
          clear hB hcl h9 HBk HOw HNe HFs
          generalize one (list (find F connN)) closeW = b8 at *
          generalize one (list (find F connN)) keepW = b9 at *
          cases b8 <;> cases b9
          all_goals
            go_wp2_with (go_at_call 14; with_reducible refine HC.out.mono ?_; rintro e w2 ⟨rfl, hb2⟩)
            go_ret
            exact ⟨rfl, Base.below_step hbr.out hb2⟩
    | false =>
      go_enter Tryd.func4, Tryd.ntmps4
      go_wp2_with (go_at_call 6; with_reducible refine (HK.out _).mono ?_; rintro e w1 ⟨rfl, hb1⟩
                   have HB1 := Lib.hid hb1; clear hb1)
      have HB2 := Lib.hid (HB1.out.alloc HB1.out.size (.cells #[.string ⟨#[71, 69, 84]⟩, .string ⟨#[47]⟩, .int .i64 1, .slice none 0 0, .bool false, .slice none 0 0, .slice none 0 0] 25))
      have HA := Lib.hid (Bk.new w1 w1.heap.size rfl 25 [.string ⟨#[71, 69, 84]⟩, .string ⟨#[47]⟩, .int .i64 1, .slice none 0 0, .bool false, .slice none 0 0, .slice none 0 0])
      have HG := Lib.hid (show W.heap.size ≤ w1.heap.size from HB1.out.size)
      have HGl := Lib.hid (show w1.heap.size < (w1.alloc (.cells #[.string ⟨#[71, 69, 84]⟩, .string ⟨#[47]⟩, .int .i64 1, .slice none 0 0, .bool false, .slice none 0 0, .slice none 0 0] 25)).heap.size by simp)
      generalize w1.alloc (.cells #[.string ⟨#[71, 69, 84]⟩, .string ⟨#[47]⟩, .int .i64 1, .slice none 0 0, .bool false, .slice none 0 0, .slice none 0 0] 25) = W1 at *
      generalize w1.heap.size = g at *
      go_loopw [8, 9, 10] (fun c8 c9 i wr => ∃ (k : Nat) (F : List Fld) (v : Value), k ≤ l0 ∧ i = .int .i64 k ∧ F.length = k ∧ Hid (∀ f ∈ F, f.1.size ≤ 1000 ∧ f.2.size ≤ 1000) ∧ c8 = .bool (one (list (find F connN)) closeW) ∧ c9 = .bool (one (list (find F connN)) keepW) ∧
        Hid (Bk wr g [.string ⟨#[71, 69, 84]⟩, .string ⟨#[47]⟩, .int .i64 1, v, .bool false, .slice none 0 0, .slice none 0 0]) ∧ Hid (wr.ownsRow W.heap.size 31 2 v k (cells F)) ∧ Hid (∀ q, v.ownBlock = some q → g < q) ∧ Hid (Below W.heap.size W wr)) (fun _ _ i _ => l0 - (intOf i).toNat)
      case atStart => exact ⟨0, [], .slice none 0 0, Nat.zero_le _, rfl, rfl, Lib.hid (by simp), rfl, rfl, HA, Lib.hid (World.ownsRow_nil _ _ _ _), Lib.hid (by simp [Value.ownBlock]), HB2⟩
      case round =>
        obtain ⟨k, F, v, hk, rfl, hFl, HFs, rfl, rfl, HBk, HOw, HNe, hbr⟩ := hrel
        rcases Nat.lt_or_ge k l0 with hlt | hge
        · obtain ⟨bl, off, rfl, hbl0, hc⟩ := HV.out.2 (by omega)
          have HCK := Lib.hid (fun w' (hb : Below W.heap.size W w') => (hb.cell (p := ⟨bl, off + k, none⟩) hbl0).trans (hc k hlt))
          have hbl := Nat.lt_of_lt_of_le hbl0 hbr.out.size
          have hz : 0 ≤ n0[k]?.getD 0 ∧ n0[k]?.getD 0 ≤ 255 := by
            have : k < n0.length := by rw [HL.out]; exact hlt
            rw [List.getElem?_eq_getElem this]
            exact bounds_u8 (HW.out _ (List.getElem_mem this))
          clear hc
          generalize n0[k]?.getD 0 = z at *
          have hck := HCK.out wr hbr.out
          obtain ⟨m, hm, hM⟩ : ∃ m : Nat, m < 10 ∧ Int.tmod z 10 = (m : Int) := ⟨z.toNat % 10, Nat.mod_lt _ (by decide), by rw [Int.tmod_eq_emod_of_nonneg hz.1]; omega⟩
          obtain ⟨D, hD, hD0, hD1⟩ : ∃ D : Int, Int.tdiv z 10 = D ∧ D % 256 = D ∧ 0 ≤ D := ⟨_, rfl, by rw [Int.tdiv_eq_ediv_of_nonneg hz.1]; omega, Int.tdiv_nonneg hz.1 (by decide)⟩
          obtain ⟨E, hE, hE1⟩ : ∃ E : Int, (D + a2) % 256 = E ∧ 0 ≤ E := ⟨_, rfl, by omega⟩
          obtain ⟨j, hj, hJ, hJ2⟩ : ∃ j : Nat, j < 3 ∧ Int.tmod E 3 = (j : Int) ∧ E % 3 = (j : Int) := ⟨E.toNat % 3, Nat.mod_lt _ (by decide), by rw [Int.tmod_eq_emod_of_nonneg hE1]; omega, by omega⟩
          have hx := (Bk.new wr wr.heap.size rfl 9 [.string ⟨#[99, 108, 111, 115, 101]⟩, .string ⟨#[67, 76, 79, 83, 69]⟩, .string ⟨#[107, 101, 101, 112, 45, 97, 108, 105, 118, 101]⟩, .string ⟨#[75, 101, 101, 112, 45, 65, 108, 105, 118, 101]⟩, .string ⟨#[120]⟩, .string ⟨#[120, 99, 108, 111, 115, 101]⟩, .string ⟨#[97, 44, 32, 99, 108, 111, 115, 101]⟩, .string ⟨#[99, 108, 111, 115, 101, 44, 98]⟩, .string ⟨#[107, 101, 101, 112, 45, 97, 108, 105, 118, 101, 32, 44, 120]⟩, .string ⟨#[99, 108, 111, 115, 101, 32, 120]⟩]).c m (.string (vl m)) (by
            have : ∀ m : Fin 10, ([.string ⟨#[99, 108, 111, 115, 101]⟩, .string ⟨#[67, 76, 79, 83, 69]⟩, .string ⟨#[107, 101, 101, 112, 45, 97, 108, 105, 118, 101]⟩, .string ⟨#[75, 101, 101, 112, 45, 65, 108, 105, 118, 101]⟩, .string ⟨#[120]⟩, .string ⟨#[120, 99, 108, 111, 115, 101]⟩, .string ⟨#[97, 44, 32, 99, 108, 111, 115, 101]⟩, .string ⟨#[99, 108, 111, 115, 101, 44, 98]⟩, .string ⟨#[107, 101, 101, 112, 45, 97, 108, 105, 118, 101, 32, 44, 120]⟩, .string ⟨#[99, 108, 111, 115, 101, 32, 120]⟩] : List Value)[m.val]? = some (.string (vl m.val)) := by
              intro m
              rcases m with ⟨m, hm⟩
              match m, hm with
              | 0, _ | 1, _ | 2, _ | 3, _ | 4, _ | 5, _ | 6, _ | 7, _ | 8, _ | 9, _ => rfl
            exact this ⟨m, hm⟩)
          have hy := (Bk.new (wr.alloc (.cells #[.string ⟨#[99, 108, 111, 115, 101]⟩, .string ⟨#[67, 76, 79, 83, 69]⟩, .string ⟨#[107, 101, 101, 112, 45, 97, 108, 105, 118, 101]⟩, .string ⟨#[75, 101, 101, 112, 45, 65, 108, 105, 118, 101]⟩, .string ⟨#[120]⟩, .string ⟨#[120, 99, 108, 111, 115, 101]⟩, .string ⟨#[97, 44, 32, 99, 108, 111, 115, 101]⟩, .string ⟨#[99, 108, 111, 115, 101, 44, 98]⟩, .string ⟨#[107, 101, 101, 112, 45, 97, 108, 105, 118, 101, 32, 44, 120]⟩, .string ⟨#[99, 108, 111, 115, 101, 32, 120]⟩] 9)) (wr.heap.size + 1) (by simp) 9 [.string ⟨#[67, 111, 110, 110, 101, 99, 116, 105, 111, 110]⟩, .string ⟨#[99, 111, 110, 110, 101, 99, 116, 105, 111, 110]⟩, .string ⟨#[80, 114, 111, 120, 121, 45, 67, 111, 110, 110, 101, 99, 116, 105, 111, 110]⟩]).c j (.string (nm j)) (by
            match j, hj with
            | 0, _ | 1, _ | 2, _ => rfl)
          have hN := Lib.hid (step_close F j m hj hm)
          have hP := Lib.hid (step_keep F j m hj hm)
          have hs1 := Lib.hid (nm_size ⟨j, hj⟩); have hs2 := Lib.hid (vl_size ⟨m, hm⟩)
          have hpx := Lib.hid (nm_proxy ⟨j, hj⟩)
          generalize vl m = X at *
          generalize nm j = Y at *
          have q0 := HBk.out.c 3 _ rfl
          have hgl := HBk.out.lt
          have i1 : (k : Int) < (l0 : Int) := by omega
          clear hz hD1 hE1
          go_upto_region 14 with fail
          have HW2 := Lib.hid ((((Below.refl _ _).alloc (Nat.le_refl _) (.cells #[.string ⟨#[99, 108, 111, 115, 101]⟩, .string ⟨#[67, 76, 79, 83, 69]⟩, .string ⟨#[107, 101, 101, 112, 45, 97, 108, 105, 118, 101]⟩, .string ⟨#[75, 101, 101, 112, 45, 65, 108, 105, 118, 101]⟩, .string ⟨#[120]⟩, .string ⟨#[120, 99, 108, 111, 115, 101]⟩, .string ⟨#[97, 44, 32, 99, 108, 111, 115, 101]⟩, .string ⟨#[99, 108, 111, 115, 101, 44, 98]⟩, .string ⟨#[107, 101, 101, 112, 45, 97, 108, 105, 118, 101, 32, 44, 120]⟩, .string ⟨#[99, 108, 111, 115, 101, 32, 120]⟩] 9)).alloc (by simp) (.cells #[.string ⟨#[67, 111, 110, 110, 101, 99, 116, 105, 111, 110]⟩, .string ⟨#[99, 111, 110, 110, 101, 99, 116, 105, 111, 110]⟩, .string ⟨#[80, 114, 111, 120, 121, 45, 67, 111, 110, 110, 101, 99, 116, 105, 111, 110]⟩] 9)).alloc (by simp; omega) (.cells #[.string Y, .string X] 31) : Below wr.heap.size wr _)
          have HFb := Lib.hid (Bk.new ((wr.alloc (.cells #[.string ⟨#[99, 108, 111, 115, 101]⟩, .string ⟨#[67, 76, 79, 83, 69]⟩, .string ⟨#[107, 101, 101, 112, 45, 97, 108, 105, 118, 101]⟩, .string ⟨#[75, 101, 101, 112, 45, 65, 108, 105, 118, 101]⟩, .string ⟨#[120]⟩, .string ⟨#[120, 99, 108, 111, 115, 101]⟩, .string ⟨#[97, 44, 32, 99, 108, 111, 115, 101]⟩, .string ⟨#[99, 108, 111, 115, 101, 44, 98]⟩, .string ⟨#[107, 101, 101, 112, 45, 97, 108, 105, 118, 101, 32, 44, 120]⟩, .string ⟨#[99, 108, 111, 115, 101, 32, 120]⟩] 9)).alloc (.cells #[.string ⟨#[67, 111, 110, 110, 101, 99, 116, 105, 111, 110]⟩, .string ⟨#[99, 111, 110, 110, 101, 99, 116, 105, 111, 110]⟩, .string ⟨#[80, 114, 111, 120, 121, 45, 67, 111, 110, 110, 101, 99, 116, 105, 111, 110]⟩] 9)) (wr.heap.size + 1 + 1) (by simp) 31 [.string Y, .string X])
          have hgf := Lib.hid (show g < wr.heap.size + 1 + 1 by omega)
          have hfw := Lib.hid (show wr.heap.size ≤ wr.heap.size + 1 + 1 by omega)
          clear hx hy q0 hgl hck hbl hD hD0 hE hJ hJ2
          generalize ((wr.alloc (.cells #[.string ⟨#[99, 108, 111, 115, 101]⟩, .string ⟨#[67, 76, 79, 83, 69]⟩, .string ⟨#[107, 101, 101, 112, 45, 97, 108, 105, 118, 101]⟩, .string ⟨#[75, 101, 101, 112, 45, 65, 108, 105, 118, 101]⟩, .string ⟨#[120]⟩, .string ⟨#[120, 99, 108, 111, 115, 101]⟩, .string ⟨#[97, 44, 32, 99, 108, 111, 115, 101]⟩, .string ⟨#[99, 108, 111, 115, 101, 44, 98]⟩, .string ⟨#[107, 101, 101, 112, 45, 97, 108, 105, 118, 101, 32, 44, 120]⟩, .string ⟨#[99, 108, 111, 115, 101, 32, 120]⟩] 9)).alloc (.cells #[.string ⟨#[67, 111, 110, 110, 101, 99, 116, 105, 111, 110]⟩, .string ⟨#[99, 111, 110, 110, 101, 99, 116, 105, 111, 110]⟩, .string ⟨#[80, 114, 111, 120, 121, 45, 67, 111, 110, 110, 101, 99, 116, 105, 111, 110]⟩] 9)).alloc (.cells #[.string Y, .string X] 31) = W2 at *
          generalize wr.heap.size + 1 + 1 = fb at *
          have HBk2 := Lib.hid (HBk.out.below HW2.out)
          have HOw2 := Lib.hid (own_below HOw.out HW2.out)
          have hb2 := Lib.hid (Base.below_step hbr.out HW2.out)
          have q3 := HBk2.out.c 3 _ rfl
          have z3 := HBk2.out.z 3 (by simp)
          have y0 := HFb.out.c 0 _ rfl; have y1 := HFb.out.c 1 _ rfl
          go_upto_region 15 with
            (at_builtin; refine App.wpList_append_list _ rfl _ _ 22 rfl W.heap.size 31 iF (.agg #[.string ByteArray.empty, .string ByteArray.empty]) 2 32 Tryd.underlying22 G1.out G2.out G3.out G4.out rfl (by decide) v k (cells F) rfl (HOw2.out.alloc (.cells #[.string Y, .string X] 31)) (some ⟨W2.heap.size, 0, none⟩) 1 1 [.string Y, .string X] rfl rfl (lit_lie W2 W2.heap.size rfl 31 [.string Y, .string X] 1) (by intro u hu; rcases (by simpa using hu : u = .string Y ∨ u = .string X) with rfl | rfl <;> rfl) (by unfold maxLen; omega) (by omega) (by have := hb2.out.size; simp; omega) ?_
             intro v2 w2 hO2 hgr2 _ hor2
             obtain ⟨b2, c2, rfl⟩ := own_slice hO2
             have hO2' : w2.ownsRow W.heap.size 31 2 (.slice b2 (k + 1) c2) (k + 1) (cells (F ++ [(Y, X)])) := by rw [cells_append]; exact hO2
             have HO2 := Lib.hid hO2'
             have hrow : ∀ q, v.ownBlock = some q → g < q := HNe.out
             have HA2 := Lib.hid ((HBk2.out.alloc (.cells #[.string Y, .string X] 31)).grown hgr2 (fun e => by have := hrow _ e.symm; omega))
             have HF2 := Lib.hid ((HFb.out.alloc (.cells #[.string Y, .string X] 31)).grown hgr2 (fun e => by have := own_lt HOw.out _ e.symm; have := hfw.out; omega))
             have HB2' := Lib.hid ((hb2.out.alloc hb2.out.size (.cells #[.string Y, .string X] 31)).grown hgr2 (by have := hb2.out.size; simp; omega) (fun q e => own_base HOw2.out q e))
             have HR2 := Lib.hid (show ∀ q, (Value.slice b2 (k + 1) c2).ownBlock = some q → g < q from fun q e => by
               have := HBk2.out.lt
               rcases hor2 with h | h
               · rw [h] at e; exact hrow q e
               · rw [h] at e; cases e; simp; omega)
             have qx := HA2.out.c 3 _ rfl; have zx := HA2.out.z 3 (by simp)
             clear hO2 hO2' hgr2 hor2 hrow q3 z3 y0 y1)
          clear qx zx
          have HA3 := Lib.hid (HA2.out.set 3 (.slice b2 (k + 1) c2) (by simp))
          have hy3 := (HF2.out.other g 3 (.slice b2 (k + 1) c2) (by have := hgf.out; omega)).c 0 _ rfl
          have HO3 := Lib.hid (ownsRow_setCell_other HO2.out (a := ⟨g, 3, none⟩) (fun e => by have := HR2.out _ e; simp only at this; omega) (.slice b2 (k + 1) c2))
          have HB3 := Lib.hid (show Below W.heap.size W (w2.setCell ⟨g, 3, none⟩ (.slice b2 (k + 1) c2)) from HB2'.out.setCell HG.out _)
          generalize w2.setCell ⟨g, 3, none⟩ (.slice b2 (k + 1) c2) = W3 at *
          have hck := HCK.out W3 HB3.out
          have HFs' := Lib.hid (show ∀ f ∈ F ++ [(Y, X)], f.1.size ≤ 1000 ∧ f.2.size ≤ 1000 from fun f hf => by
            rcases List.mem_append.1 hf with h | h
            · exact HFs.out f h
            · obtain rfl : f = (Y, X) := (by simpa using h)
              exact ⟨hs1.out, hs2.out⟩)
          have HFl' := Lib.hid (show (F ++ [(Y, X)]).length = k + 1 by rw [List.length_append, hFl]; rfl)
          clear hFl
          generalize one (list (find F connN)) closeW = b8 at *
          generalize one (list (find F connN)) keepW = b9 at *
          by_cases hj2 : j < 2
          · rw [decide_eq_true hj2] at hN hP hpx
            have hne : ¬ Y = (⟨#[80, 114, 111, 120, 121, 45, 67, 111, 110, 110, 101, 99, 116, 105, 111, 110]⟩ : ByteArray) := of_decide_eq_false hpx.out
            have s1 : (Y.toList == (⟨#[80, 114, 111, 120, 121, 45, 67, 111, 110, 110, 101, 99, 116, 105, 111, 110]⟩ : ByteArray).toList) = false := by rw [ba_beq]; exact decide_eq_false hne
            have s2 : ¬ Y.toList = (⟨#[80, 114, 111, 120, 121, 45, 67, 111, 110, 110, 101, 99, 116, 105, 111, 110]⟩ : ByteArray).toList := fun h => hne ((toList_iff _ _).1 h)
            rw [proxy_list] at s1 s2
            clear hne hpx hj2
            rcases (by omega : m = 0 ∨ m = 1 ∨ m = 2 ∨ m = 3 ∨ m = 4 ∨ m = 5 ∨ m = 6 ∨ m = 7 ∨ m = 8 ∨ m = 9) with rfl | rfl | rfl | rfl | rfl | rfl | rfl | rfl | rfl | rfl
            all_goals (cases b8 <;> cases b9)
            · go_wp2
              go_roundw
              case rel => exact ⟨k + 1, F ++ [(Y, X)], .slice b2 (k + 1) c2, by omega, by go_num, HFl'.out, HFs', by rw [hN.out]; rfl, by rw [hP.out]; rfl, HA3, HO3, HR2, HB3⟩
              case measure => simp [intOf]; omega
            · go_wp2
              go_roundw
              case rel => exact ⟨k + 1, F ++ [(Y, X)], .slice b2 (k + 1) c2, by omega, by go_num, HFl'.out, HFs', by rw [hN.out]; rfl, by rw [hP.out]; rfl, HA3, HO3, HR2, HB3⟩
              case measure => simp [intOf]; omega
            · go_wp2
              go_roundw
              case rel => exact ⟨k + 1, F ++ [(Y, X)], .slice b2 (k + 1) c2, by omega, by go_num, HFl'.out, HFs', by rw [hN.out]; rfl, by rw [hP.out]; rfl, HA3, HO3, HR2, HB3⟩
              case measure => simp [intOf]; omega
            · go_wp2
              go_roundw
              case rel => exact ⟨k + 1, F ++ [(Y, X)], .slice b2 (k + 1) c2, by omega, by go_num, HFl'.out, HFs', by rw [hN.out]; rfl, by rw [hP.out]; rfl, HA3, HO3, HR2, HB3⟩
              case measure => simp [intOf]; omega
            · go_wp2
              go_roundw
              case rel => exact ⟨k + 1, F ++ [(Y, X)], .slice b2 (k + 1) c2, by omega, by go_num, HFl'.out, HFs', by rw [hN.out]; rfl, by rw [hP.out]; rfl, HA3, HO3, HR2, HB3⟩
              case measure => simp [intOf]; omega
            · go_wp2
              go_roundw
              case rel => exact ⟨k + 1, F ++ [(Y, X)], .slice b2 (k + 1) c2, by omega, by go_num, HFl'.out, HFs', by rw [hN.out]; rfl, by rw [hP.out]; rfl, HA3, HO3, HR2, HB3⟩
              case measure => simp [intOf]; omega
            · go_wp2
              go_roundw
              case rel => exact ⟨k + 1, F ++ [(Y, X)], .slice b2 (k + 1) c2, by omega, by go_num, HFl'.out, HFs', by rw [hN.out]; rfl, by rw [hP.out]; rfl, HA3, HO3, HR2, HB3⟩
              case measure => simp [intOf]; omega
            · go_wp2
              go_roundw
              case rel => exact ⟨k + 1, F ++ [(Y, X)], .slice b2 (k + 1) c2, by omega, by go_num, HFl'.out, HFs', by rw [hN.out]; rfl, by rw [hP.out]; rfl, HA3, HO3, HR2, HB3⟩
              case measure => simp [intOf]; omega
            · go_wp2
              go_roundw
              case rel => exact ⟨k + 1, F ++ [(Y, X)], .slice b2 (k + 1) c2, by omega, by go_num, HFl'.out, HFs', by rw [hN.out]; rfl, by rw [hP.out]; rfl, HA3, HO3, HR2, HB3⟩
              case measure => simp [intOf]; omega
            · go_wp2
              go_roundw
              case rel => exact ⟨k + 1, F ++ [(Y, X)], .slice b2 (k + 1) c2, by omega, by go_num, HFl'.out, HFs', by rw [hN.out]; rfl, by rw [hP.out]; rfl, HA3, HO3, HR2, HB3⟩
              case measure => simp [intOf]; omega
            · go_wp2
              go_roundw
              case rel => exact ⟨k + 1, F ++ [(Y, X)], .slice b2 (k + 1) c2, by omega, by go_num, HFl'.out, HFs', by rw [hN.out]; rfl, by rw [hP.out]; rfl, HA3, HO3, HR2, HB3⟩
              case measure => simp [intOf]; omega
            · go_wp2
              go_roundw
              case rel => exact ⟨k + 1, F ++ [(Y, X)], .slice b2 (k + 1) c2, by omega, by go_num, HFl'.out, HFs', by rw [hN.out]; rfl, by rw [hP.out]; rfl, HA3, HO3, HR2, HB3⟩
              case measure => simp [intOf]; omega
            · go_wp2
              go_roundw
              case rel => exact ⟨k + 1, F ++ [(Y, X)], .slice b2 (k + 1) c2, by omega, by go_num, HFl'.out, HFs', by rw [hN.out]; rfl, by rw [hP.out]; rfl, HA3, HO3, HR2, HB3⟩
              case measure => simp [intOf]; omega
            · go_wp2
              go_roundw
              case rel => exact ⟨k + 1, F ++ [(Y, X)], .slice b2 (k + 1) c2, by omega, by go_num, HFl'.out, HFs', by rw [hN.out]; rfl, by rw [hP.out]; rfl, HA3, HO3, HR2, HB3⟩
              case measure => simp [intOf]; omega
            · go_wp2
              go_roundw
              case rel => exact ⟨k + 1, F ++ [(Y, X)], .slice b2 (k + 1) c2, by omega, by go_num, HFl'.out, HFs', by rw [hN.out]; rfl, by rw [hP.out]; rfl, HA3, HO3, HR2, HB3⟩
              case measure => simp [intOf]; omega
            · go_wp2
              go_roundw
              case rel => exact ⟨k + 1, F ++ [(Y, X)], .slice b2 (k + 1) c2, by omega, by go_num, HFl'.out, HFs', by rw [hN.out]; rfl, by rw [hP.out]; rfl, HA3, HO3, HR2, HB3⟩
              case measure => simp [intOf]; omega
            · go_wp2
              go_roundw
              case rel => exact ⟨k + 1, F ++ [(Y, X)], .slice b2 (k + 1) c2, by omega, by go_num, HFl'.out, HFs', by rw [hN.out]; rfl, by rw [hP.out]; rfl, HA3, HO3, HR2, HB3⟩
              case measure => simp [intOf]; omega
            · go_wp2
              go_roundw
              case rel => exact ⟨k + 1, F ++ [(Y, X)], .slice b2 (k + 1) c2, by omega, by go_num, HFl'.out, HFs', by rw [hN.out]; rfl, by rw [hP.out]; rfl, HA3, HO3, HR2, HB3⟩
              case measure => simp [intOf]; omega
            · go_wp2
              go_roundw
              case rel => exact ⟨k + 1, F ++ [(Y, X)], .slice b2 (k + 1) c2, by omega, by go_num, HFl'.out, HFs', by rw [hN.out]; rfl, by rw [hP.out]; rfl, HA3, HO3, HR2, HB3⟩
              case measure => simp [intOf]; omega
            · go_wp2
              go_roundw
              case rel => exact ⟨k + 1, F ++ [(Y, X)], .slice b2 (k + 1) c2, by omega, by go_num, HFl'.out, HFs', by rw [hN.out]; rfl, by rw [hP.out]; rfl, HA3, HO3, HR2, HB3⟩
              case measure => simp [intOf]; omega
            · go_wp2
              go_roundw
              case rel => exact ⟨k + 1, F ++ [(Y, X)], .slice b2 (k + 1) c2, by omega, by go_num, HFl'.out, HFs', by rw [hN.out]; rfl, by rw [hP.out]; rfl, HA3, HO3, HR2, HB3⟩
              case measure => simp [intOf]; omega
            · go_wp2
              go_roundw
              case rel => exact ⟨k + 1, F ++ [(Y, X)], .slice b2 (k + 1) c2, by omega, by go_num, HFl'.out, HFs', by rw [hN.out]; rfl, by rw [hP.out]; rfl, HA3, HO3, HR2, HB3⟩
              case measure => simp [intOf]; omega
            · go_wp2
              go_roundw
              case rel => exact ⟨k + 1, F ++ [(Y, X)], .slice b2 (k + 1) c2, by omega, by go_num, HFl'.out, HFs', by rw [hN.out]; rfl, by rw [hP.out]; rfl, HA3, HO3, HR2, HB3⟩
              case measure => simp [intOf]; omega
            · go_wp2
              go_roundw
              case rel => exact ⟨k + 1, F ++ [(Y, X)], .slice b2 (k + 1) c2, by omega, by go_num, HFl'.out, HFs', by rw [hN.out]; rfl, by rw [hP.out]; rfl, HA3, HO3, HR2, HB3⟩
              case measure => simp [intOf]; omega
            · go_wp2
              go_roundw
              case rel => exact ⟨k + 1, F ++ [(Y, X)], .slice b2 (k + 1) c2, by omega, by go_num, HFl'.out, HFs', by rw [hN.out]; rfl, by rw [hP.out]; rfl, HA3, HO3, HR2, HB3⟩
              case measure => simp [intOf]; omega
            · go_wp2
              go_roundw
              case rel => exact ⟨k + 1, F ++ [(Y, X)], .slice b2 (k + 1) c2, by omega, by go_num, HFl'.out, HFs', by rw [hN.out]; rfl, by rw [hP.out]; rfl, HA3, HO3, HR2, HB3⟩
              case measure => simp [intOf]; omega
            · go_wp2
              go_roundw
              case rel => exact ⟨k + 1, F ++ [(Y, X)], .slice b2 (k + 1) c2, by omega, by go_num, HFl'.out, HFs', by rw [hN.out]; rfl, by rw [hP.out]; rfl, HA3, HO3, HR2, HB3⟩
              case measure => simp [intOf]; omega
            · go_wp2
              go_roundw
              case rel => exact ⟨k + 1, F ++ [(Y, X)], .slice b2 (k + 1) c2, by omega, by go_num, HFl'.out, HFs', by rw [hN.out]; rfl, by rw [hP.out]; rfl, HA3, HO3, HR2, HB3⟩
              case measure => simp [intOf]; omega
            · go_wp2
              go_roundw
              case rel => exact ⟨k + 1, F ++ [(Y, X)], .slice b2 (k + 1) c2, by omega, by go_num, HFl'.out, HFs', by rw [hN.out]; rfl, by rw [hP.out]; rfl, HA3, HO3, HR2, HB3⟩
              case measure => simp [intOf]; omega
            · go_wp2
              go_roundw
              case rel => exact ⟨k + 1, F ++ [(Y, X)], .slice b2 (k + 1) c2, by omega, by go_num, HFl'.out, HFs', by rw [hN.out]; rfl, by rw [hP.out]; rfl, HA3, HO3, HR2, HB3⟩
              case measure => simp [intOf]; omega
            · go_wp2
              go_roundw
              case rel => exact ⟨k + 1, F ++ [(Y, X)], .slice b2 (k + 1) c2, by omega, by go_num, HFl'.out, HFs', by rw [hN.out]; rfl, by rw [hP.out]; rfl, HA3, HO3, HR2, HB3⟩
              case measure => simp [intOf]; omega
            · go_wp2
              go_roundw
              case rel => exact ⟨k + 1, F ++ [(Y, X)], .slice b2 (k + 1) c2, by omega, by go_num, HFl'.out, HFs', by rw [hN.out]; rfl, by rw [hP.out]; rfl, HA3, HO3, HR2, HB3⟩
              case measure => simp [intOf]; omega
            · go_wp2
              go_roundw
              case rel => exact ⟨k + 1, F ++ [(Y, X)], .slice b2 (k + 1) c2, by omega, by go_num, HFl'.out, HFs', by rw [hN.out]; rfl, by rw [hP.out]; rfl, HA3, HO3, HR2, HB3⟩
              case measure => simp [intOf]; omega
            · go_wp2
              go_roundw
              case rel => exact ⟨k + 1, F ++ [(Y, X)], .slice b2 (k + 1) c2, by omega, by go_num, HFl'.out, HFs', by rw [hN.out]; rfl, by rw [hP.out]; rfl, HA3, HO3, HR2, HB3⟩
              case measure => simp [intOf]; omega
            · go_wp2
              go_roundw
              case rel => exact ⟨k + 1, F ++ [(Y, X)], .slice b2 (k + 1) c2, by omega, by go_num, HFl'.out, HFs', by rw [hN.out]; rfl, by rw [hP.out]; rfl, HA3, HO3, HR2, HB3⟩
              case measure => simp [intOf]; omega
            · go_wp2
              go_roundw
              case rel => exact ⟨k + 1, F ++ [(Y, X)], .slice b2 (k + 1) c2, by omega, by go_num, HFl'.out, HFs', by rw [hN.out]; rfl, by rw [hP.out]; rfl, HA3, HO3, HR2, HB3⟩
              case measure => simp [intOf]; omega
            · go_wp2
              go_roundw
              case rel => exact ⟨k + 1, F ++ [(Y, X)], .slice b2 (k + 1) c2, by omega, by go_num, HFl'.out, HFs', by rw [hN.out]; rfl, by rw [hP.out]; rfl, HA3, HO3, HR2, HB3⟩
              case measure => simp [intOf]; omega
            · go_wp2
              go_roundw
              case rel => exact ⟨k + 1, F ++ [(Y, X)], .slice b2 (k + 1) c2, by omega, by go_num, HFl'.out, HFs', by rw [hN.out]; rfl, by rw [hP.out]; rfl, HA3, HO3, HR2, HB3⟩
              case measure => simp [intOf]; omega
            · go_wp2
              go_roundw
              case rel => exact ⟨k + 1, F ++ [(Y, X)], .slice b2 (k + 1) c2, by omega, by go_num, HFl'.out, HFs', by rw [hN.out]; rfl, by rw [hP.out]; rfl, HA3, HO3, HR2, HB3⟩
              case measure => simp [intOf]; omega
            · go_wp2
              go_roundw
              case rel => exact ⟨k + 1, F ++ [(Y, X)], .slice b2 (k + 1) c2, by omega, by go_num, HFl'.out, HFs', by rw [hN.out]; rfl, by rw [hP.out]; rfl, HA3, HO3, HR2, HB3⟩
              case measure => simp [intOf]; omega
          · rw [decide_eq_false hj2] at hN hP hpx
            have heq : Y = (⟨#[80, 114, 111, 120, 121, 45, 67, 111, 110, 110, 101, 99, 116, 105, 111, 110]⟩ : ByteArray) := of_decide_eq_true hpx.out
            have s1 : (Y.toList == (⟨#[80, 114, 111, 120, 121, 45, 67, 111, 110, 110, 101, 99, 116, 105, 111, 110]⟩ : ByteArray).toList) = true := by rw [ba_beq]; exact decide_eq_true heq
            have s2 : Y.toList = (⟨#[80, 114, 111, 120, 121, 45, 67, 111, 110, 110, 101, 99, 116, 105, 111, 110]⟩ : ByteArray).toList := (toList_iff _ _).2 heq
            rw [proxy_list] at s1 s2
            clear heq hpx hj2
            go_wp2
            go_roundw
            case rel => exact ⟨k + 1, F ++ [(Y, X)], .slice b2 (k + 1) c2, by omega, by go_num, HFl'.out, HFs', by rw [hN.out, Bool.false_and, Bool.or_false], by rw [hP.out, Bool.false_and, Bool.or_false], HA3, HO3, HR2, HB3⟩
            case measure => simp [intOf]; omega
        · obtain rfl : k = l0 := by omega
          subst hFl
          obtain ⟨bv, cv, rfl⟩ := own_slice HOw.out
          obtain ⟨A9, c9, e9, h9⟩ := Flds.of_own HOw.out
          simp only [Value.slice.injEq, true_and] at e9
          obtain ⟨rfl, rfl⟩ := e9
          have HC := Lib.hid (closes_any (.agg #[.string ⟨#[71, 69, 84]⟩, .string ⟨#[47]⟩, .int .i64 1, .slice bv F.length cv, .bool false, .slice none 0 0, .slice none 0 0]) ⟨⟨#[71, 69, 84]⟩, ⟨#[47]⟩, 1, F, false, [], []⟩ wr ⟨_, _, none, 0, none, 0, rfl, h9, Nums.nil _ _ _, Flds.nil _ _⟩
            ⟨show (ByteArray.mk #[71, 69, 84]).size ≤ 1000000000 by decide, show (ByteArray.mk #[47]).size ≤ 1000000000 by decide, show F.length ≤ 10000 by omega, fun f hf => by have := HFs.out f hf; omega, Nat.zero_le _, Nat.zero_le _, fun f hf => by simp at hf⟩)
          have hcl : closes ⟨⟨#[71, 69, 84]⟩, ⟨#[47]⟩, 1, F, false, [], []⟩ = (one (list (find F connN)) closeW || (decide ((1 : Int) = 0) && !one (list (find F connN)) keepW)) := rfl
          rw [hcl] at HC
          have hB := HBk.out
          have q0 := hB.c 0 _ rfl; have q1 := hB.c 1 _ rfl; have q2 := hB.c 2 _ rfl; have q3 := hB.c 3 _ rfl; have q4 := hB.c 4 _ rfl; have q5 := hB.c 5 _ rfl; have q6 := hB.c 6 _ rfl
          clear hB hcl h9 HBk HOw HNe HFs
          generalize one (list (find F connN)) closeW = b8 at *
          generalize one (list (find F connN)) keepW = b9 at *
          cases b8 <;> cases b9
          all_goals
            go_wp2_with (go_at_call 14; with_reducible refine HC.out.mono ?_; rintro e w2 ⟨rfl, hb2⟩)
            go_ret
            exact ⟨rfl, Base.below_step hbr.out hb2⟩
end code
end Go.Proofs.YtechehbegiinpaaDoor.Rec
