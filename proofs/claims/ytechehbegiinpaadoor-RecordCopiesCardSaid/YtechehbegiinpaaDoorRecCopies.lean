/-
  The statement on copies (RecordCopies): a copy is the same, and stays when what it is of changes. (Its drawn regions are printed by tools/gen_copies.py.)
-/
import Derived.Test.YtechehbegiinpaaDoorRecNeat
import Derived.Test.YtechehbegiinpaaDoorRecKnown
import Derived.Test.YtechehbegiinpaaDoorRecCopy
namespace Go.Proofs.YtechehbegiinpaaDoor.Rec
open Go.RowKit Base Txt

def bang (f : Fld) : Fld := (f.1, f.2 ++ ⟨#[33]⟩)
/-- The fields behind k rounds. -/
def bangs (fs : List Fld) (k : Nat) : List Fld := (fs.take k).map bang ++ fs.drop k
theorem bangs_zero (fs : List Fld) : bangs fs 0 = fs := by simp [bangs]
theorem bangs_all (fs : List Fld) (k : Nat) (h : fs.length ≤ k) : bangs fs k = fs.map bang := by
  rw [bangs, List.take_of_length_le h, List.drop_eq_nil_of_le h, List.append_nil]
theorem bangs_length (fs : List Fld) (k : Nat) : (bangs fs k).length = fs.length := by
  rw [bangs, List.length_append, List.length_map, List.length_take, List.length_drop]; omega
theorem bangs_at (fs : List Fld) (k : Nat) (h : k < fs.length) : (bangs fs k)[k]?.getD dflt = fs[k] := by
  rw [bangs, List.getElem?_append_right (by simp; omega), List.length_map, List.length_take, List.getElem?_drop]
  rw [show k + (k - min k fs.length) = k by omega, List.getElem?_eq_getElem h]; rfl
theorem bangs_set (fs : List Fld) (k : Nat) (h : k < fs.length) : (cells (bangs fs k)).set (k * 2 + 1) (.string (fs[k].2 ++ ⟨#[33]⟩)) = cells (bangs fs (k + 1)) := by
  have e1 : bangs fs k = (fs.take k).map bang ++ (fs[k] :: fs.drop (k + 1)) := by rw [bangs, List.drop_eq_getElem_cons h]
  have e2 : bangs fs (k + 1) = (fs.take k).map bang ++ (bang fs[k] :: fs.drop (k + 1)) := by
    rw [bangs, List.take_succ_eq_append_getElem h, List.map_append, List.append_assoc]; rfl
  have hl : (cells ((fs.take k).map bang)).length = k * 2 := by rw [cells_length, List.length_map, List.length_take]; omega
  rw [e1, e2, cells_append, cells_append, List.set_append_right _ _ (by omega), hl, show k * 2 + 1 - k * 2 = 1 by omega]
  have ec : ∀ (f : Fld) (l : List Fld), cells (f :: l) = .string f.1 :: .string f.2 :: cells l := fun _ _ => by simp [cells]
  rw [ec, ec]
  rfl
theorem weigh_bang : ∀ fs : List Fld, weigh (fs.map bang) = weigh fs + fs.length
  | [] => rfl
  | f :: fs => by
    have ih := weigh_bang fs
    have e : ∀ (g : Fld) (l : List Fld), weigh (g :: l) = g.1.size + g.2.size + weigh l := fun g l => by simp [weigh]
    rw [List.map_cons, e, e, ih, List.length_cons]
    have : (bang f).1.size + (bang f).2.size = f.1.size + f.2.size + 1 := by
      show f.1.size + (f.2 ++ (⟨#[33]⟩ : ByteArray)).size = _
      rw [ByteArray.size_append]; rfl
    omega
theorem bang_ne (fs : List Fld) (h : 0 < fs.length) : fs.map bang ≠ fs := fun e => by
  have h1 := weigh_bang fs
  rw [e] at h1
  omega
/-- The bytes behind k rounds. -/
def bumps (l : List UInt8) (k : Nat) : List UInt8 := (l.take k).map (· + 1) ++ l.drop k
theorem bumps_zero (l : List UInt8) : bumps l 0 = l := by simp [bumps]
theorem bumps_all (l : List UInt8) (k : Nat) (h : l.length ≤ k) : bumps l k = l.map (· + 1) := by
  rw [bumps, List.take_of_length_le h, List.drop_eq_nil_of_le h, List.append_nil]
theorem bumps_length (l : List UInt8) (k : Nat) : (bumps l k).length = l.length := by
  rw [bumps, List.length_append, List.length_map, List.length_take, List.length_drop]; omega
theorem bumps_at (l : List UInt8) (k : Nat) (h : k < l.length) : (vals (bumps l k))[k]? = some (byteV l[k]) := by
  rw [vals, List.getElem?_map, bumps, List.getElem?_append_right (by simp; omega), List.length_map, List.length_take, List.getElem?_drop]
  rw [show k + (k - min k l.length) = k by omega, List.getElem?_eq_getElem h]; rfl
theorem bumps_set (l : List UInt8) (k : Nat) (h : k < l.length) : (vals (bumps l k)).set k (.int .u8 (((l[k].toNat : Int) + 1) % 256)) = vals (bumps l (k + 1)) := by
  have e1 : bumps l k = (l.take k).map (· + 1) ++ (l[k] :: l.drop (k + 1)) := by rw [bumps, List.drop_eq_getElem_cons h]
  have e2 : bumps l (k + 1) = (l.take k).map (· + 1) ++ ((l[k] + 1) :: l.drop (k + 1)) := by
    rw [bumps, List.take_succ_eq_append_getElem h, List.map_append, List.append_assoc]; rfl
  have hl : (vals ((l.take k).map (· + 1))).length = k := by rw [vals_length, List.length_map, List.length_take]; omega
  have hb : Value.int .u8 (((l[k].toNat : Int) + 1) % 256) = byteV (l[k] + 1) := by
    unfold byteV
    rw [UInt8.toNat_add]
    have : (1 : UInt8).toNat = 1 := rfl
    congr 1
  rw [e1, e2, vals_app, vals_app, List.set_append_right _ _ (by omega), hl, Nat.sub_self, hb]
  rfl
theorem small_size (r : R) (h : Small r) : size r ≤ 1000000 := by
  have h1 := weigh_le r.fs 1000 h.f
  have h2 := weigh_le r.ts 1000 h.t
  have := h.m; have := h.x; have := h.fs; have := h.ts; have := h.body
  unfold size
  omega

section code
set_option maxHeartbeats 4000000
set_option maxRecDepth 20000
attribute [local go_sem] Base.some_undef
theorem recordCopies_law (a0 : Option Addr) (l0 c0 : Nat) (n0 : List Int) (W : World) (i0 : Nums .u8 W a0 l0 n0) :
    Calls Tryd.prog 5 #[.slice a0 l0 c0] W fun e w' => e = .returned (.bool true) ∧ Below W.heap.size W w' := by
  have HK := Lib.hid (fun w => known_any w)
  rcases Nat.lt_or_ge 12 l0 with hbig | hsm
  · have t0 : (12 : Int) < (l0 : Int) := by omega
    go_enter Tryd.func5, Tryd.ntmps5
    go_wp2_with (go_at_call 6; with_reducible refine (HK.out _).mono ?_; rintro e w1 ⟨rfl, hb1⟩)
    go_ret
    exact ⟨rfl, hb1⟩
  · have t0 : ¬ (12 : Int) < (l0 : Int) := by omega
    have HN := Lib.hid (fun w2 (hb : Below W.heap.size W w2) => neat_any a0 l0 c0 n0 w2 (i0.below hb))
    clear i0 hsm
    go_enter Tryd.func5, Tryd.ntmps5
    go_upto_region 6 with (first
      | (go_at_call 6; with_reducible refine (HK.out _).mono ?_; rintro e w1 ⟨rfl, hb1⟩
         have HB1 := Lib.hid hb1; clear hb1)
      | (go_at_call 8; with_reducible refine (HN.out _ HB1.out).mono ?_; rintro e w2 ⟨V', r0, rfl, hR, hk, hs, hl0, hl3, hb2⟩
         have HR := Lib.hid hR
         obtain ⟨far, fcr, bar, bcr, tar, tcr, rfl, -, -, -⟩ := hR
         have HB2 := Lib.hid (Base.below_step HB1.out hb2); have HSm := Lib.hid hs; have HL0 := Lib.hid hl0; have HL3 := Lib.hid hl3
         clear hk hs hl0 hl3 hb2))
    clear t0
    have HFt := Lib.hid HSm.out.fit
    have HBr := Lib.hid (HB2.out.alloc HB2.out.size (.cells #[.string r0.m, .string r0.x, .int .i64 r0.k, .slice far r0.fs.length fcr, .bool r0.ch, .slice bar r0.body.length bcr, .slice tar r0.ts.length tcr] 25))
    have HRr := Lib.hid (HR.out.below ((Below.refl _ _).alloc (Nat.le_refl _) (.cells #[.string r0.m, .string r0.x, .int .i64 r0.k, .slice far r0.fs.length fcr, .bool r0.ch, .slice bar r0.body.length bcr, .slice tar r0.ts.length tcr] 25)))
    have HKr := Lib.hid (Bk.new w2 w2.heap.size rfl 25 [.string r0.m, .string r0.x, .int .i64 r0.k, .slice far r0.fs.length fcr, .bool r0.ch, .slice bar r0.body.length bcr, .slice tar r0.ts.length tcr])
    clear HR HB2
    generalize w2.alloc (.cells #[.string r0.m, .string r0.x, .int .i64 r0.k, .slice far r0.fs.length fcr, .bool r0.ch, .slice bar r0.body.length bcr, .slice tar r0.ts.length tcr] 25) = Wr at *
    generalize w2.heap.size = gr at *
    have HCr := Lib.hid (copy_any _ r0 Wr HRr.out HFt.out)
    have q0 := HKr.out.c 0 _ rfl; have q1 := HKr.out.c 1 _ rfl; have q2 := HKr.out.c 2 _ rfl; have q3 := HKr.out.c 3 _ rfl; have q4 := HKr.out.c 4 _ rfl; have q5 := HKr.out.c 5 _ rfl; have q6 := HKr.out.c 6 _ rfl
    go_upto_region 7 with
      (go_at_call 18; with_reducible refine HCr.out.mono ?_; rintro e w3 ⟨fac, fcc, bac, bcc, tac, tcc, rfl, ho, hb3⟩
       have HRc0 := Lib.hid ho.reads; have HB3 := Lib.hid hb3
       clear ho hb3)
    clear q0 q1 q2 q3 q4 q5 q6 HCr
    have hA3 := Lib.hid (HB3.out.alloc HB3.out.size (.cells #[.string r0.m, .string r0.x, .int .i64 r0.k, .slice fac r0.fs.length fcc, .bool r0.ch, .slice bac r0.body.length bcc, .slice tac r0.ts.length tcc] 25))
    have HRc := Lib.hid (HRc0.out.below ((Below.refl _ _).alloc (Nat.le_refl _) (.cells #[.string r0.m, .string r0.x, .int .i64 r0.k, .slice fac r0.fs.length fcc, .bool r0.ch, .slice bac r0.body.length bcc, .slice tac r0.ts.length tcc] 25)))
    have HKc := Lib.hid (Bk.new w3 w3.heap.size rfl 25 [.string r0.m, .string r0.x, .int .i64 r0.k, .slice fac r0.fs.length fcc, .bool r0.ch, .slice bac r0.body.length bcc, .slice tac r0.ts.length tcc])
    clear HRc0 HB3
    generalize w3.alloc (.cells #[.string r0.m, .string r0.x, .int .i64 r0.k, .slice fac r0.fs.length fcc, .bool r0.ch, .slice bac r0.body.length bcc, .slice tac r0.ts.length tcc] 25) = Wc at *
    generalize w3.heap.size = gc at *
    replace HRr := Lib.hid (HRr.out.below hA3.out); replace HKr := Lib.hid (HKr.out.below hA3.out)
    have HBc := Lib.hid (Base.below_step HBr.out hA3.out)
    clear HBr hA3
    have HZr := Lib.hid (fun w2 (hb : Below Wc.heap.size Wc w2) => size_any _ r0 w2 (HRr.out.below hb) HFt.out)
    have HZc := Lib.hid (fun w2 (hb : Below Wc.heap.size Wc w2) => size_any _ r0 w2 (HRc.out.below hb) HFt.out)
    have HSc := Lib.hid (fun w2 (hb : Below Wc.heap.size Wc w2) => same_any _ _ r0 r0 w2 (HRc.out.below hb) (HRr.out.below hb) HFt.out HFt.out)
    rw [same_self] at HSc
    have HB0 := Lib.hid (Below.refl Wc.heap.size Wc)
    have q0 := HKr.out.c 0 _ rfl; have q1 := HKr.out.c 1 _ rfl; have q2 := HKr.out.c 2 _ rfl; have q3 := HKr.out.c 3 _ rfl; have q4 := HKr.out.c 4 _ rfl; have q5 := HKr.out.c 5 _ rfl; have q6 := HKr.out.c 6 _ rfl
    have y0 := HKc.out.c 0 _ rfl; have y1 := HKc.out.c 1 _ rfl; have y2 := HKc.out.c 2 _ rfl; have y3 := HKc.out.c 3 _ rfl; have y4 := HKc.out.c 4 _ rfl; have y5 := HKc.out.c 5 _ rfl; have y6 := HKc.out.c 6 _ rfl
    go_upto_region 10 with (first
      | (go_at_call 12; with_reducible refine (HZc.out _ HB5.out).mono ?_; rintro e w6 ⟨rfl, hb6⟩
         have HB6 := Lib.hid (Base.below_step HB5.out hb6); have q0 := (HKr.out.below HB6.out).c 0 _ rfl; have q1 := (HKr.out.below HB6.out).c 1 _ rfl; have q2 := (HKr.out.below HB6.out).c 2 _ rfl; have q3 := (HKr.out.below HB6.out).c 3 _ rfl; have q4 := (HKr.out.below HB6.out).c 4 _ rfl; have q5 := (HKr.out.below HB6.out).c 5 _ rfl; have q6 := (HKr.out.below HB6.out).c 6 _ rfl; have y0 := (HKc.out.below HB6.out).c 0 _ rfl; have y1 := (HKc.out.below HB6.out).c 1 _ rfl; have y2 := (HKc.out.below HB6.out).c 2 _ rfl; have y3 := (HKc.out.below HB6.out).c 3 _ rfl; have y4 := (HKc.out.below HB6.out).c 4 _ rfl; have y5 := (HKc.out.below HB6.out).c 5 _ rfl; have y6 := (HKc.out.below HB6.out).c 6 _ rfl; clear hb6)
      | (go_at_call 10; with_reducible refine (HSc.out _ HB4.out).mono ?_; rintro e w5 ⟨rfl, hb5⟩
         have HB5 := Lib.hid (Base.below_step HB4.out hb5); have q0 := (HKr.out.below HB5.out).c 0 _ rfl; have q1 := (HKr.out.below HB5.out).c 1 _ rfl; have q2 := (HKr.out.below HB5.out).c 2 _ rfl; have q3 := (HKr.out.below HB5.out).c 3 _ rfl; have q4 := (HKr.out.below HB5.out).c 4 _ rfl; have q5 := (HKr.out.below HB5.out).c 5 _ rfl; have q6 := (HKr.out.below HB5.out).c 6 _ rfl; have y0 := (HKc.out.below HB5.out).c 0 _ rfl; have y1 := (HKc.out.below HB5.out).c 1 _ rfl; have y2 := (HKc.out.below HB5.out).c 2 _ rfl; have y3 := (HKc.out.below HB5.out).c 3 _ rfl; have y4 := (HKc.out.below HB5.out).c 4 _ rfl; have y5 := (HKc.out.below HB5.out).c 5 _ rfl; have y6 := (HKc.out.below HB5.out).c 6 _ rfl; clear hb5)
      | (go_at_call 12; with_reducible refine (HZr.out _ HB0.out).mono ?_; rintro e w4 ⟨rfl, hb4⟩
         have HB4 := Lib.hid (Base.below_step HB0.out hb4); have q0 := (HKr.out.below HB4.out).c 0 _ rfl; have q1 := (HKr.out.below HB4.out).c 1 _ rfl; have q2 := (HKr.out.below HB4.out).c 2 _ rfl; have q3 := (HKr.out.below HB4.out).c 3 _ rfl; have q4 := (HKr.out.below HB4.out).c 4 _ rfl; have q5 := (HKr.out.below HB4.out).c 5 _ rfl; have q6 := (HKr.out.below HB4.out).c 6 _ rfl; have y0 := (HKc.out.below HB4.out).c 0 _ rfl; have y1 := (HKc.out.below HB4.out).c 1 _ rfl; have y2 := (HKc.out.below HB4.out).c 2 _ rfl; have y3 := (HKc.out.below HB4.out).c 3 _ rfl; have y4 := (HKc.out.below HB4.out).c 4 _ rfl; have y5 := (HKc.out.below HB4.out).c 5 _ rfl; have y6 := (HKc.out.below HB4.out).c 6 _ rfl; clear hb4))
    replace HRr := Lib.hid (HRr.out.below HB6.out); replace HKr := Lib.hid (HKr.out.below HB6.out)
    replace HRc := Lib.hid (HRc.out.below HB6.out); replace HKc := Lib.hid (HKc.out.below HB6.out)
    have HBd := Lib.hid (Base.below_step HBc.out HB6.out)
    clear HB0 HB4 HB5 HB6 HBc HZr HZc HSc
    have HCx := Lib.hid (copy_any _ r0 w6 HRc.out HFt.out)
    go_upto_region 11 with
      (go_at_call 18; with_reducible refine HCx.out.mono ?_; rintro e w7 ⟨fax, fcx, bax, bcx, tax, tcx, rfl, ho, hb7⟩
       have HOx := Lib.hid ho; have HB7 := Lib.hid hb7
       clear ho hb7)
    clear q0 q1 q2 q3 q4 q5 q6 y0 y1 y2 y3 y4 y5 y6 HCx
    have HB8 := Lib.hid (HB7.out.alloc HB7.out.size (.cells #[.string r0.m, .string r0.x, .int .i64 r0.k, .slice fax r0.fs.length fcx, .bool r0.ch, .slice bax r0.body.length bcx, .slice tax r0.ts.length tcx] 25))
    have HOx1 := Lib.hid (HOx.out.below ((Below.refl _ _).alloc (Nat.le_refl _) (.cells #[.string r0.m, .string r0.x, .int .i64 r0.k, .slice fax r0.fs.length fcx, .bool r0.ch, .slice bax r0.body.length bcx, .slice tax r0.ts.length tcx] 25)))
    have HKx := Lib.hid (Bk.new w7 w7.heap.size rfl 25 [.string r0.m, .string r0.x, .int .i64 r0.k, .slice fax r0.fs.length fcx, .bool r0.ch, .slice bax r0.body.length bcx, .slice tax r0.ts.length tcx])
    have HF0 := Lib.hid HOx1.out.f; have HD0 := Lib.hid HOx1.out.b; have HT0 := Lib.hid HOx1.out.t
    have Hfb := Lib.hid HOx1.out.fb; have Hft := Lib.hid HOx1.out.ft; have Hbt := Lib.hid HOx1.out.bt
    have Hgf := Lib.hid (show ∀ g, (Value.slice fax r0.fs.length fcx).ownBlock = some g → ¬ g = w7.heap.size from fun g hg => by have := own_lt HOx.out.f g hg; omega)
    have Hgb := Lib.hid (show ∀ g, (Value.slice bax r0.body.length bcx).ownBlock = some g → ¬ g = w7.heap.size from fun g hg => by have := own_lt HOx.out.b g hg; omega)
    have Hgx := Lib.hid (show w6.heap.size ≤ w7.heap.size from HB7.out.size)
    clear HOx HOx1 HB7
    generalize w7.alloc (.cells #[.string r0.m, .string r0.x, .int .i64 r0.k, .slice fax r0.fs.length fcx, .bool r0.ch, .slice bax r0.body.length bcx, .slice tax r0.ts.length tcx] 25) = Wx at *
    generalize w7.heap.size = gx at *
    have HL := Lib.hid (show r0.fs.length ≤ 3 from HL3.out)
    have HSzf := Lib.hid HSm.out.f
    have HbL := Lib.hid HSm.out.body
    go_wp2_with fail
    go_loopw [7] (fun i wr => ∃ k : Nat, k ≤ r0.fs.length ∧ i = .int .i64 k ∧ Hid (Bk wr gx [.string r0.m, .string r0.x, .int .i64 r0.k, .slice fax r0.fs.length fcx, .bool r0.ch, .slice bax r0.body.length bcx, .slice tax r0.ts.length tcx]) ∧ Hid (wr.ownsRow w6.heap.size 31 2 (.slice fax r0.fs.length fcx) r0.fs.length (cells (bangs r0.fs k))) ∧
      Hid (wr.ownsRow w6.heap.size 5 1 (.slice bax r0.body.length bcx) r0.body.length (vals r0.body)) ∧ Hid (wr.ownsRow w6.heap.size 31 2 (.slice tax r0.ts.length tcx) r0.ts.length (cells r0.ts)) ∧ Hid (Below w6.heap.size w6 wr)) (fun i _ => r0.fs.length - (intOf i).toNat)
    case atStart => exact ⟨0, Nat.zero_le _, rfl, HKx, Lib.hid (by rw [bangs_zero]; exact HF0.out), HD0, HT0, HB8⟩
    case round =>
      obtain ⟨k, hk, rfl, HKd, HFd, HDd, HTd, hbr⟩ := hrel
      rcases Nat.lt_or_ge k r0.fs.length with hlt | hge
      · obtain ⟨gf, cf, hform, hgl, hgf⟩ := HFd.out.form (by omega)
        simp only [Value.slice.injEq, true_and] at hform
        obtain ⟨rfl, rfl⟩ := hform
        obtain ⟨f1, hf1⟩ : ∃ f1, r0.fs[k].2 = f1 := ⟨_, rfl⟩
        have hq := HFd.out.cellAt (k * 2 + 1) (by omega)
        have hz := HFd.out.frozenAt (k * 2 + 1)
        have hst := fun (w2 : World) (hb : Below wr.heap.size wr w2) => ((own_below HFd.out hb).stored (k * 2 + 1) (.string (f1 ++ ⟨#[33]⟩))).1
        rw [(cells_at (bangs r0.fs k) k (by rw [bangs_length]; exact hlt)).2, bangs_at r0.fs k hlt, hf1] at hq
        rw [← hf1, bangs_set r0.fs k hlt, hf1] at hst
        have HF1 := Lib.hid hq; have HZ1 := Lib.hid hz; have HST := Lib.hid hst; have HGf := Lib.hid hgf; have HGl := Lib.hid hgl
        have HSZ := Lib.hid (show ¬ 9223372036854775807 < f1.size + 1 by have := (HSzf.out _ (List.getElem_mem hlt)).2; rw [hf1] at this; omega)
        have HKq := Lib.hid (HKd.out.drew 1)
        have HI := Lib.hid hlt
        clear hq hz hst hgf hgl hf1
        have i1 : (k : Int) < (r0.fs.length : Int) := by omega
        have q3 := HKd.out.c 3 _ rfl
        go_upto_region 14 with fail
        clear i1 q3 hlt hk
        have HI2 := Lib.hid (show (k : Int) < (r0.fs.length : Int) from by have := HI.out; omega)
        refine Each.region 12 [57, 58, 59, 60, 61, 62, 63, 64, 65, 66, 67, 68]
            [fun v _ => v = .pointer (some ⟨gx, 3, none⟩),
              fun v _ => v = .slice (some ⟨gf, 0, none⟩) r0.fs.length fcx,
              fun v _ => v = .int .i64 ((k : Nat) : Int),
              fun v _ => v = .pointer (some ⟨gx, 3, none⟩),
              fun v _ => v = .slice (some ⟨gf, 0, none⟩) r0.fs.length fcx,
              fun v _ => v = .int .i64 ((k : Nat) : Int),
              fun v _ => v = .pointer (some ⟨gf, k * 2, none⟩),
              fun v _ => v = .pointer (some ⟨gf, k * 2 + 1, none⟩),
              fun v _ => v = .string f1,
              fun v _ => v = .string (f1 ++ ⟨#[33]⟩),
              fun v _ => v = .pointer (some ⟨gf, k * 2, none⟩),
              fun v _ => v = .pointer (some ⟨gf, k * 2 + 1, none⟩)]
            (.act 12 .done) (by kernel_rfl) (by kernel_rfl) (by kernel_rfl) (by kernel_rfl) (fun _ _ d _ _ h => by cases d <;> exact h) (by rfl) (by rfl)
            ⟨Each.Lasts.eq _, Each.Lasts.eq _, Each.Lasts.eq _, Each.Lasts.eq _, Each.Lasts.eq _, Each.Lasts.eq _, Each.Lasts.eq _, Each.Lasts.eq _, Each.Lasts.eq _, Each.Lasts.eq _, Each.Lasts.eq _, Each.Lasts.eq _, trivial⟩ ?_ ?_
        · refine ⟨?_, ?_, ?_, ?_, ?_, ?_, ?_, ?_, ?_, ?_, ?_, ?_, trivial⟩
          · refine Each.fine rfl (fun ev w1 hR hb hh => ?_)
            clear hh
            have e6 := hR.old 6 rfl
            simp only [Array.getD_eq_getD_getElem?, List.getElem?_toArray, List.getElem?_cons_succ, List.getElem?_cons_zero, Option.getD_some] at e6
            refine Each.Goes.same ?_
            go_simp
            try with_reducible rfl
          · refine Each.fine rfl (fun ev w1 hR hb hh => ?_)
            have e57 : (ev (.tmp 57) = .pointer (some ⟨gx, 3, none⟩)) := hh.at 0
            clear hh
            have q3 := (HKq.out.below hb).c 3 _ rfl
            refine Each.Goes.same ?_
            go_simp
            try with_reducible rfl
          · refine Each.fine rfl (fun ev w1 hR hb hh => ?_)
            clear hh
            have e7 := hR.old 7 rfl
            simp only [Array.getD_eq_getD_getElem?, List.getElem?_toArray, List.getElem?_cons_succ, List.getElem?_cons_zero, Option.getD_some] at e7
            refine Each.Goes.same ?_
            go_simp
            try with_reducible rfl
          · refine Each.fine rfl (fun ev w1 hR hb hh => ?_)
            clear hh
            have e6 := hR.old 6 rfl
            simp only [Array.getD_eq_getD_getElem?, List.getElem?_toArray, List.getElem?_cons_succ, List.getElem?_cons_zero, Option.getD_some] at e6
            refine Each.Goes.same ?_
            go_simp
            try with_reducible rfl
          · refine Each.fine rfl (fun ev w1 hR hb hh => ?_)
            have e60 : (ev (.tmp 60) = .pointer (some ⟨gx, 3, none⟩)) := hh.at 0
            clear hh
            have q3 := (HKq.out.below hb).c 3 _ rfl
            refine Each.Goes.same ?_
            go_simp
            try with_reducible rfl
          · refine Each.fine rfl (fun ev w1 hR hb hh => ?_)
            clear hh
            have e7 := hR.old 7 rfl
            simp only [Array.getD_eq_getD_getElem?, List.getElem?_toArray, List.getElem?_cons_succ, List.getElem?_cons_zero, Option.getD_some] at e7
            refine Each.Goes.same ?_
            go_simp
            try with_reducible rfl
          · refine Each.fine rfl (fun ev w1 hR hb hh => ?_)
            have e61 : (ev (.tmp 61) = .slice (some ⟨gf, 0, none⟩) r0.fs.length fcx) := hh.at 0
            have e62 : (ev (.tmp 62) = .int .i64 ((k : Nat) : Int)) := hh.at 1
            clear hh
            have i1 := HI2.out
            refine Each.Goes.same ?_
            go_simp
            try with_reducible rfl
          · refine Each.fine rfl (fun ev w1 hR hb hh => ?_)
            have e63 : (ev (.tmp 63) = .pointer (some ⟨gf, k * 2, none⟩)) := hh.at 0
            clear hh
            refine Each.Goes.same ?_
            go_simp
            try with_reducible rfl
          · refine Each.fine rfl (fun ev w1 hR hb hh => ?_)
            have e64 : (ev (.tmp 64) = .pointer (some ⟨gf, k * 2 + 1, none⟩)) := hh.at 0
            clear hh
            have qx := (hb.cell (p := ⟨gf, k * 2 + 1, none⟩) HGf.out).trans HF1.out
            refine Each.Goes.same ?_
            go_simp
            try with_reducible rfl
          · refine Each.fine rfl (fun ev w1 hR hb hh => ?_)
            have e65 : (ev (.tmp 65) = .string f1) := hh.at 0
            clear hh
            have ec := hR.const
            have s1 := HSZ.out
            refine Each.Goes.same ?_
            go_simp
            try with_reducible rfl
          · refine Each.fine rfl (fun ev w1 hR hb hh => ?_)
            have e58 : (ev (.tmp 58) = .slice (some ⟨gf, 0, none⟩) r0.fs.length fcx) := hh.at 0
            have e59 : (ev (.tmp 59) = .int .i64 ((k : Nat) : Int)) := hh.at 1
            clear hh
            have i1 := HI2.out
            refine Each.Goes.same ?_
            go_simp
            try with_reducible rfl
          · refine Each.fine rfl (fun ev w1 hR hb hh => ?_)
            have e67 : (ev (.tmp 67) = .pointer (some ⟨gf, k * 2, none⟩)) := hh.at 0
            clear hh
            refine Each.Goes.same ?_
            go_simp
            try with_reducible rfl
        intro g1 w2 hb hf
        have z68 : (g1 68 = .pointer (some ⟨gf, k * 2 + 1, none⟩)) := hf.at 11
        have z66 : (g1 66 = .string (f1 ++ ⟨#[33]⟩)) := hf.at 9
        clear hf
        simp only [Each.putg, Act.put, List.setIfInBounds_toArray, List.set_cons_zero, List.set_cons_succ]
        rw [z68, z66]
        simp only [Tree.grow, Tree.put1, List.getElem?_cons_zero, List.getElem?_cons_succ]
        refine Tree.change (by rfl) (fun K hK => ?_)
        have s1 := (hb.cell (p := ⟨gf, k * 2 + 1, none⟩) HGf.out).trans HF1.out
        have s2 := (hb.frozen (p := ⟨gf, k * 2 + 1, none⟩) HGf.out).trans HZ1.out
        go_simp
        refine hK _ _ trivial ?_
        clear hK K s1 s2 z68 z66
        have ho : ∀ c, (Value.slice (some ⟨gf, 0, none⟩) r0.fs.length c).ownBlock = some gf := fun _ => by simp [Value.ownBlock]
        have HF3 := Lib.hid (HST.out w2 hb)
        have HD3 := Lib.hid (ownsRow_setCell_other (a := ⟨gf, k * 2 + 1, none⟩) (own_below HDd.out hb) (Hfb.out gf (ho _)) (.string (f1 ++ ⟨#[33]⟩)))
        have HT3 := Lib.hid (ownsRow_setCell_other (a := ⟨gf, k * 2 + 1, none⟩) (own_below HTd.out hb) (Hft.out gf (ho _)) (.string (f1 ++ ⟨#[33]⟩)))
        have HK3 := Lib.hid ((HKd.out.below hb).other gf (k * 2 + 1) (.string (f1 ++ ⟨#[33]⟩)) (Hgf.out gf (ho _)))
        have HB3 := Lib.hid (show Below w6.heap.size w6 (w2.setCell ⟨gf, k * 2 + 1, none⟩ (.string (f1 ++ ⟨#[33]⟩))) from (Base.below_step hbr.out hb).setCell HGl.out _)
        clear ho hb
        generalize w2.setCell ⟨gf, k * 2 + 1, none⟩ (.string (f1 ++ ⟨#[33]⟩)) = W3 at *
        refine Tree.done ?_
        have hk := HI.out
        have hL := HL.out
        go_wp2
        go_roundw
        case rel => exact ⟨k + 1, by have := HI.out; omega, by go_num, HK3, HF3, HD3, HT3, HB3⟩
        case measure => have := HI.out; simp [intOf]; omega
      · obtain rfl : k = r0.fs.length := by omega
        have HFe := Lib.hid (show wr.ownsRow w6.heap.size 31 2 (.slice fax r0.fs.length fcx) r0.fs.length (cells (r0.fs.map bang)) by rw [← bangs_all r0.fs _ (Nat.le_refl _)]; exact HFd.out)
        have i1 : ¬ ((r0.fs.length : Nat) : Int) < (r0.fs.length : Int) := by omega
        have q3 := HKd.out.c 3 _ rfl
        clear hk hge
        obtain ⟨wC, hwC⟩ : ∃ x, x = wr := ⟨_, rfl⟩
        subst hwC
        go_wp2_with fail
        clear i1 q3
        go_loopw [8] (fun i ws => ∃ j : Nat, j ≤ r0.body.length ∧ i = .int .i64 j ∧ Hid (Bk ws gx [.string r0.m, .string r0.x, .int .i64 r0.k, .slice fax r0.fs.length fcx, .bool r0.ch, .slice bax r0.body.length bcx, .slice tax r0.ts.length tcx]) ∧ Hid (ws.ownsRow w6.heap.size 31 2 (.slice fax r0.fs.length fcx) r0.fs.length (cells (r0.fs.map bang))) ∧
          Hid (ws.ownsRow w6.heap.size 5 1 (.slice bax r0.body.length bcx) r0.body.length (vals (bumps r0.body j))) ∧ Hid (ws.ownsRow w6.heap.size 31 2 (.slice tax r0.ts.length tcx) r0.ts.length (cells r0.ts)) ∧ Hid (Below w6.heap.size w6 ws)) (fun i _ => r0.body.length - (intOf i).toNat)
        case atStart => exact ⟨0, Nat.zero_le _, rfl, HKd, HFe, Lib.hid (by rw [bumps_zero]; exact HDd.out), HTd, hbr⟩
        case round =>
          clear HKd HFd HDd HTd hbr HFe
          obtain ⟨k, hk, rfl, HKd, HFd, HDd, HTd, hbr⟩ := hrel
          rcases Nat.lt_or_ge k r0.body.length with hlt | hge
          · obtain ⟨gf, cf, hform, hgl, hgf⟩ := HDd.out.form (by omega)
            simp only [Value.slice.injEq, true_and] at hform
            obtain ⟨rfl, rfl⟩ := hform
            obtain ⟨b1, hb1⟩ : ∃ b1, r0.body[k] = b1 := ⟨_, rfl⟩
            have qb := HDd.out.cellAt k (by omega)
            have zb := HDd.out.frozenAt k
            have hst := (HDd.out.stored k (.int .u8 (((b1.toNat : Int) + 1) % 256))).1
            rw [bumps_at r0.body k hlt, hb1] at qb
            rw [← hb1, bumps_set r0.body k hlt, hb1] at hst
            have HST := Lib.hid hst; have HGf := Lib.hid hgf; have HGl := Lib.hid hgl; have HI := Lib.hid hlt
            have ho : ∀ c, (Value.slice (some ⟨gf, 0, none⟩) r0.body.length c).ownBlock = some gf := fun _ => by simp [Value.ownBlock]
            have HF3 := Lib.hid (ownsRow_setCell_other (a := ⟨gf, k, none⟩) HFd.out (fun e => Hfb.out gf e (ho _)) (.int .u8 (((b1.toNat : Int) + 1) % 256)))
            have HT3 := Lib.hid (ownsRow_setCell_other (a := ⟨gf, k, none⟩) HTd.out (Hbt.out gf (ho _)) (.int .u8 (((b1.toNat : Int) + 1) % 256)))
            have HK3 := Lib.hid (HKd.out.other gf k (.int .u8 (((b1.toNat : Int) + 1) % 256)) (Hgb.out gf (ho _)))
            have HB3 := Lib.hid (show Below w6.heap.size w6 (wr.setCell ⟨gf, k, none⟩ (.int .u8 (((b1.toNat : Int) + 1) % 256))) from hbr.out.setCell hgl _)
            clear hst hgf hgl hb1 ho
            have i1 : (k : Int) < (r0.body.length : Int) := by omega
            have q5 := HKd.out.c 5 _ rfl
            go_upto_region 17 with fail
            clear i1 q5 qb zb
            generalize wr.setCell ⟨gf, k, none⟩ (.int .u8 (((b1.toNat : Int) + 1) % 256)) = W3 at *
            have hbl := HbL.out
            go_wp2
            go_roundw
            case rel => exact ⟨k + 1, by have := HI.out; omega, by go_num, HK3, HF3, HST, HT3, HB3⟩
            case measure => have := HI.out; simp [intOf]; omega
          · obtain rfl : k = r0.body.length := by omega
            have HDe := Lib.hid (show wr.ownsRow w6.heap.size 5 1 (.slice bax r0.body.length bcx) r0.body.length (vals (r0.body.map (· + 1))) by rw [← bumps_all r0.body _ (Nat.le_refl _)]; exact HDd.out)
            have i1 : ¬ ((r0.body.length : Nat) : Int) < (r0.body.length : Int) := by omega
            have q5 := HKd.out.c 5 _ rfl
            clear hk hge
            obtain ⟨rx, hrx⟩ : ∃ rx : R, ⟨r0.m, r0.x, r0.k, r0.fs.map bang, r0.ch, r0.body.map (· + 1), r0.ts⟩ = rx := ⟨_, rfl⟩
            have hfx : Fit rx := by
              have h := HSm.out
              rw [← hrx]
              refine ⟨h.fit.m, h.fit.x, by rw [List.length_map]; exact h.fit.fs, fun f hf => ?_, by rw [List.length_map]; exact h.fit.body, h.fit.ts, h.fit.t⟩
              obtain ⟨f', hf', rfl⟩ := List.mem_map.1 hf
              have := h.f f' hf'
              refine ⟨by show f'.1.size ≤ 10000; omega, ?_⟩
              show (f'.2 ++ (⟨#[33]⟩ : ByteArray)).size ≤ 10000
              rw [ByteArray.size_append]
              have e : (ByteArray.mk #[33]).size = 1 := rfl
              omega
            have hne : same rx r0 = false := by
              rw [Bool.eq_false_iff]
              intro e
              have e := congrArg R.fs ((same_iff _ _).1 e)
              rw [← hrx] at e
              exact bang_ne r0.fs HL0.out e
            have hsz : size rx = size r0 + r0.fs.length := by
              rw [← hrx]
              show r0.m.size + r0.x.size + weigh (r0.fs.map bang) + weigh r0.ts + (r0.body.map (· + 1)).length = size r0 + r0.fs.length
              unfold size
              rw [weigh_bang, List.length_map]
              omega
            have HBz := Lib.hid (show Below w6.heap.size w6 (wr.drewN 1) from Base.below_drewN hbr.out 1)
            have HBw := Lib.hid (show Below wr.heap.size wr (wr.drewN 1) from Base.below_drewN (Below.refl _ _) 1)
            have HRx := Lib.hid (show Reads (wr.drewN 1) (.agg #[.string r0.m, .string r0.x, .int .i64 r0.k, .slice fax r0.fs.length fcx, .bool r0.ch, .slice bax r0.body.length bcx, .slice tax r0.ts.length tcx]) rx by
              obtain ⟨A1, c1, e1, h1⟩ := Flds.of_own (own_below HFd.out HBw.out)
              obtain ⟨A2, c2, e2, h2⟩ := nums_of_own (own_below HDe.out HBw.out)
              obtain ⟨A3, c3, e3, h3⟩ := Flds.of_own (own_below HTd.out HBw.out)
              simp only [Value.slice.injEq, true_and] at e1 e2 e3
              obtain ⟨rfl, rfl⟩ := e1
              obtain ⟨rfl, rfl⟩ := e2
              obtain ⟨rfl, rfl⟩ := e3
              rw [← hrx]
              exact ⟨fax, fcx, bax, bcx, tax, tcx, (by simp only [List.length_map]), (by rw [List.length_map]; exact h1), (by rw [List.length_map]; exact h2), h3⟩)
            replace HRr := Lib.hid (HRr.out.below HBz.out); replace HKr := Lib.hid (HKr.out.below HBz.out)
            replace HRc := Lib.hid (HRc.out.below HBz.out); replace HKc := Lib.hid (HKc.out.below HBz.out)
            have HKx := Lib.hid (HKd.out.below HBw.out)
            have HSX := Lib.hid (fun w2 (h1 : Reads w2 (.agg #[.string r0.m, .string r0.x, .int .i64 r0.k, .slice fax r0.fs.length fcx, .bool r0.ch, .slice bax r0.body.length bcx, .slice tax r0.ts.length tcx]) rx) (h2 : Reads w2 (.agg #[.string r0.m, .string r0.x, .int .i64 r0.k, .slice fac r0.fs.length fcc, .bool r0.ch, .slice bac r0.body.length bcc, .slice tac r0.ts.length tcc]) r0) => same_any _ _ rx r0 w2 h1 h2 hfx HFt.out)
            rw [hne] at HSX
            have HSZ := Lib.hid (fun w2 (h1 : Reads w2 (.agg #[.string r0.m, .string r0.x, .int .i64 r0.k, .slice fax r0.fs.length fcx, .bool r0.ch, .slice bax r0.body.length bcx, .slice tax r0.ts.length tcx]) rx) => size_any _ rx w2 h1 hfx)
            rw [hsz] at HSZ
            have HSM := Lib.hid (show size r0 ≤ 1000000 ∧ r0.fs.length ≤ 3 from ⟨small_size r0 HSm.out, HL3.out⟩)
            have HSS := Lib.hid (fun w2 (h1 : Reads w2 (.agg #[.string r0.m, .string r0.x, .int .i64 r0.k, .slice fac r0.fs.length fcc, .bool r0.ch, .slice bac r0.body.length bcc, .slice tac r0.ts.length tcc]) r0) (h2 : Reads w2 (.agg #[.string r0.m, .string r0.x, .int .i64 r0.k, .slice far r0.fs.length fcr, .bool r0.ch, .slice bar r0.body.length bcr, .slice tar r0.ts.length tcr]) r0) => same_any _ _ r0 r0 w2 h1 h2 HFt.out HFt.out)
            rw [same_self] at HSS
            clear hfx hne hsz hrx HFd HDd HTd HDe
            go_upto_region 19 with fail
            clear i1 q5
            refine Each.region 19 [83, 84, 85, 86, 87, 88, 89, 90, 91, 92, 93, 94, 95, 96, 97, 98, 99, 100, 101]
                [fun v _ => v = .agg #[.string r0.m, .string r0.x, .int .i64 r0.k, .slice fac r0.fs.length fcc, .bool r0.ch, .slice bac r0.body.length bcc, .slice tac r0.ts.length tcc],
                  fun v _ => v = .agg #[.string r0.m, .string r0.x, .int .i64 r0.k, .slice far r0.fs.length fcr, .bool r0.ch, .slice bar r0.body.length bcr, .slice tar r0.ts.length tcr],
                  fun v _ => v = .bool true,
                  fun v _ => v = .bool true,
                  Each.When (true) true (fun v _ => v = .agg #[.string r0.m, .string r0.x, .int .i64 r0.k, .slice fax r0.fs.length fcx, .bool r0.ch, .slice bax r0.body.length bcx, .slice tax r0.ts.length tcx]),
                  Each.When (true) true (fun v _ => v = .agg #[.string r0.m, .string r0.x, .int .i64 r0.k, .slice fac r0.fs.length fcc, .bool r0.ch, .slice bac r0.body.length bcc, .slice tac r0.ts.length tcc]),
                  Each.When (true) true (fun v _ => v = .bool false),
                  Each.When (true) true (fun v _ => v = .bool true),
                  fun v _ => v = .bool true,
                  fun v _ => v = .bool true,
                  Each.When (true) true (fun v _ => v = .agg #[.string r0.m, .string r0.x, .int .i64 r0.k, .slice fax r0.fs.length fcx, .bool r0.ch, .slice bax r0.body.length bcx, .slice tax r0.ts.length tcx]),
                  Each.When (true) true (fun v _ => v = .int .i64 (((size r0 + r0.fs.length) : Nat) : Int)),
                  Each.When (true) true (fun v _ => v = .int .i64 ((size r0 : Nat) : Int)),
                  Each.When (true) true (fun v _ => v = .pointer (some ⟨gx, 3, none⟩)),
                  Each.When (true) true (fun v _ => v = .slice fax r0.fs.length fcx),
                  Each.When (true) true (fun v _ => v = .int .i64 ((r0.fs.length : Nat) : Int)),
                  Each.When (true) true (fun v _ => v = .int .i64 (((size r0 + r0.fs.length) : Nat) : Int)),
                  Each.When (true) true (fun v _ => v = .bool true),
                  fun v _ => v = .bool true]
                (.quiet 19 .done) (by kernel_rfl) (by kernel_rfl) (by kernel_rfl) (by kernel_rfl) (fun _ _ d _ _ h => by cases d <;> exact h) (by rfl) (by rfl)
                ⟨Each.Lasts.eq _, Each.Lasts.eq _, Each.Lasts.eq _, Each.Lasts.eq _, Each.Lasts.when (Each.Lasts.eq _), Each.Lasts.when (Each.Lasts.eq _), Each.Lasts.when (Each.Lasts.eq _), Each.Lasts.when (Each.Lasts.eq _), Each.Lasts.eq _, Each.Lasts.eq _, Each.Lasts.when (Each.Lasts.eq _), Each.Lasts.when (Each.Lasts.eq _), Each.Lasts.when (Each.Lasts.eq _), Each.Lasts.when (Each.Lasts.eq _), Each.Lasts.when (Each.Lasts.eq _), Each.Lasts.when (Each.Lasts.eq _), Each.Lasts.when (Each.Lasts.eq _), Each.Lasts.when (Each.Lasts.eq _), Each.Lasts.eq _, trivial⟩ ?_ ?_
            · refine ⟨?_, ?_, ?_, ?_, ?_, ?_, ?_, ?_, ?_, ?_, ?_, ?_, ?_, ?_, ?_, ?_, ?_, ?_, ?_, trivial⟩
              · refine Each.fine rfl (fun ev w1 hR hb hh => ?_)
                clear hh
                have e4 := hR.old 4 rfl
                simp only [Array.getD_eq_getD_getElem?, List.getElem?_toArray, List.getElem?_cons_succ, List.getElem?_cons_zero, Option.getD_some] at e4
                have q0 := (HKc.out.below hb).c 0 _ rfl
                have q1 := (HKc.out.below hb).c 1 _ rfl
                have q2 := (HKc.out.below hb).c 2 _ rfl
                have q3 := (HKc.out.below hb).c 3 _ rfl
                have q4 := (HKc.out.below hb).c 4 _ rfl
                have q5 := (HKc.out.below hb).c 5 _ rfl
                have q6 := (HKc.out.below hb).c 6 _ rfl
                refine Each.Goes.same ?_
                go_simp
                try with_reducible rfl
              · refine Each.fine rfl (fun ev w1 hR hb hh => ?_)
                clear hh
                have e3 := hR.old 3 rfl
                simp only [Array.getD_eq_getD_getElem?, List.getElem?_toArray, List.getElem?_cons_succ, List.getElem?_cons_zero, Option.getD_some] at e3
                have q0 := (HKr.out.below hb).c 0 _ rfl
                have q1 := (HKr.out.below hb).c 1 _ rfl
                have q2 := (HKr.out.below hb).c 2 _ rfl
                have q3 := (HKr.out.below hb).c 3 _ rfl
                have q4 := (HKr.out.below hb).c 4 _ rfl
                have q5 := (HKr.out.below hb).c 5 _ rfl
                have q6 := (HKr.out.below hb).c 6 _ rfl
                refine Each.Goes.same ?_
                go_simp
                try with_reducible rfl
              · refine Each.fine rfl (fun ev w1 hR hb hh => ?_)
                have e83 : (ev (.tmp 83) = .agg #[.string r0.m, .string r0.x, .int .i64 r0.k, .slice fac r0.fs.length fcc, .bool r0.ch, .slice bac r0.body.length bcc, .slice tac r0.ts.length tcc]) := hh.at 0
                have e84 : (ev (.tmp 84) = .agg #[.string r0.m, .string r0.x, .int .i64 r0.k, .slice far r0.fs.length fcr, .bool r0.ch, .slice bar r0.body.length bcr, .slice tar r0.ts.length tcr]) := hh.at 1
                clear hh
                have ef := hR.func
                refine Each.Goes.enter 10 #[.agg #[.string r0.m, .string r0.x, .int .i64 r0.k, .slice fac r0.fs.length fcc, .bool r0.ch, .slice bac r0.body.length bcc, .slice tac r0.ts.length tcc], .agg #[.string r0.m, .string r0.x, .int .i64 r0.k, .slice far r0.fs.length fcr, .bool r0.ch, .slice bar r0.body.length bcr, .slice tar r0.ts.length tcr]] (by go_simp) ((HSS.out w1 (HRc.out.below hb) (HRr.out.below hb)).mono ?_)
                rintro e w2 ⟨rfl, hb2⟩
                exact ⟨_, rfl, hb2, rfl⟩
              · refine Each.fine rfl (fun ev w1 hR hb hh => ?_)
                have e85 : (ev (.tmp 85) = .bool true) := hh.at 0
                clear hh
                refine Each.Goes.same ?_
                go_simp
                try with_reducible rfl
              · refine Each.fine_when 3 86 rfl rfl (fun ev w1 hh => ?_) (fun hg ev w1 hR hb hh => ?_)
                · exact hh.at 0
                · clear hh
                  have e6 := hR.old 6 rfl
                  simp only [Array.getD_eq_getD_getElem?, List.getElem?_toArray, List.getElem?_cons_succ, List.getElem?_cons_zero, Option.getD_some] at e6
                  have q0 := (HKx.out.below hb).c 0 _ rfl
                  have q1 := (HKx.out.below hb).c 1 _ rfl
                  have q2 := (HKx.out.below hb).c 2 _ rfl
                  have q3 := (HKx.out.below hb).c 3 _ rfl
                  have q4 := (HKx.out.below hb).c 4 _ rfl
                  have q5 := (HKx.out.below hb).c 5 _ rfl
                  have q6 := (HKx.out.below hb).c 6 _ rfl
                  refine Each.Goes.same ?_
                  go_simp
                  try with_reducible rfl
              · refine Each.fine_when 3 86 rfl rfl (fun ev w1 hh => ?_) (fun hg ev w1 hR hb hh => ?_)
                · exact hh.at 0
                · clear hh
                  have e4 := hR.old 4 rfl
                  simp only [Array.getD_eq_getD_getElem?, List.getElem?_toArray, List.getElem?_cons_succ, List.getElem?_cons_zero, Option.getD_some] at e4
                  have q0 := (HKc.out.below hb).c 0 _ rfl
                  have q1 := (HKc.out.below hb).c 1 _ rfl
                  have q2 := (HKc.out.below hb).c 2 _ rfl
                  have q3 := (HKc.out.below hb).c 3 _ rfl
                  have q4 := (HKc.out.below hb).c 4 _ rfl
                  have q5 := (HKc.out.below hb).c 5 _ rfl
                  have q6 := (HKc.out.below hb).c 6 _ rfl
                  refine Each.Goes.same ?_
                  go_simp
                  try with_reducible rfl
              · refine Each.fine_when 3 86 rfl rfl (fun ev w1 hh => ?_) (fun hg ev w1 hR hb hh => ?_)
                · exact hh.at 2
                · have e87 := (show ((true) = true → ev (.tmp 87) = .agg #[.string r0.m, .string r0.x, .int .i64 r0.k, .slice fax r0.fs.length fcx, .bool r0.ch, .slice bax r0.body.length bcx, .slice tax r0.ts.length tcx]) from hh.at 0) hg
                  have e88 := (show ((true) = true → ev (.tmp 88) = .agg #[.string r0.m, .string r0.x, .int .i64 r0.k, .slice fac r0.fs.length fcc, .bool r0.ch, .slice bac r0.body.length bcc, .slice tac r0.ts.length tcc]) from hh.at 1) hg
                  clear hh
                  have ef := hR.func
                  refine Each.Goes.enter 10 #[.agg #[.string r0.m, .string r0.x, .int .i64 r0.k, .slice fax r0.fs.length fcx, .bool r0.ch, .slice bax r0.body.length bcx, .slice tax r0.ts.length tcx], .agg #[.string r0.m, .string r0.x, .int .i64 r0.k, .slice fac r0.fs.length fcc, .bool r0.ch, .slice bac r0.body.length bcc, .slice tac r0.ts.length tcc]] (by go_simp) ((HSX.out w1 (HRx.out.below hb) (HRc.out.below hb)).mono ?_)
                  rintro e w2 ⟨rfl, hb2⟩
                  exact ⟨_, rfl, hb2, rfl⟩
              · refine Each.fine_when 3 86 rfl rfl (fun ev w1 hh => ?_) (fun hg ev w1 hR hb hh => ?_)
                · exact hh.at 1
                · have e89 := (show ((true) = true → ev (.tmp 89) = .bool false) from hh.at 0) hg
                  clear hh
                  refine Each.Goes.same ?_
                  go_simp
                  try with_reducible rfl
              · refine Each.fine rfl (fun ev w1 hR hb hh => ?_)
                have e86 : (ev (.tmp 86) = .bool true) := hh.at 0
                have h90 : ((true) = true → ev (.tmp 90) = .bool true) := hh.at 1
                clear hh
                have ec := hR.const
                refine Each.Goes.same ?_
                have e90 := h90 rfl
                go_simp
                try with_reducible rfl
              · refine Each.fine rfl (fun ev w1 hR hb hh => ?_)
                have e91 : (ev (.tmp 91) = .bool true) := hh.at 0
                clear hh
                refine Each.Goes.same ?_
                go_simp
                try with_reducible rfl
              · refine Each.fine_when 9 92 rfl rfl (fun ev w1 hh => ?_) (fun hg ev w1 hR hb hh => ?_)
                · exact hh.at 0
                · clear hh
                  have e6 := hR.old 6 rfl
                  simp only [Array.getD_eq_getD_getElem?, List.getElem?_toArray, List.getElem?_cons_succ, List.getElem?_cons_zero, Option.getD_some] at e6
                  have q0 := (HKx.out.below hb).c 0 _ rfl
                  have q1 := (HKx.out.below hb).c 1 _ rfl
                  have q2 := (HKx.out.below hb).c 2 _ rfl
                  have q3 := (HKx.out.below hb).c 3 _ rfl
                  have q4 := (HKx.out.below hb).c 4 _ rfl
                  have q5 := (HKx.out.below hb).c 5 _ rfl
                  have q6 := (HKx.out.below hb).c 6 _ rfl
                  refine Each.Goes.same ?_
                  go_simp
                  try with_reducible rfl
              · refine Each.fine_when 9 92 rfl rfl (fun ev w1 hh => ?_) (fun hg ev w1 hR hb hh => ?_)
                · exact hh.at 1
                · have e93 := (show ((true) = true → ev (.tmp 93) = .agg #[.string r0.m, .string r0.x, .int .i64 r0.k, .slice fax r0.fs.length fcx, .bool r0.ch, .slice bax r0.body.length bcx, .slice tax r0.ts.length tcx]) from hh.at 0) hg
                  clear hh
                  have ef := hR.func
                  refine Each.Goes.enter 12 #[.agg #[.string r0.m, .string r0.x, .int .i64 r0.k, .slice fax r0.fs.length fcx, .bool r0.ch, .slice bax r0.body.length bcx, .slice tax r0.ts.length tcx]] (by go_simp) ((HSZ.out w1 (HRx.out.below hb)).mono ?_)
                  rintro e w2 ⟨rfl, hb2⟩
                  exact ⟨_, rfl, hb2, rfl⟩
              · refine Each.fine_when 9 92 rfl rfl (fun ev w1 hh => ?_) (fun hg ev w1 hR hb hh => ?_)
                · exact hh.at 0
                · clear hh
                  have e5 := hR.old 5 rfl
                  simp only [Array.getD_eq_getD_getElem?, List.getElem?_toArray, List.getElem?_cons_succ, List.getElem?_cons_zero, Option.getD_some] at e5
                  refine Each.Goes.same ?_
                  go_simp
                  try with_reducible rfl
              · refine Each.fine_when 9 92 rfl rfl (fun ev w1 hh => ?_) (fun hg ev w1 hR hb hh => ?_)
                · exact hh.at 0
                · clear hh
                  have e6 := hR.old 6 rfl
                  simp only [Array.getD_eq_getD_getElem?, List.getElem?_toArray, List.getElem?_cons_succ, List.getElem?_cons_zero, Option.getD_some] at e6
                  refine Each.Goes.same ?_
                  go_simp
                  try with_reducible rfl
              · refine Each.fine_when 9 92 rfl rfl (fun ev w1 hh => ?_) (fun hg ev w1 hR hb hh => ?_)
                · exact hh.at 1
                · have e96 := (show ((true) = true → ev (.tmp 96) = .pointer (some ⟨gx, 3, none⟩)) from hh.at 0) hg
                  clear hh
                  have q3 := (HKx.out.below hb).c 3 _ rfl
                  refine Each.Goes.same ?_
                  go_simp
                  try with_reducible rfl
              · refine Each.fine_when 9 92 rfl rfl (fun ev w1 hh => ?_) (fun hg ev w1 hR hb hh => ?_)
                · exact hh.at 1
                · have e97 := (show ((true) = true → ev (.tmp 97) = .slice fax r0.fs.length fcx) from hh.at 0) hg
                  clear hh
                  refine Each.Goes.same ?_
                  go_simp
                  try with_reducible rfl
              · refine Each.fine_when 9 92 rfl rfl (fun ev w1 hh => ?_) (fun hg ev w1 hR hb hh => ?_)
                · exact hh.at 2
                · have e95 := (show ((true) = true → ev (.tmp 95) = .int .i64 ((size r0 : Nat) : Int)) from hh.at 0) hg
                  have e98 := (show ((true) = true → ev (.tmp 98) = .int .i64 ((r0.fs.length : Nat) : Int)) from hh.at 1) hg
                  clear hh
                  have b1 := HSM.out
                  refine Each.Goes.same ?_
                  go_simp
                  first | done | with_reducible rfl | exact wrap_in _ (by omega) (by omega)
              · refine Each.fine_when 9 92 rfl rfl (fun ev w1 hh => ?_) (fun hg ev w1 hR hb hh => ?_)
                · exact hh.at 2
                · have e94 := (show ((true) = true → ev (.tmp 94) = .int .i64 (((size r0 + r0.fs.length) : Nat) : Int)) from hh.at 0) hg
                  have e99 := (show ((true) = true → ev (.tmp 99) = .int .i64 (((size r0 + r0.fs.length) : Nat) : Int)) from hh.at 1) hg
                  clear hh
                  refine Each.Goes.same ?_
                  go_simp
                  try with_reducible rfl
              · refine Each.fine rfl (fun ev w1 hR hb hh => ?_)
                have e92 : (ev (.tmp 92) = .bool true) := hh.at 0
                have h100 : ((true) = true → ev (.tmp 100) = .bool true) := hh.at 1
                clear hh
                have ec := hR.const
                refine Each.Goes.same ?_
                have e100 := h100 rfl
                go_simp
                try with_reducible rfl
            intro g1 w2 hb hf
            have z101 : (g1 101 = .bool true) := hf.at 18
            clear hf
            simp only [Each.putg, Act.put, List.setIfInBounds_toArray, List.set_cons_zero, List.set_cons_succ]
            rw [z101]
            simp only [Tree.grow, Tree.put1, List.getElem?_cons_zero, List.getElem?_cons_succ]
            refine Tree.assign _ (by rfl) (by rfl) ?_
            simp only [Act.put, Act.eval, Array.getD_eq_getD_getElem?, List.getElem?_toArray, List.getElem?_cons_zero, List.getElem?_cons_succ, Option.getD_some, List.setIfInBounds_toArray, List.set_cons_zero, List.set_cons_succ]
            refine Tree.done ?_
            clear HKr HKc HKx HRr HRc HRx HSX HSZ HSM HSS
            have HBf := Lib.hid (Base.below_step HBd.out (Base.below_step hbr.out hb))
            clear hb
            go_wp2
            go_ret
            exact ⟨rfl, HBf.out⟩
end code
end Go.Proofs.YtechehbegiinpaaDoor.Rec
