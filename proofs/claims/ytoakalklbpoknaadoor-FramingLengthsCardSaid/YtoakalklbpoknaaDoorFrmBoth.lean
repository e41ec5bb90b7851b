/-
  Layer 10 (framing): the walk of FramingBoth: it returns true, and writes nothing that was there.
-/
import Derived.Test.YtoakalklbpoknaaDoorFrmTells
import Derived.RegionTactic
import Derived.BigRegion
import Derived.Deep.CutBlock
import Derived.Deep.CutRange
import Derived.Deep.DeepCutAuto
namespace Go.Proofs.YtoakalklbpoknaaDoor.Frm
open Go.RowKit Base Txt

theorem conv_cell (x : UInt8) (W : World) (b : Nat) (h : W.cell? ⟨b, 0, none⟩ = some (.int .u8 (x.toNat : Int))) : (convert 23 9 (.slice (some ⟨b, 0, none⟩) 1 1)).run Tryd.prog W = .ok (.string ⟨#[x]⟩) W := by
  have := run_convert_bytes_back (P := Tryd.prog) W 23 9 5 ⟨b, 0, none⟩ 1 [x] Tryd.underlying23 Tryd.underlying5 Tryd.underlying9 (fun j hj => by
    obtain rfl : j = 0 := by simpa using hj
    exact h)
  exact this
/-- What a string of one byte's cell is, as equations that ask nothing. -/
theorem conv_exists : ∃ conv : Nat → World → Option Value → Result Value,
    (∀ (b : Nat) (W : World), (convert 23 9 (.slice (some ⟨b, 0, none⟩) 1 1)).run Tryd.prog W = conv b W (W.cell? ⟨b, 0, none⟩))
    ∧ ∀ (b : Nat) (W : World) (x : UInt8), conv b W (some (.int .u8 (x.toNat : Int))) = .ok (.string ⟨#[x]⟩) W := by
  refine ⟨fun b W o => match o with
    | some (.int .u8 n) => if 0 ≤ n ∧ n < 256 then Result.ok (Value.string ⟨#[UInt8.ofNat n.toNat]⟩) W else (convert 23 9 (.slice (some ⟨b, 0, none⟩) 1 1)).run Tryd.prog W
    | _ => (convert 23 9 (.slice (some ⟨b, 0, none⟩) 1 1)).run Tryd.prog W, fun b W => ?_, fun b W x => ?_⟩
  · dsimp only
    split
    · rename_i n h
      split
      · rename_i hn
        obtain ⟨m, rfl⟩ := Int.eq_ofNat_of_zero_le hn.1
        have hm : m < 256 := by omega
        have := conv_cell (UInt8.ofNat m) W b (by rw [h, UInt8.toNat_ofNat']; congr 2; omega)
        simpa using this
      · rfl
    · rfl
  · dsimp only
    have hx := x.toNat_lt
    rw [if_pos ⟨by omega, by omega⟩, Int.toNat_natCast, UInt8.ofNat_toNat]
/-- What is decided of a coding and a length. -/
def bothV (tw lw ck : Bool) (r : Nat) : Int × Int × Int := if tw = true then (if ck = true then (2, 0, 0) else (0, 0, 501)) else if lw = true then (1, (r : Int), 0) else (0, 0, 400)
theorem hosts_a (nh mh : Bool) : hostsV nh mh 1 [⟨#[97]⟩] = 0 := by cases nh <;> cases mh <;> decide +kernel
theorem coding_c (tb tl : Bool) : coding tb tl [chunked] = true := by cases tb <;> cases tl <;> decide +kernel
theorem length_d : ∀ (r : Fin 10) (lp lc lf ll : Bool), lengthV lp lc lf ll 65536 [⟨#[UInt8.ofNat (48 + r.val)]⟩] = ((r.val : Int), 0) := by decide +kernel
theorem both_val (c : Cl) (ck : Bool) (r : Nat) (hr : r < 10) (x : UInt8) (hx : x.toNat = 48 + r) (fs : List Fld) (h1 : find fs hostN = [⟨#[97]⟩]) (h2 : find fs teN = [chunked]) (h3 : find fs clN = [⟨#[x]⟩]) :
    decideV c ck 65536 1 fs = bothV c.tw c.lw ck r := by
  have hxx : x = UInt8.ofNat (48 + r) := by rw [← hx]; exact (UInt8.ofNat_toNat).symm
  have hl := length_d ⟨r, hr⟩ c.lp c.lc c.lf c.ll
  unfold decideV
  rw [h1, h2, h3, hosts_a, coding_c, hxx, hl]
  obtain ⟨nh, mh, tb, tl, ti, td, tw, lw, lp, lc, lf, ll⟩ := c
  cases tw <;> cases lw <;> cases ck <;> rfl
theorem shr_bit (P j : Nat) (hp : P < 4294967296) : bits .and .u32 ((P : Int) / ((2 ^ j : Nat) : Int)) 1 = if P.testBit j = true then 1 else 0 := by
  have e : (P : Int) / ((2 ^ j : Nat) : Int) = ((P / 2 ^ j : Nat) : Int) := (Int.natCast_ediv P (2 ^ j)).symm
  have h1 : P / 2 ^ j < 4294967296 := Nat.lt_of_le_of_lt (Nat.div_le_self _ _) hp
  rw [e, show (1 : Int) = ((1 : Nat) : Int) from rfl, u32_and_nat _ 1 h1 (by decide), Nat.and_one_is_mod, Nat.testBit_eq_decide_div_mod_eq]
  rcases Nat.mod_two_eq_zero_or_one (P / 2 ^ j) with h | h
  · rw [h]; rfl
  · rw [h]; rfl
/-- A block of a field's two texts. -/
structure FL (w : World) (g : Nat) (n v : ByteArray) : Prop where
  c0 : w.cell? ⟨g, 0, none⟩ = some (.string n)
  c1 : w.cell? ⟨g, 1, none⟩ = some (.string v)
  lt : g < w.heap.size

section code
set_option maxHeartbeats 16000000
set_option maxRecDepth 100000
attribute [local go_sem] Base.some_undef
theorem framingBoth_any (a : Nat) (ck : Bool) (n : Nat) (order : Bool) (w : World) (ha : a < 4294967296) (hn : n < 256) :
    Calls Tryd.prog 6 #[.int .u32 a, .bool ck, .int .u8 n, .bool order] w fun e w' => e = .returned (.bool true) ∧ Below w.heap.size w w' := by
  obtain ⟨conv, hcv1, hcv2⟩ := conv_exists
  have hr10 : n % 10 < 10 := Nat.mod_lt _ (by decide)
  have him : Int.tmod (n : Int) 10 = ((n % 10 : Nat) : Int) := by rw [Int.tmod_eq_emod_of_nonneg (by omega)]; omega
  obtain ⟨r, hr⟩ : ∃ r, n % 10 = r := ⟨_, rfl⟩
  rw [hr] at hr10 him
  obtain ⟨x, hx⟩ : ∃ x : UInt8, x.toNat = 48 + r := ⟨UInt8.ofNat (48 + r), by rw [UInt8.toNat_ofNat']; omega⟩
  have hwr : IntKind.u8.wrap (48 + (r : Int)) = (x.toNat : Int) := by rw [IntKind.wrap_u8, hx]; omega
  have HX := Lib.hid hx
  have HR := Lib.hid hr
  clear hx hr
  go_enter Tryd.func6, Tryd.ntmps6
  go_upto_region 5 with (first
    | (go_at_call 24; (with_reducible refine (Bnd.rusual_any _).mono ?_); rintro e w2 ⟨rfl, hb⟩
       have HB2 := Lib.hid (Base.below_step HB1.out hb)
       clear hb)
    | (go_at_call 8; (with_reducible refine (known_any _).mono ?_); rintro e w1 ⟨rfl, hb⟩
       have HB1 := Lib.hid hb
       clear hb))
  have HBB := Lib.hid (BB.new HB2.out 30 1024 32 8192 65536 32 8 4 20 ck true)
  generalize w2.alloc (.cells #[.int .i64 1024, .int .i64 32, .int .i64 8192, .int .i64 65536, .int .i64 32, .int .i64 8, .int .i64 4, .int .i64 20, .bool ck, .bool true] 30) = W at *
  generalize w2.heap.size = g at *
  go_cut [10, 11] from 21 to 27 (fun p q wx => ∃ gt gc : Nat, p = .pointer (some ⟨gt, 0, none⟩) ∧ q = .pointer (some ⟨gc, 0, none⟩) ∧ Hid (FL wx gt ⟨#[84, 114, 97, 110, 115, 102, 101, 114, 45, 69, 110, 99, 111, 100, 105, 110, 103]⟩ ⟨#[99, 104, 117, 110, 107, 101, 100]⟩) ∧ Hid (FL wx gc ⟨#[67, 111, 110, 116, 101, 110, 116, 45, 76, 101, 110, 103, 116, 104]⟩ ⟨#[x]⟩) ∧ Hid (BB 1024 32 8192 65536 32 8 4 20 ck true w g wx))
  case first =>
    go_region
    all_goals
      go_wp2_with fail
      go_meet
      case rel => exact ⟨_, _, rfl, rfl, Lib.hid ⟨by go_simp, by go_simp, by simp <;> omega⟩, Lib.hid ⟨by go_simp, by go_simp, by simp <;> omega⟩, Lib.hid (HBB.out.step (by
        repeat (first | exact Below.refl _ _ | with_reducible refine Base.below_drewN ?_ _ | (refine Below.drew ?_) | (refine Below.alloc ?_ (by simp <;> omega) _) | (refine Below.setCell ?_ (by simp <;> omega) _))))⟩
  case rest =>
    obtain ⟨gt, gc, rfl, rfl, HT, HC, HBX⟩ := hcut
    obtain ⟨t0, t1, tl⟩ := HT.out
    obtain ⟨e0, e1, el⟩ := HC.out
    obtain ⟨⟨q0, q1, q2, q3, q4, q5, q6, q7, q8, q9⟩, ql, qb⟩ := HBX.out
    have HQB := Lib.hid qb
    have tl2 : gt < wc.heap.size + 1 := by omega
    have el2 : gc < wc.heap.size + 1 := by omega
    have ql2 : g < wc.heap.size + 1 := by omega
    clear qb HT HC HBX HBB
    have hm := Seat.mask30 a ha
    obtain ⟨P, hpp⟩ : ∃ p, a % 1073741824 = p := ⟨_, rfl⟩
    have hp : P < 4294967296 := by omega
    rw [hpp] at hm
    have hwi : wrap64 (r : Int) = (r : Int) := by unfold wrap64; omega
    clear hpp ha hn hwr
    cases order with
    | false =>
      have HF : Hid (find [(⟨#[72, 111, 115, 116]⟩, ⟨#[97]⟩), (⟨#[84, 114, 97, 110, 115, 102, 101, 114, 45, 69, 110, 99, 111, 100, 105, 110, 103]⟩, ⟨#[99, 104, 117, 110, 107, 101, 100]⟩), (⟨#[67, 111, 110, 116, 101, 110, 116, 45, 76, 101, 110, 103, 116, 104]⟩, ⟨#[x]⟩)] hostN = [⟨#[97]⟩] ∧ find [(⟨#[72, 111, 115, 116]⟩, ⟨#[97]⟩), (⟨#[84, 114, 97, 110, 115, 102, 101, 114, 45, 69, 110, 99, 111, 100, 105, 110, 103]⟩, ⟨#[99, 104, 117, 110, 107, 101, 100]⟩), (⟨#[67, 111, 110, 116, 101, 110, 116, 45, 76, 101, 110, 103, 116, 104]⟩, ⟨#[x]⟩)] teN = [chunked] ∧ find [(⟨#[72, 111, 115, 116]⟩, ⟨#[97]⟩), (⟨#[84, 114, 97, 110, 115, 102, 101, 114, 45, 69, 110, 99, 111, 100, 105, 110, 103]⟩, ⟨#[99, 104, 117, 110, 107, 101, 100]⟩), (⟨#[67, 111, 110, 116, 101, 110, 116, 45, 76, 101, 110, 103, 116, 104]⟩, ⟨#[x]⟩)] clN = [⟨#[x]⟩]) := Lib.hid ⟨by kernel_rfl, by kernel_rfl, by kernel_rfl⟩
      have HV := Lib.hid (both_val (clOf P) ck r hr10 x HX.out [(⟨#[72, 111, 115, 116]⟩, ⟨#[97]⟩), (⟨#[84, 114, 97, 110, 115, 102, 101, 114, 45, 69, 110, 99, 111, 100, 105, 110, 103]⟩, ⟨#[99, 104, 117, 110, 107, 101, 100]⟩), (⟨#[67, 111, 110, 116, 101, 110, 116, 45, 76, 101, 110, 103, 116, 104]⟩, ⟨#[x]⟩)] HF.out.1 HF.out.2.1 HF.out.2.2)
      have K : Hid (∀ (U : World) (gg : Nat) (hg : gg = U.heap.size), Calls Tryd.prog 14 #[.int .u32 (P : Nat), Bnd.bnd 1024 32 8192 65536 32 8 4 20 ck true, .int .i64 1, .slice (some ⟨gg, 0, none⟩) 3 3] (U.alloc (.cells #[.string ⟨#[72, 111, 115, 116]⟩, .string ⟨#[97]⟩, .string ⟨#[84, 114, 97, 110, 115, 102, 101, 114, 45, 69, 110, 99, 111, 100, 105, 110, 103]⟩, .string ⟨#[99, 104, 117, 110, 107, 101, 100]⟩, .string ⟨#[67, 111, 110, 116, 101, 110, 116, 45, 76, 101, 110, 103, 116, 104]⟩, .string ⟨#[x]⟩] 34)) fun e w' =>
          e = .returned (.tuple #[fr (bothV (Qk.has P 21) (Qk.has P 22) ck r).1 (bothV (Qk.has P 21) (Qk.has P 22) ck r).2.1, .int .i64 (bothV (Qk.has P 21) (Qk.has P 22) ck r).2.2]) ∧ Below (U.alloc (.cells #[.string ⟨#[72, 111, 115, 116]⟩, .string ⟨#[97]⟩, .string ⟨#[84, 114, 97, 110, 115, 102, 101, 114, 45, 69, 110, 99, 111, 100, 105, 110, 103]⟩, .string ⟨#[99, 104, 117, 110, 107, 101, 100]⟩, .string ⟨#[67, 111, 110, 116, 101, 110, 116, 45, 76, 101, 110, 103, 116, 104]⟩, .string ⟨#[x]⟩] 34)).heap.size (U.alloc (.cells #[.string ⟨#[72, 111, 115, 116]⟩, .string ⟨#[97]⟩, .string ⟨#[84, 114, 97, 110, 115, 102, 101, 114, 45, 69, 110, 99, 111, 100, 105, 110, 103]⟩, .string ⟨#[99, 104, 117, 110, 107, 101, 100]⟩, .string ⟨#[67, 111, 110, 116, 101, 110, 116, 45, 76, 101, 110, 103, 116, 104]⟩, .string ⟨#[x]⟩] 34)) w') := Lib.hid fun U gg hg => by
        have := decide_any P hp 1024 32 8192 65536 32 8 4 20 ck true (by decide) 1 (some ⟨gg, 0, none⟩) 3 3 [(⟨#[72, 111, 115, 116]⟩, ⟨#[97]⟩), (⟨#[84, 114, 97, 110, 115, 102, 101, 114, 45, 69, 110, 99, 111, 100, 105, 110, 103]⟩, ⟨#[99, 104, 117, 110, 107, 101, 100]⟩), (⟨#[67, 111, 110, 116, 101, 110, 116, 45, 76, 101, 110, 103, 116, 104]⟩, ⟨#[x]⟩)] _ (Flds.made U 34 _ 3 rfl _ rfl gg hg) (by decide) (by
          intro f hf
          simp only [List.mem_cons, List.not_mem_nil, or_false] at hf
          rcases hf with rfl | rfl | rfl <;> exact ⟨Nat.le_of_ble_eq_true rfl, Nat.le_of_ble_eq_true rfl⟩)
        rw [HV.out] at this
        exact this
      clear HF HV HX
      have s21 := shr_bit P 21 hp
      have s22 := shr_bit P 22 hp
      rw [show (((2 ^ 21 : Nat)) : Int) = 2097152 from rfl] at s21
      rw [show (((2 ^ 22 : Nat)) : Int) = 4194304 from rfl] at s22
      rw [show Qk.has P 21 = P.testBit 21 from rfl, show Qk.has P 22 = P.testBit 22 from rfl] at K
      generalize P.testBit 21 = b21 at *
      generalize P.testBit 22 = b22 at *
      cases b21 <;> cases b22 <;> cases ck
      all_goals
        simp only [bothV, if_true, if_false, Bool.false_eq_true] at K s21 s22
        go_wp2_with (go_at_call 14; (with_reducible refine (K.out _ _ ?_).mono ?_); (· simp); rintro e w8 ⟨rfl, hb⟩
                     have HB8 := Lib.hid (Base.below_step (HQB.out.alloc HQB.out.size _) hb)
                     clear hb)
        go_ret
        exact ⟨rfl, HB8.out.alloc HB8.out.size _⟩
    | true =>
      have HF : Hid (find [(⟨#[67, 111, 110, 116, 101, 110, 116, 45, 76, 101, 110, 103, 116, 104]⟩, ⟨#[x]⟩), (⟨#[72, 111, 115, 116]⟩, ⟨#[97]⟩), (⟨#[84, 114, 97, 110, 115, 102, 101, 114, 45, 69, 110, 99, 111, 100, 105, 110, 103]⟩, ⟨#[99, 104, 117, 110, 107, 101, 100]⟩)] hostN = [⟨#[97]⟩] ∧ find [(⟨#[67, 111, 110, 116, 101, 110, 116, 45, 76, 101, 110, 103, 116, 104]⟩, ⟨#[x]⟩), (⟨#[72, 111, 115, 116]⟩, ⟨#[97]⟩), (⟨#[84, 114, 97, 110, 115, 102, 101, 114, 45, 69, 110, 99, 111, 100, 105, 110, 103]⟩, ⟨#[99, 104, 117, 110, 107, 101, 100]⟩)] teN = [chunked] ∧ find [(⟨#[67, 111, 110, 116, 101, 110, 116, 45, 76, 101, 110, 103, 116, 104]⟩, ⟨#[x]⟩), (⟨#[72, 111, 115, 116]⟩, ⟨#[97]⟩), (⟨#[84, 114, 97, 110, 115, 102, 101, 114, 45, 69, 110, 99, 111, 100, 105, 110, 103]⟩, ⟨#[99, 104, 117, 110, 107, 101, 100]⟩)] clN = [⟨#[x]⟩]) := Lib.hid ⟨by kernel_rfl, by kernel_rfl, by kernel_rfl⟩
      have HV := Lib.hid (both_val (clOf P) ck r hr10 x HX.out [(⟨#[67, 111, 110, 116, 101, 110, 116, 45, 76, 101, 110, 103, 116, 104]⟩, ⟨#[x]⟩), (⟨#[72, 111, 115, 116]⟩, ⟨#[97]⟩), (⟨#[84, 114, 97, 110, 115, 102, 101, 114, 45, 69, 110, 99, 111, 100, 105, 110, 103]⟩, ⟨#[99, 104, 117, 110, 107, 101, 100]⟩)] HF.out.1 HF.out.2.1 HF.out.2.2)
      have K : Hid (∀ (U : World) (gg : Nat) (hg : gg = U.heap.size), Calls Tryd.prog 14 #[.int .u32 (P : Nat), Bnd.bnd 1024 32 8192 65536 32 8 4 20 ck true, .int .i64 1, .slice (some ⟨gg, 0, none⟩) 3 3] (U.alloc (.cells #[.string ⟨#[67, 111, 110, 116, 101, 110, 116, 45, 76, 101, 110, 103, 116, 104]⟩, .string ⟨#[x]⟩, .string ⟨#[72, 111, 115, 116]⟩, .string ⟨#[97]⟩, .string ⟨#[84, 114, 97, 110, 115, 102, 101, 114, 45, 69, 110, 99, 111, 100, 105, 110, 103]⟩, .string ⟨#[99, 104, 117, 110, 107, 101, 100]⟩] 34)) fun e w' =>
          e = .returned (.tuple #[fr (bothV (Qk.has P 21) (Qk.has P 22) ck r).1 (bothV (Qk.has P 21) (Qk.has P 22) ck r).2.1, .int .i64 (bothV (Qk.has P 21) (Qk.has P 22) ck r).2.2]) ∧ Below (U.alloc (.cells #[.string ⟨#[67, 111, 110, 116, 101, 110, 116, 45, 76, 101, 110, 103, 116, 104]⟩, .string ⟨#[x]⟩, .string ⟨#[72, 111, 115, 116]⟩, .string ⟨#[97]⟩, .string ⟨#[84, 114, 97, 110, 115, 102, 101, 114, 45, 69, 110, 99, 111, 100, 105, 110, 103]⟩, .string ⟨#[99, 104, 117, 110, 107, 101, 100]⟩] 34)).heap.size (U.alloc (.cells #[.string ⟨#[67, 111, 110, 116, 101, 110, 116, 45, 76, 101, 110, 103, 116, 104]⟩, .string ⟨#[x]⟩, .string ⟨#[72, 111, 115, 116]⟩, .string ⟨#[97]⟩, .string ⟨#[84, 114, 97, 110, 115, 102, 101, 114, 45, 69, 110, 99, 111, 100, 105, 110, 103]⟩, .string ⟨#[99, 104, 117, 110, 107, 101, 100]⟩] 34)) w') := Lib.hid fun U gg hg => by
        have := decide_any P hp 1024 32 8192 65536 32 8 4 20 ck true (by decide) 1 (some ⟨gg, 0, none⟩) 3 3 [(⟨#[67, 111, 110, 116, 101, 110, 116, 45, 76, 101, 110, 103, 116, 104]⟩, ⟨#[x]⟩), (⟨#[72, 111, 115, 116]⟩, ⟨#[97]⟩), (⟨#[84, 114, 97, 110, 115, 102, 101, 114, 45, 69, 110, 99, 111, 100, 105, 110, 103]⟩, ⟨#[99, 104, 117, 110, 107, 101, 100]⟩)] _ (Flds.made U 34 _ 3 rfl _ rfl gg hg) (by decide) (by
          intro f hf
          simp only [List.mem_cons, List.not_mem_nil, or_false] at hf
          rcases hf with rfl | rfl | rfl <;> exact ⟨Nat.le_of_ble_eq_true rfl, Nat.le_of_ble_eq_true rfl⟩)
        rw [HV.out] at this
        exact this
      clear HF HV HX
      have s21 := shr_bit P 21 hp
      have s22 := shr_bit P 22 hp
      rw [show (((2 ^ 21 : Nat)) : Int) = 2097152 from rfl] at s21
      rw [show (((2 ^ 22 : Nat)) : Int) = 4194304 from rfl] at s22
      rw [show Qk.has P 21 = P.testBit 21 from rfl, show Qk.has P 22 = P.testBit 22 from rfl] at K
      generalize P.testBit 21 = b21 at *
      generalize P.testBit 22 = b22 at *
      cases b21 <;> cases b22 <;> cases ck
      all_goals
        simp only [bothV, if_true, if_false, Bool.false_eq_true] at K s21 s22
        go_wp2_with (go_at_call 14; (with_reducible refine (K.out _ _ ?_).mono ?_); (· simp); rintro e w8 ⟨rfl, hb⟩
                     have HB8 := Lib.hid (Base.below_step ((HQB.out.alloc HQB.out.size _).alloc (by have := HQB.out.size; simp; omega) _) hb)
                     clear hb)
        go_ret
        exact ⟨rfl, HB8.out.alloc HB8.out.size _⟩
end code
end Go.Proofs.YtoakalklbpoknaaDoor.Frm
