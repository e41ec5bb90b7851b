/-
  Layer 12 (record): what package record's calls answer, of records of any size up to a great one.
-/
import Derived.Test.YtibnobdbmojjhaaGreatDoorRecWords
import Derived.Test.YtibnobdbmojjhaaGreatDoorTextFind
import Derived.Test.YtibnobdbmojjhaaGreatDoorEach
namespace Go.Proofs.YtibnobdbmojjhaaGreatDoor.Rec
open Go.RowKit Base Txt

section code
set_option maxHeartbeats 1000000
end code
def plainEq (a b : R) : Bool := decide (a.m = b.m) && (decide (a.x = b.x) && (decide (a.k = b.k) && decide (a.ch = b.ch)))
theorem ba_list_inj {a b : List UInt8} : ba a = ba b ↔ a = b := ⟨fun h => by have := congrArg (fun x : ByteArray => x.data.toList) h; simpa [ba] using this, fun h => by rw [h]⟩
section code
set_option maxHeartbeats 1000000
theorem same_parts (r r' : R) : (((plainEq r r' && decide (r.fs = r'.fs)) && decide (r.body = r'.body)) && decide (r.ts = r'.ts)) = same r r' := by
  unfold plainEq same
  cases decide (r.m = r'.m) <;> cases decide (r.x = r'.x) <;> cases decide (r.k = r'.k) <;> cases decide (r.fs = r'.fs) <;> cases decide (r.ch = r'.ch) <;> simp
/-- How long the names and values of some fields are. -/
theorem weigh_any (a : Option Addr) (n cap : Nat) (fs : List Fld) (w : World) (hv : Flds w a n fs) (hn : n ≤ 500) (hz : ∀ f ∈ fs, f.1.size ≤ 1000000 ∧ f.2.size ≤ 1000000) :
    Calls Tryz.prog 78 #[.slice a n cap] w fun e w' => e = .returned (.int .i64 (weigh fs : Nat)) ∧ Below w.heap.size w w' := by
  have HV := Lib.hid hv
  have HL := Lib.hid hv.1
  have HZ := Lib.hid hz
  have HM := Lib.hid (weigh_le fs 1000000 hz)
  clear hv hz
  go_enter Tryz.func78, Tryz.ntmps78
  go_wp2
  go_loopw [3, 8] (fun v i wr => ∃ k : Nat, k ≤ n ∧ i = .int .i64 k ∧ v = .int .i64 ((weigh (fs.take k) : Nat) : Int) ∧ Hid (Below w.heap.size w wr)) (fun _ i _ => n - (intOf i).toNat)
  case atStart => exact ⟨0, Nat.zero_le _, rfl, rfl, Lib.hid (Below.refl _ _)⟩
  case round =>
    obtain ⟨k, hk, rfl, rfl, hbr⟩ := hrel
    rcases Nat.lt_or_ge k n with hlt | hge
    · obtain ⟨bl, off, rfl, hbl, hc⟩ := (HV.out.below hbr.out).2 (by omega)
      obtain ⟨hc0, hc1⟩ := hc k hlt
      have hkl : k < fs.length := by rw [HL.out]; exact hlt
      have hin : fs[k]?.getD dflt ∈ fs := by rw [List.getElem?_eq_getElem hkl]; exact List.getElem_mem hkl
      obtain ⟨y0, y1⟩ := HZ.out _ hin
      have hsn := weigh_snoc fs k hkl
      have hle := weigh_take_le fs k
      have hm := HM.out
      rw [HL.out] at hm
      clear hc hin hkl
      generalize fs[k]?.getD dflt = f at *
      obtain ⟨f0, f1⟩ := f
      simp only at hc0 hc1 y0 y1 hsn
      generalize weigh (fs.take k) = S at *
      have i1 : (k : Int) < (n : Int) := by omega
      have e1 : (((f0.size + f1.size) : Nat) : Int) = (f0.size : Int) + (f1.size : Int) := by omega
      have b1 : -9223372036854775808 ≤ (f0.size : Int) + (f1.size : Int) ∧ (f0.size : Int) + (f1.size : Int) ≤ 9223372036854775807 := ⟨by omega, by omega⟩
      have b2 : -9223372036854775808 ≤ (S : Int) + ((f0.size : Int) + (f1.size : Int)) ∧ (S : Int) + ((f0.size : Int) + (f1.size : Int)) ≤ 9223372036854775807 := ⟨by omega, by omega⟩
      have H1 : Hid ((S : Int) + ((f0.size : Int) + (f1.size : Int)) = ((weigh (fs.take (k + 1)) : Nat) : Int)) := Lib.hid (by omega)
      have H3 : ∀ o, Hid (Below w.heap.size w (wr.alloc o)) := fun o => Lib.hid (hbr.out.alloc hbr.out.size o)
      clear hsn hle hm y0 y1 e1
      obtain ⟨w1, w3⟩ := wraps _ b1
      obtain ⟨w2, w4⟩ := wraps _ b2
      clear b1 b2
      go_wp2
      go_roundw
      case rel => exact ⟨k + 1, by omega, by go_num, by rw [H1.out], H3 _⟩
      case measure => simp [intOf]; omega
    · obtain rfl : k = n := by omega
      have HT := Lib.hid (show fs.take k = fs from List.take_of_length_le (by rw [HL.out]; omega))
      go_wp2
      go_ret
      exact ⟨by first | rfl | (rw [HT.out]; rfl), hbr.out⟩
theorem size_any (V : Value) (r : R) (w : World) (h : Reads w V r) (hf : Fit r) : Calls Tryz.prog 55 #[V] w fun e w' => e = .returned (.int .i64 (size r : Nat)) ∧ Below w.heap.size w w' := by
  have HF := Lib.hid hf
  have HV := Lib.hid h
  obtain ⟨fa, fc, ba, bc, ta, tc, rfl, h1, h2, h3⟩ := h
  have H1 := Lib.hid h1; have H3 := Lib.hid h3
  have M1 := Lib.hid (weigh_le r.fs 1000000 hf.f); have M3 := Lib.hid (weigh_le r.ts 1000000 hf.t)
  clear hf h1 h2 h3
  have hsz : size r = (((r.m.size + r.x.size) + weigh r.fs) + r.body.length) + weigh r.ts := by unfold size; omega
  rw [hsz]
  clear hsz
  go_enter Tryz.func55, Tryz.ntmps55
  go_wp2_with fail
  have hbw0 := Lib.hid (((Below.refl _ _).alloc (Nat.le_refl _) (.cells #[.string r.m, .string r.x, .int .i64 r.k, .slice fa r.fs.length fc, .bool r.ch, .slice ba r.body.length bc, .slice ta r.ts.length tc] 58)) : Below w.heap.size w _)
  have hbw := Lib.hid (Base.below_drewN hbw0.out 1)
  have HA := Lib.hid ((Bk.new w w.heap.size rfl 58 [.string r.m, .string r.x, .int .i64 r.k, .slice fa r.fs.length fc, .bool r.ch, .slice ba r.body.length bc, .slice ta r.ts.length tc]).drew 1)
  replace H1 := Lib.hid (H1.out.below hbw.out); replace H3 := Lib.hid (H3.out.below hbw.out)
  clear HV
  refine Each.region_all 20 [3, 4, 5, 6, 7, 8, 9, 10, 11, 12, 13, 14, 15, 16, 17, 18, 19, 20, 21, 2]
      [fun v _ => v = .pointer (some ⟨w.heap.size, 0, none⟩),
        fun v _ => v = .string r.m,
        fun v _ => v = .int .i64 ((r.m.size : Nat) : Int),
        fun v _ => v = .pointer (some ⟨w.heap.size, 1, none⟩),
        fun v _ => v = .string r.x,
        fun v _ => v = .int .i64 ((r.x.size : Nat) : Int),
        fun v _ => v = .int .i64 (((r.m.size + r.x.size) : Nat) : Int),
        fun v _ => v = .pointer (some ⟨w.heap.size, 3, none⟩),
        fun v _ => v = .slice fa r.fs.length fc,
        fun v _ => v = .int .i64 ((weigh r.fs : Nat) : Int),
        fun v _ => v = .int .i64 ((((r.m.size + r.x.size) + weigh r.fs) : Nat) : Int),
        fun v _ => v = .pointer (some ⟨w.heap.size, 5, none⟩),
        fun v _ => v = .slice ba r.body.length bc,
        fun v _ => v = .int .i64 ((r.body.length : Nat) : Int),
        fun v _ => v = .int .i64 (((((r.m.size + r.x.size) + weigh r.fs) + r.body.length) : Nat) : Int),
        fun v _ => v = .pointer (some ⟨w.heap.size, 6, none⟩),
        fun v _ => v = .slice ta r.ts.length tc,
        fun v _ => v = .int .i64 ((weigh r.ts : Nat) : Int),
        fun v _ => v = .int .i64 ((((((r.m.size + r.x.size) + weigh r.fs) + r.body.length) + weigh r.ts) : Nat) : Int),
        fun v _ => v = .int .i64 ((((((r.m.size + r.x.size) + weigh r.fs) + r.body.length) + weigh r.ts) : Nat) : Int)]
       (by kernel_rfl) (by kernel_rfl) (by kernel_rfl) (by kernel_rfl) (fun _ _ d _ _ h => by cases d <;> exact h) (by rfl) (by rfl)
      ⟨Each.Lasts.eq _, Each.Lasts.eq _, Each.Lasts.eq _, Each.Lasts.eq _, Each.Lasts.eq _, Each.Lasts.eq _, Each.Lasts.eq _, Each.Lasts.eq _, Each.Lasts.eq _, Each.Lasts.eq _, Each.Lasts.eq _, Each.Lasts.eq _, Each.Lasts.eq _, Each.Lasts.eq _, Each.Lasts.eq _, Each.Lasts.eq _, Each.Lasts.eq _, Each.Lasts.eq _, Each.Lasts.eq _, Each.Lasts.eq _, trivial⟩ ?_ ?_
  · refine ⟨?_, ?_, ?_, ?_, ?_, ?_, ?_, ?_, ?_, ?_, ?_, ?_, ?_, ?_, ?_, ?_, ?_, ?_, ?_, ?_, trivial⟩
    · refine Each.fine rfl (fun ev w1 hR hb hh => ?_)
      clear hh
      have e1 := hR.old 1 rfl
      simp only [Array.getD_eq_getD_getElem?, List.getElem?_toArray, List.getElem?_cons_succ, List.getElem?_cons_zero, Option.getD_some] at e1
      refine Each.Goes.same ?_
      go_simp
      try with_reducible rfl
    · refine Each.fine rfl (fun ev w1 hR hb hh => ?_)
      have e3 : (ev (.tmp 3) = .pointer (some ⟨w.heap.size, 0, none⟩)) := hh.at 0
      clear hh
      have q0 := (HA.out.below hb).c 0 _ rfl
      refine Each.Goes.same ?_
      go_simp
      try with_reducible rfl
    · refine Each.fine rfl (fun ev w1 hR hb hh => ?_)
      have e4 : (ev (.tmp 4) = .string r.m) := hh.at 0
      clear hh
      refine Each.Goes.same ?_
      go_simp
      try with_reducible rfl
    · refine Each.fine rfl (fun ev w1 hR hb hh => ?_)
      clear hh
      have e1 := hR.old 1 rfl
      simp only [Array.getD_eq_getD_getElem?, List.getElem?_toArray, List.getElem?_cons_succ, List.getElem?_cons_zero, Option.getD_some] at e1
      refine Each.Goes.same ?_
      go_simp
      try with_reducible rfl
    · refine Each.fine rfl (fun ev w1 hR hb hh => ?_)
      have e6 : (ev (.tmp 6) = .pointer (some ⟨w.heap.size, 1, none⟩)) := hh.at 0
      clear hh
      have q1 := (HA.out.below hb).c 1 _ rfl
      refine Each.Goes.same ?_
      go_simp
      try with_reducible rfl
    · refine Each.fine rfl (fun ev w1 hR hb hh => ?_)
      have e7 : (ev (.tmp 7) = .string r.x) := hh.at 0
      clear hh
      refine Each.Goes.same ?_
      go_simp
      try with_reducible rfl
    · refine Each.fine rfl (fun ev w1 hR hb hh => ?_)
      have e5 : (ev (.tmp 5) = .int .i64 ((r.m.size : Nat) : Int)) := hh.at 0
      have e8 : (ev (.tmp 8) = .int .i64 ((r.x.size : Nat) : Int)) := hh.at 1
      clear hh
      have b1 := HF.out.m; have b2 := HF.out.x; have b3 := HF.out.fs; have b4 := HF.out.ts; have b5 := HF.out.body; have b6 := M1.out; have b7 := M3.out
      refine Each.Goes.same ?_
      go_simp
      first | done | with_reducible rfl | exact wrap_in _ (by omega) (by omega)
    · refine Each.fine rfl (fun ev w1 hR hb hh => ?_)
      clear hh
      have e1 := hR.old 1 rfl
      simp only [Array.getD_eq_getD_getElem?, List.getElem?_toArray, List.getElem?_cons_succ, List.getElem?_cons_zero, Option.getD_some] at e1
      refine Each.Goes.same ?_
      go_simp
      try with_reducible rfl
    · refine Each.fine rfl (fun ev w1 hR hb hh => ?_)
      have e10 : (ev (.tmp 10) = .pointer (some ⟨w.heap.size, 3, none⟩)) := hh.at 0
      clear hh
      have q3 := (HA.out.below hb).c 3 _ rfl
      refine Each.Goes.same ?_
      go_simp
      try with_reducible rfl
    · refine Each.fine rfl (fun ev w1 hR hb hh => ?_)
      have e11 : (ev (.tmp 11) = .slice fa r.fs.length fc) := hh.at 0
      clear hh
      have ef := hR.func
      refine Each.Goes.enter 78 #[.slice fa r.fs.length fc] (by go_simp) (((weigh_any fa _ fc _ w1 (H1.out.below hb) HF.out.fs HF.out.f)).mono ?_)
      rintro e w2 ⟨rfl, hb2⟩
      exact ⟨_, rfl, hb2, rfl⟩
    · refine Each.fine rfl (fun ev w1 hR hb hh => ?_)
      have e9 : (ev (.tmp 9) = .int .i64 (((r.m.size + r.x.size) : Nat) : Int)) := hh.at 0
      have e12 : (ev (.tmp 12) = .int .i64 ((weigh r.fs : Nat) : Int)) := hh.at 1
      clear hh
      have b1 := HF.out.m; have b2 := HF.out.x; have b3 := HF.out.fs; have b4 := HF.out.ts; have b5 := HF.out.body; have b6 := M1.out; have b7 := M3.out
      refine Each.Goes.same ?_
      go_simp
      first | done | with_reducible rfl | exact wrap_in _ (by omega) (by omega)
    · refine Each.fine rfl (fun ev w1 hR hb hh => ?_)
      clear hh
      have e1 := hR.old 1 rfl
      simp only [Array.getD_eq_getD_getElem?, List.getElem?_toArray, List.getElem?_cons_succ, List.getElem?_cons_zero, Option.getD_some] at e1
      refine Each.Goes.same ?_
      go_simp
      try with_reducible rfl
    · refine Each.fine rfl (fun ev w1 hR hb hh => ?_)
      have e14 : (ev (.tmp 14) = .pointer (some ⟨w.heap.size, 5, none⟩)) := hh.at 0
      clear hh
      have q5 := (HA.out.below hb).c 5 _ rfl
      refine Each.Goes.same ?_
      go_simp
      try with_reducible rfl
    · refine Each.fine rfl (fun ev w1 hR hb hh => ?_)
      have e15 : (ev (.tmp 15) = .slice ba r.body.length bc) := hh.at 0
      clear hh
      refine Each.Goes.same ?_
      go_simp
      try with_reducible rfl
    · refine Each.fine rfl (fun ev w1 hR hb hh => ?_)
      have e13 : (ev (.tmp 13) = .int .i64 ((((r.m.size + r.x.size) + weigh r.fs) : Nat) : Int)) := hh.at 0
      have e16 : (ev (.tmp 16) = .int .i64 ((r.body.length : Nat) : Int)) := hh.at 1
      clear hh
      have b1 := HF.out.m; have b2 := HF.out.x; have b3 := HF.out.fs; have b4 := HF.out.ts; have b5 := HF.out.body; have b6 := M1.out; have b7 := M3.out
      refine Each.Goes.same ?_
      go_simp
      first | done | with_reducible rfl | exact wrap_in _ (by omega) (by omega)
    · refine Each.fine rfl (fun ev w1 hR hb hh => ?_)
      clear hh
      have e1 := hR.old 1 rfl
      simp only [Array.getD_eq_getD_getElem?, List.getElem?_toArray, List.getElem?_cons_succ, List.getElem?_cons_zero, Option.getD_some] at e1
      refine Each.Goes.same ?_
      go_simp
      try with_reducible rfl
    · refine Each.fine rfl (fun ev w1 hR hb hh => ?_)
      have e18 : (ev (.tmp 18) = .pointer (some ⟨w.heap.size, 6, none⟩)) := hh.at 0
      clear hh
      have q6 := (HA.out.below hb).c 6 _ rfl
      refine Each.Goes.same ?_
      go_simp
      try with_reducible rfl
    · refine Each.fine rfl (fun ev w1 hR hb hh => ?_)
      have e19 : (ev (.tmp 19) = .slice ta r.ts.length tc) := hh.at 0
      clear hh
      have ef := hR.func
      refine Each.Goes.enter 78 #[.slice ta r.ts.length tc] (by go_simp) (((weigh_any ta _ tc _ w1 (H3.out.below hb) HF.out.ts HF.out.t)).mono ?_)
      rintro e w2 ⟨rfl, hb2⟩
      exact ⟨_, rfl, hb2, rfl⟩
    · refine Each.fine rfl (fun ev w1 hR hb hh => ?_)
      have e17 : (ev (.tmp 17) = .int .i64 (((((r.m.size + r.x.size) + weigh r.fs) + r.body.length) : Nat) : Int)) := hh.at 0
      have e20 : (ev (.tmp 20) = .int .i64 ((weigh r.ts : Nat) : Int)) := hh.at 1
      clear hh
      have b1 := HF.out.m; have b2 := HF.out.x; have b3 := HF.out.fs; have b4 := HF.out.ts; have b5 := HF.out.body; have b6 := M1.out; have b7 := M3.out
      refine Each.Goes.same ?_
      go_simp
      first | done | with_reducible rfl | exact wrap_in _ (by omega) (by omega)
    · refine Each.fine rfl (fun ev w1 hR hb hh => ?_)
      have e21 : (ev (.tmp 21) = .int .i64 ((((((r.m.size + r.x.size) + weigh r.fs) + r.body.length) + weigh r.ts) : Nat) : Int)) := hh.at 0
      clear hh
      refine Each.Goes.same ?_
      go_simp
      try with_reducible rfl
  intro g1 w2 hb hf
  have z2 : (g1 2 = .int .i64 ((((((r.m.size + r.x.size) + weigh r.fs) + r.body.length) + weigh r.ts) : Nat) : Int)) := hf.at 19
  clear hf
  simp only [Each.putg, Act.put, List.setIfInBounds_toArray, List.set_cons_zero, List.set_cons_succ]
  rw [z2]
  go_wp2
  go_ret
  exact ⟨rfl, Base.below_step hbw0.out hb⟩

theorem room_le : ∀ (vs : List ByteArray) (B : Nat), (∀ v ∈ vs, v.size ≤ B) → room vs ≤ vs.length * (B + 1)
  | [], _, _ => Nat.zero_le _
  | v :: r, B, h => by
    have ih := room_le r B fun x hx => h x (List.mem_cons_of_mem _ hx)
    have h1 := h v (List.mem_cons_self ..)
    have : room (v :: r) = v.size + 1 + room r := by simp [room]
    rw [this, List.length_cons, Nat.succ_mul]
    omega
theorem find_sizes (fs : List Fld) (name : ByteArray) (B : Nat) (h : ∀ f ∈ fs, f.2.size ≤ B) : ∀ v ∈ find fs name, v.size ≤ B := by
  intro v hv
  unfold find at hv
  obtain ⟨f, hf, rfl⟩ := List.mem_map.1 hv
  exact h f (List.mem_filter.1 hf).1
theorem list_mem_size (vs : List ByteArray) (x : ByteArray) (hx : x ∈ list vs) : x.size ≤ room vs := by
  unfold list at hx
  obtain ⟨v, hv, hx⟩ := List.mem_flatMap.1 hx
  unfold partsOf at hx
  obtain ⟨l, hl, rfl⟩ := List.mem_map.1 hx
  have h1 := trim_size Txt.blank (ba l)
  have h2 := parts_size 44 v.data.toList l hl
  have h3 := room_mem vs v hv
  rw [ba_size] at h1
  rw [len] at h2
  show (trimB Txt.blank (ba l)).size ≤ _
  omega
/-- The parts of the values of fields that aren't too many, nor too long. -/
theorem list_fit (fs : List Fld) (name : ByteArray) (hn : fs.length ≤ 500) (hz : ∀ f ∈ fs, f.1.size ≤ 1000000 ∧ f.2.size ≤ 1000000) :
    room (find fs name) ≤ 1000000000 ∧ (list (find fs name)).length ≤ 1000000000 ∧ ∀ x ∈ list (find fs name), x.size ≤ 1000000000 := by
  have h1 := find_sizes fs name 1000000 (fun f hf => (hz f hf).2)
  have h2 := room_le _ _ h1
  have h3 := find_le fs name
  have h4 := list_le (find fs name)
  have h5 : (find fs name).length * (1000000 + 1) ≤ 500 * 1000001 := Nat.mul_le_mul (by omega) (Nat.le_refl _)
  refine ⟨by omega, by omega, fun x hx => ?_⟩
  have := list_mem_size _ x hx
  omega
theorem one_snoc (names : List ByteArray) (s : ByteArray) (k : Nat) (h : k < names.length) : one (names.take (k + 1)) s = (one (names.take k) s || Txt.same (names[k]?.getD ByteArray.empty) s) := by
  rw [strs_snoc names k h]; simp [one]
theorem one_hit (names : List ByteArray) (s : ByteArray) (k : Nat) (h : k < names.length) (hq : Txt.same (names[k]?.getD ByteArray.empty) s = true) : one names s = true := by
  rw [List.getElem?_eq_getElem h] at hq
  exact List.any_eq_true.2 ⟨names[k], List.getElem_mem h, hq⟩
theorem saysFn_any (x word : ByteArray) (G : Nat) (w : World) (hc : w.cell? ⟨G, 0, none⟩ = some (.string word)) (hx : x.size ≤ maxLen) :
    Calls Tryz.prog 96 #[.string x, .pointer (some ⟨G, 0, none⟩)] w fun e w' => e = .returned (.bool (Txt.same x word)) ∧ Below w.heap.size w w' := by
  have HC := Lib.hid (Txt.same_any x word w hx)
  go_enter Tryz.func96, Tryz.ntmps96
  go_wp2_with (go_at_call 97; with_reducible refine HC.out.mono ?_; rintro e w2 ⟨rfl, hb2⟩)
  go_ret
  exact ⟨rfl, hb2⟩
theorem index_any (a : Option Addr) (n cap : Nat) (ss : List ByteArray) (word : ByteArray) (G : Nat) (w : World) (hv : Strs w a n ss) (hn : n ≤ 1000000000) (hz : ∀ x ∈ ss, x.size ≤ 1000000000)
    (hc : w.cell? ⟨G, 0, none⟩ = some (.string word)) (hG : G < w.heap.size) :
    Calls Tryz.prog 116 #[.slice a n cap, .func (.func 96) #[] #[.pointer (some ⟨G, 0, none⟩)]] w fun e w' => ∃ z : Int, e = .returned (.int .i64 z) ∧ decide (0 ≤ z) = one ss word ∧ Below w.heap.size w w' := by
  have eg : ∀ args w, (callFunc 96 args).run Tryz.prog w = .ok (.enter 96 args) w := enters_of Tryz.func96 (by kernel_rfl) rfl
  have HV := Lib.hid hv
  have HL := Lib.hid hv.1
  have HZ := Lib.hid hz
  have HC := Lib.hid hc
  clear hv hz hc
  go_enter Tryz.func116, Tryz.ntmps116
  go_wp2
  go_loopw [8] (fun i wr => ∃ k : Nat, k ≤ n ∧ i = .int .i64 k ∧ Hid (one (ss.take k) word = false) ∧ Hid (Below w.heap.size w wr)) (fun i _ => n - (intOf i).toNat)
  case atStart => exact ⟨0, Nat.zero_le _, rfl, Lib.hid rfl, Lib.hid (Below.refl _ _)⟩
  case round =>
    obtain ⟨k, hk, rfl, hpre, hbr⟩ := hrel
    rcases Nat.lt_or_ge k n with hlt | hge
    · obtain ⟨bl, off, rfl, hbl, hcs⟩ := (HV.out.below hbr.out).2 (by omega)
      have hck := hcs k hlt
      have hkl : k < ss.length := by rw [HL.out]; exact hlt
      have hsz : (ss[k]?.getD ByteArray.empty).size ≤ maxLen := by
        have : (ss[k]?.getD ByteArray.empty).size ≤ 1000000000 := by
          rw [List.getElem?_eq_getElem hkl]
          exact HZ.out _ (List.getElem_mem hkl)
        unfold maxLen; omega
      have hsn := one_snoc ss word k hkl
      rw [hpre.out, Bool.false_or] at hsn
      have hhit := Lib.hid (one_hit ss word k hkl)
      clear hcs hkl
      generalize ss[k]?.getD ByteArray.empty = x at *
      have HX := Lib.hid (fun (hb : Below w.heap.size w wr) => saysFn_any x word G wr ((hb.cell (p := ⟨G, 0, none⟩) hG).trans HC.out) hsz)
      have HX' := Lib.hid (HX.out hbr.out)
      have i1 : (k : Int) < (n : Int) := by omega
      clear HX hsz
      cases hq : Txt.same x word with
      | false =>
        rw [hq] at HX' hsn
        have hsn' := Lib.hid hsn
        clear hsn hq hhit
        go_wp2_with (go_at_fn 96; with_reducible refine HX'.out.mono ?_; rintro e w2 ⟨rfl, hb2⟩)
        have H3 := Lib.hid (Base.below_step hbr.out hb2)
        clear hb2
        go_roundw
        case rel => exact ⟨k + 1, by omega, by go_num, hsn', H3⟩
        case measure => simp [intOf]; omega
      | true =>
        rw [hq] at HX' hhit
        have HH := Lib.hid (hhit.out rfl)
        clear hsn hq hhit
        go_wp2_with (go_at_fn 96; with_reducible refine HX'.out.mono ?_; rintro e w2 ⟨rfl, hb2⟩)
        go_ret
        exact ⟨_, rfl, by rw [HH.out, decide_eq_true_eq]; omega, Base.below_step hbr.out hb2⟩
    · obtain rfl : k = n := by omega
      have HT := Lib.hid (show one ss word = false by rw [← hpre.out, List.take_of_length_le (by rw [HL.out]; omega)])
      clear hpre
      go_wp2
      go_ret
      exact ⟨_, rfl, by rw [HT.out]; rfl, hbr.out⟩
theorem contains_any (a : Option Addr) (n cap : Nat) (ss : List ByteArray) (word : ByteArray) (G : Nat) (w : World) (hv : Strs w a n ss) (hn : n ≤ 1000000000) (hz : ∀ x ∈ ss, x.size ≤ 1000000000)
    (hc : w.cell? ⟨G, 0, none⟩ = some (.string word)) (hG : G < w.heap.size) :
    Calls Tryz.prog 95 #[.slice a n cap, .func (.func 96) #[] #[.pointer (some ⟨G, 0, none⟩)]] w fun e w' => e = .returned (.bool (one ss word)) ∧ Below w.heap.size w w' := by
  have HI := Lib.hid (index_any a n cap ss word G w hv hn hz hc hG)
  clear hv hz hc
  go_enter Tryz.func95, Tryz.ntmps95
  go_wp2_with (go_at_call 116; with_reducible refine HI.out.mono ?_; rintro e w2 ⟨z, rfl, hz, hb2⟩)
  go_ret
  exact ⟨by rw [← hz]; rfl, hb2⟩
theorem says_any (V : Value) (r : R) (name word : ByteArray) (w : World) (h : Reads w V r) (hf : Fit r) :
    Calls Tryz.prog 73 #[V, .string name, .string word] w fun e w' => e = .returned (.bool (one (list (find r.fs name)) word)) ∧ Below w.heap.size w w' := by
  obtain ⟨fa, fc, ba, bc, ta, tc, rfl, h1, h2, h3⟩ := h
  clear h2 h3
  obtain ⟨l1, l2, l3⟩ := list_fit r.fs name hf.fs hf.f
  have hn : r.fs.length ≤ 1000000000 := Nat.le_trans hf.fs (by decide)
  have hs : ∀ f ∈ r.fs, f.1.size ≤ maxLen := fun f hh => Nat.le_trans (hf.f f hh).1 (by decide)
  have HFd := Lib.hid (fun w (hv : Flds w fa r.fs.length r.fs) => find_any fa r.fs.length fc r.fs name w hv hn hs)
  have HV := Lib.hid h1
  clear h1 hf hn hs
  generalize find r.fs name = F at *
  have HLi := Lib.hid (fun w a c (hv : Strs w a F.length F) => list_any a F.length c F w hv l1)
  have HCo := Lib.hid (fun w a c G (hv : Strs w a (list F).length (list F)) (hc : w.cell? ⟨G, 0, none⟩ = some (.string word)) (hG : G < w.heap.size) => contains_any a (list F).length c (list F) word G w hv l2 l3 hc hG)
  clear l1 l2 l3
  generalize list F = L at *
  go_enter Tryz.func73, Tryz.ntmps73
  go_wp2_with fail
  have hbw := Lib.hid ((((Below.refl _ _).alloc (Nat.le_refl _) (.cells #[.string r.m, .string r.x, .int .i64 r.k, .slice fa r.fs.length fc, .bool r.ch, .slice ba r.body.length bc, .slice ta r.ts.length tc] 58)).alloc (by simp) (.cells #[.string word] 9)) : Below w.heap.size w _)
  have hcell : ((w.alloc (.cells #[.string r.m, .string r.x, .int .i64 r.k, .slice fa r.fs.length fc, .bool r.ch, .slice ba r.body.length bc, .slice ta r.ts.length tc] 58)).alloc (.cells #[.string word] 9)).cell? ⟨w.heap.size + 1, 0, none⟩ = some (.string word) := (Bk.new (w.alloc (.cells #[.string r.m, .string r.x, .int .i64 r.k, .slice fa r.fs.length fc, .bool r.ch, .slice ba r.body.length bc, .slice ta r.ts.length tc] 58)) (w.heap.size + 1) (by simp) 9 [.string word]).c 0 _ rfl
  have hcl : w.heap.size + 1 < ((w.alloc (.cells #[.string r.m, .string r.x, .int .i64 r.k, .slice fa r.fs.length fc, .bool r.ch, .slice ba r.body.length bc, .slice ta r.ts.length tc] 58)).alloc (.cells #[.string word] 9)).heap.size := by simp
  have HCE := Lib.hid hcell
  have HCL := Lib.hid hcl
  clear hcell hcl
  go_wp2_with (first
    | (go_at_call 94; with_reducible refine (HFd.out _ (HV.out.below hbw.out)).mono ?_; rintro e w1 ⟨b1, m1, c1, rfl, rfl, hS1, hb1⟩
       have HS1 := Lib.hid hS1; have HB1 := Lib.hid (Base.below_step hbw.out hb1); have HCE1 := Lib.hid ((hb1.cell (p := ⟨w.heap.size + 1, 0, none⟩) HCL.out).trans HCE.out); have HCL1 := Lib.hid (Nat.lt_of_lt_of_le HCL.out hb1.size); clear hS1 hb1)
    | (go_at_call 93; with_reducible refine (HLi.out _ _ _ HS1.out).mono ?_; rintro e w2 ⟨b2, m2, c2, rfl, rfl, hS2, hb2⟩
       have HS2 := Lib.hid hS2; have HB2 := Lib.hid (Base.below_step HB1.out hb2); have HCE2 := Lib.hid ((hb2.cell (p := ⟨w.heap.size + 1, 0, none⟩) HCL1.out).trans HCE1.out); have HCL2 := Lib.hid (Nat.lt_of_lt_of_le HCL1.out hb2.size); clear hS2 hb2)
    | (go_at_call 95; with_reducible refine (HCo.out _ _ _ _ HS2.out HCE2.out HCL2.out).mono ?_; rintro e w3 ⟨rfl, hb3⟩))
  go_ret
  exact ⟨rfl, Base.below_step HB2.out hb3⟩
theorem expects_any (V : Value) (r : R) (w : World) (h : Reads w V r) (hf : Fit r) : Calls Tryz.prog 50 #[V] w fun e w' => e = .returned (.bool (expects r)) ∧ Below w.heap.size w w' := by
  have HC := Lib.hid (fun w (h : Reads w V r) => says_any V r expectN contW w h hf)
  have HV := Lib.hid h
  unfold expects
  generalize one (list (find r.fs expectN)) contW = a1 at *
  obtain ⟨fa, fc, ba, bc, ta, tc, rfl, h1, h2, h3⟩ := h
  clear h1 h2 h3 hf
  have hbw := Lib.hid (((Below.refl _ _).alloc (Nat.le_refl _) (.cells #[.string r.m, .string r.x, .int .i64 r.k, .slice fa r.fs.length fc, .bool r.ch, .slice ba r.body.length bc, .slice ta r.ts.length tc] 58)) : Below w.heap.size w _)
  by_cases hk0 : r.k = 1
  · have t0 : (r.k == 1) = true := by rw [hk0]; rfl
    rw [decide_eq_true hk0]
    clear hk0
    go_enter Tryz.func50, Tryz.ntmps50
    go_wp2_with (go_at_call 73; with_reducible refine (HC.out _ (HV.out.below hbw.out)).mono ?_; rintro e w1 ⟨rfl, hb1⟩)
    go_ret
    exact ⟨rfl, Base.below_step hbw.out hb1⟩
  · have t0 : (r.k == 1) = false := decide_eq_false hk0
    rw [decide_eq_false hk0]
    clear hk0
    go_enter Tryz.func50, Tryz.ntmps50
    go_wp2
    go_ret
    exact ⟨rfl, hbw.out⟩
end code
end Go.Proofs.YtibnobdbmojjhaaGreatDoor.Rec
