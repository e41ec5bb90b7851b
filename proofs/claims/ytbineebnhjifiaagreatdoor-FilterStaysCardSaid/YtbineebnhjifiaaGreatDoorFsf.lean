/-
  What the proof reaches, part 6.
-/
import Derived.Test.YtbineebnhjifiaaGreatDoorFse
/- FltStays -/
namespace Go.Proofs.YtbineebnhjifiaaGreatDoor.Flt
open Go.RowKit Base Txt Mem Par Pg Each

theorem bts_all {w : World} {g : Nat} {l : List UInt8} {L : List (Option Nat)} (h : By.Bytes w g l) (hlt : g < w.heap.size) (hn : some g ∉ L) : Bts L w (some ⟨g, 0, none⟩) l := by
  refine ⟨⟨by simp, fun _ => ⟨g, 0, rfl, hlt, fun j hj => ?_⟩⟩, fun ad e => ?_⟩
  · rw [Nat.zero_add, (h j hj).1]
    simp [hj]
  · have e : ad = ⟨g, 0, none⟩ := by simpa using e.symm
    rw [e]; exact ⟨hn, hlt⟩
theorem partsC_arg {L : List (Option Nat)} {w0 w : World} {a a' : Option Addr} {c c' : Nat} {l l' : List UInt8} (h : l ≠ [] → Bts [] w0 a l) (hb : Below w0.heap.size w0 w) (hlo : ∀ k, some k ∈ L → w0.heap.size ≤ k) (hc : l.length ≤ c) (h' : Bts L w a' l') (hc' : l'.length ≤ c') (hin : In w L) (ty : TypeId) :
    PartsC L (w.alloc (.cells #[.slice a l.length c, .slice a' l'.length c'] ty)) (some ⟨w.heap.size, 0, none⟩) [l, l'] := by
  refine ⟨fun _ => ⟨w.heap.size, 0, rfl, by simp, fun hm => by have := hin _ hm; omega, fun k hk => ?_⟩⟩
  have hk : k < 2 := hk
  have hr := fun j => cell_of_row (w.alloc (.cells #[.slice a l.length c, .slice a' l'.length c'] ty)) w.heap.size j _ ty (0, 0) (heap_alloc_new w _)
  have hb2 : Below w0.heap.size w0 (w.alloc (.cells #[.slice a l.length c, .slice a' l'.length c'] ty)) := hb.alloc hb.size _
  rcases (by omega : k = 0 ∨ k = 1) with rfl | rfl
  · refine ⟨a, c, (hr 0).trans rfl, hc, fun hne => ?_⟩
    have h1 : Bts [] _ a l := (h hne).step (Step.of_below hb2)
    refine ⟨h1.nums, fun ad e => ⟨fun hm => ?_, (h1.far ad e).2⟩⟩
    have := hlo _ hm
    have := ((h hne).far ad e).2
    omega
  · exact ⟨a', c', (hr 1).trans rfl, hc', fun _ => h'.alloc _⟩
section code
set_option maxHeartbeats 8000000
set_option maxRecDepth 100000
attribute [local go_sem] Base.some_undef
theorem filterStays_any (la : Option Addr) (ln cap : Nat) (zs : List Int) (a k0 : Nat) (ma : Option Addr) (more : List UInt8) (mcap : Nat) (w : World) (hv : Nums .u8 w la ln zs) (hln : ln ≤ maxLen) (hlc : ln ≤ cap) (ha : a < 4294967296) (hk : k0 < 256)
    (hm : more ≠ [] → Bts [] w ma more) (hmn : more.length ≤ maxLen) (hmc : more.length ≤ mcap) :
    Calls Tryz.prog 13 #[.slice la ln cap, .int .u32 a, .int .u8 k0, .slice ma more.length mcap] w fun e w' => e = .returned (.bool true) ∧ Below w.heap.size w w' := by
  unfold maxLen at hln hmn
  obtain ⟨mn, hmnn⟩ : ∃ mn, more.length = mn := ⟨_, rfl⟩
  rw [hmnn]
  by_cases h30 : 30 < ln ∨ 60 < mn
  · have d1 : 30 < ln ∨ ¬ 30 < ln := by omega
    rcases d1 with d1 | d1
    · have d2 : (30 : Int) < (ln : Int) := by omega
      go_enter Tryz.func13, Tryz.ntmps13
      go_wp2_with (go_at_call 40; with_reducible refine (known_any _).mono ?_; rintro e w1 ⟨rfl, hb⟩)
      go_ret
      exact ⟨rfl, hb⟩
    · have d2 : ¬ (30 : Int) < (ln : Int) := by omega
      have d3 : (60 : Int) < (mn : Int) := by omega
      go_enter Tryz.func13, Tryz.ntmps13
      go_wp2_with (go_at_call 40; with_reducible refine (known_any _).mono ?_; rintro e w1 ⟨rfl, hb⟩)
      go_ret
      exact ⟨rfl, hb⟩
  have d2 : ¬ (30 : Int) < (ln : Int) := by omega
  have d3 : ¬ (60 : Int) < (mn : Int) := by omega
  have hc1 : ∀ w : World, (convert 22 22 (.slice (some ⟨w.heap.size, 0, none⟩) 4 4)).run Tryz.prog (w.alloc (.cells #[.int .u8 10, .int .u8 10, .int .u8 32, .int .u8 120] 5)) = .ok (.slice (some ⟨w.heap.size, 0, none⟩) 4 4) (w.alloc (.cells #[.int .u8 10, .int .u8 10, .int .u8 32, .int .u8 120] 5 (4, 5))) := fun w =>
    Lib.run_convert_bytes_const w 22 5 #[.int .u8 10, .int .u8 10, .int .u8 32, .int .u8 120] 4 4 Tryz.underlying22 Tryz.underlying5
  have hc2 : ∀ w : World, (convert 22 22 (.slice (some ⟨w.heap.size, 0, none⟩) 27 27)).run Tryz.prog (w.alloc (.cells #[.int .u8 71, .int .u8 69, .int .u8 84, .int .u8 32, .int .u8 47, .int .u8 32, .int .u8 72, .int .u8 84, .int .u8 84, .int .u8 80, .int .u8 47, .int .u8 49, .int .u8 46, .int .u8 49, .int .u8 13, .int .u8 10, .int .u8 72, .int .u8 111, .int .u8 115, .int .u8 116, .int .u8 58, .int .u8 32, .int .u8 97, .int .u8 13, .int .u8 10, .int .u8 13, .int .u8 10] 5)) = .ok (.slice (some ⟨w.heap.size, 0, none⟩) 27 27) (w.alloc (.cells #[.int .u8 71, .int .u8 69, .int .u8 84, .int .u8 32, .int .u8 47, .int .u8 32, .int .u8 72, .int .u8 84, .int .u8 84, .int .u8 80, .int .u8 47, .int .u8 49, .int .u8 46, .int .u8 49, .int .u8 13, .int .u8 10, .int .u8 72, .int .u8 111, .int .u8 115, .int .u8 116, .int .u8 58, .int .u8 32, .int .u8 97, .int .u8 13, .int .u8 10, .int .u8 13, .int .u8 10] 5 (27, 28))) := fun w =>
    Lib.run_convert_bytes_const w 22 5 #[.int .u8 71, .int .u8 69, .int .u8 84, .int .u8 32, .int .u8 47, .int .u8 32, .int .u8 72, .int .u8 84, .int .u8 84, .int .u8 80, .int .u8 47, .int .u8 49, .int .u8 46, .int .u8 49, .int .u8 13, .int .u8 10, .int .u8 72, .int .u8 111, .int .u8 115, .int .u8 116, .int .u8 58, .int .u8 32, .int .u8 97, .int .u8 13, .int .u8 10, .int .u8 13, .int .u8 10] 27 27 Tryz.underlying22 Tryz.underlying5
  obtain ⟨b, hbd, hright⟩ := seat_bd k0
  have HBN := Lib.hid (fun w => Seat.bounds_any k0 hk w)
  rw [hbd] at HBN
  have hm30 := Seat.mask30 a ha
  have hp : a % 1073741824 < 4294967296 := by omega
  have hp30 : a % 1073741824 < 1073741824 := by omega
  obtain ⟨p, hpp⟩ : ∃ p, a % 1073741824 = p := ⟨_, rfl⟩
  rw [hpp] at hm30 hp hp30
  have HST := Lib.hid (fun w' (hb' : Below w.heap.size w w') => Rq.stream_any la ln cap zs w' (hv.below hb') (by omega) hlc)
  have HNW := Lib.hid (fun w => new_any (p := p) (b := b) hp w)
  have HJ0 := Lib.hid (just_new (p := p) (b := b) hp30 hright)
  have HMO := Lib.hid hm; have HMC := Lib.hid (And.intro hmnn hmc)
  have hm60 : mn ≤ 60 := by omega
  clear hpp ha hk hv hbd hp30 hlc hright hm hmn hmc h30 hmnn
  go_enter Tryz.func13, Tryz.ntmps13
  go_upto_region 6 with (first
    | (go_at_call 40; with_reducible refine (known_any _).mono ?_; rintro e w1 ⟨rfl, hb⟩; have HB1 := Lib.hid hb; clear hb)
    | (go_at_call 17; with_reducible refine (HBN.out _).mono ?_; rintro e w2 ⟨rfl, hb⟩
       have HB2 := Lib.hid (Base.below_step HB1.out hb)
       clear hb)
    | (go_at_call 42; with_reducible refine (HNW.out _).mono ?_; rintro r w3 ⟨g, g1, g2, L1, L2, rfl, hf, hb⟩
       have HF := Lib.hid hf; have HB3 := Lib.hid (Base.below_step HB2.out hb); have HBS := Lib.hid HB2.out.size
       clear hf hb))
  go_upto_region 7 with (first
    | (go_at_call 44; with_reducible refine HFE.out.mono ?_; rintro r w5 ⟨U5, rfl, N1, N2, hs5⟩
       have HS5 := Lib.hid hs5; clear hs5)
    | (go_at_call 18; with_reducible refine (HST.out _ HB3.out).mono ?_; rintro e w4 ⟨gs, s, c, rfl, hsc, hsl, hgs, hgw, hby, hb⟩
       have HB4 := Lib.hid (Base.below_step HB3.out hb)
       have hf4 := HF.out.keeps (Keeps.of_below hb : Keeps [] w3 w4) (fun _ _ hm => by cases hm)
       have hgn : some gs ∉ fblks g L1 L2 := fun hm => by have := HF.out.in gs hm; omega
       have hbs := bts_all hby hgw hgn
       obtain ⟨n, hn⟩ : ∃ n, s.length = n := ⟨_, rfl⟩
       have hpc := partsC_two (c := c) (hbs.alloc (.cells #[.int .u8 10, .int .u8 10, .int .u8 32, .int .u8 120] 5 (4, 5))) hsc (Bts.lit hf4.in [10, 10, 32, 120] #[.int .u8 10, .int .u8 10, .int .u8 32, .int .u8 120] rfl 5 (4, 5)) (Nat.le_refl _) (in_alloc hf4.in _) 22
       have hs1 : (w4.alloc (.cells #[.int .u8 10, .int .u8 10, .int .u8 32, .int .u8 120] 5 (4, 5))).heap.size = w4.heap.size + 1 := by simp
       rw [hs1] at hpc
       have hb2 : Below w4.heap.size w4 ((w4.alloc (.cells #[.int .u8 10, .int .u8 10, .int .u8 32, .int .u8 120] 5 (4, 5))).alloc (.cells #[.slice (some ⟨gs, 0, none⟩) s.length c, .slice (some ⟨w4.heap.size, 0, none⟩) 4 4] 22)) := ((Below.refl _ _).alloc (Nat.le_refl _) _).alloc (by simp) _
       have hf5 := hf4.keeps (Keeps.of_below hb2 : Keeps [] w4 _) (fun _ _ hm => by cases hm)
       have hfe := feed_any hp hf5 [] Clear.nil (some ⟨w4.heap.size + 1, 0, none⟩) 2 [s, [10, 10, 32, 120]] hpc (by simp) (by simp; omega)
       have e2 : [s, [10, 10, 32, 120]].flatten = s ++ [10, 10, 32, 120] := by simp
       have e3 : [s, [10, 10, 32, 120]].length = 2 := rfl
       rw [e2, e3] at hfe
       obtain ⟨R2, hR2⟩ : ∃ R2, F.feed p b (F.new p b) (s ++ [10, 10, 32, 120]) = R2 := ⟨_, rfl⟩
       have hj := just_feed (s ++ [10, 10, 32, 120]) HJ0.out
       rw [hR2] at hfe hj
       have HJ := Lib.hid hj
       rw [hn] at hfe ⊢
       have HFE := Lib.hid hfe
       have HB5 := Lib.hid (show Below w.heap.size w _ from Base.below_step HB4.out hb2)
       rw [hn] at HB5
       clear hb hgs hgw hby hsc hsl hf4 hf5 hgn hbs hpc hs1 hb2 hfe e2 e3 hR2 hj hn))
  obtain ⟨f2, hf2⟩ : ∃ f2, R2.1 = f2 := ⟨_, rfl⟩
  rw [hf2] at HJ HS5
  have hft := HS5.out.fat
  have hdw : Below w5.heap.size w5 (w5.drewN 1) := Base.below_drewN (Below.refl w5.heap.size w5) 1
  have HFD := Lib.hid (hft.keeps (Keeps.of_below hdw : Keeps [] w5 _) (fun _ _ hm => by cases hm))
  have HLO := Lib.hid (show ∀ k, some k ∈ fblks g N1 N2 → w.heap.size ≤ k from fun k hk => Nat.le_trans HBS.out (hft.low k hk))
  have HB6 := Lib.hid (show Below w.heap.size w w5 from HB5.out.trans (HS5.out.keeps.below HB5.out.size (fun k hk => Nat.le_trans HBS.out (HF.out.low k hk))))
  have HFT := Lib.hid hft
  clear hf2 hft hdw HS5 HFE HST HNW HJ0 HB5 HB4 HB3 HB2 HB1 HF HBS
  refine Each.region_all 20 [37, 38, 39, 40, 41, 42, 43, 44, 45, 46, 47, 48, 49, 50, 51, 52, 10, 11, 12, 13]
      [fun v _ => v = .pointer (some ⟨g, 0, none⟩),
        fun v _ => v = .pointer (some ⟨g, 0, none⟩),
        fun v _ => v = .pointer (some ⟨g, 2, none⟩),
        fun v _ => v = .int .i64 (if f2.code = 0 then 1 else 2),
        fun v _ => v = .pointer (some ⟨g, 0, none⟩),
        fun v _ => v = .pointer (some ⟨g, 0, none⟩),
        fun v _ => v = .pointer (some ⟨g, 2, none⟩),
        fun v _ => v = .int .i64 (f2.code : Int),
        fun v _ => v = .pointer (some ⟨g, 0, none⟩),
        fun v _ => v = .pointer (some ⟨g, 0, none⟩),
        fun v _ => v = .pointer (some ⟨g, 2, none⟩),
        fun v _ => v = .bool f2.parted,
        fun v _ => v = .pointer (some ⟨g, 0, none⟩),
        fun v _ => v = .pointer (some ⟨g, 0, none⟩),
        fun v _ => v = .pointer (some ⟨g, 0, none⟩),
        fun v _ => v = .int .i64 (f2.held : Int),
        fun v _ => v = .int .i64 (if f2.code = 0 then 1 else 2),
        fun v _ => v = .int .i64 (f2.code : Int),
        fun v _ => v = .bool f2.parted,
        fun v _ => v = .int .i64 (f2.held : Int)]
       (by kernel_rfl) (by kernel_rfl) (by kernel_rfl) (by kernel_rfl) (fun _ _ d _ _ h => by cases d <;> exact h) (by rfl) (by rfl)
      ⟨Each.Lasts.eq _, Each.Lasts.eq _, Each.Lasts.eq _, Each.Lasts.eq _, Each.Lasts.eq _, Each.Lasts.eq _, Each.Lasts.eq _, Each.Lasts.eq _, Each.Lasts.eq _, Each.Lasts.eq _, Each.Lasts.eq _, Each.Lasts.eq _, Each.Lasts.eq _, Each.Lasts.eq _, Each.Lasts.eq _, Each.Lasts.eq _, Each.Lasts.eq _, Each.Lasts.eq _, Each.Lasts.eq _, Each.Lasts.eq _, trivial⟩ ?_ ?_
  · refine ⟨?_, ?_, ?_, ?_, ?_, ?_, ?_, ?_, ?_, ?_, ?_, ?_, ?_, ?_, ?_, ?_, ?_, ?_, ?_, ?_, trivial⟩
    · refine Each.fine rfl (fun ev w1 hR hb hh => ?_)
      clear hh
      have e9 := hR.old 9 rfl
      simp only [Array.getD_eq_getD_getElem?, List.getElem?_toArray, List.getElem?_cons_succ, List.getElem?_cons_zero, Option.getD_some] at e9
      refine Each.Goes.same ?_
      go_simp
      try with_reducible rfl
    · refine Each.fine rfl (fun ev w1 hR hb hh => ?_)
      have e37 : (ev (.tmp 37) = .pointer (some ⟨g, 0, none⟩)) := hh.at 0
      clear hh
      refine Each.Goes.same ?_
      go_simp
      try with_reducible rfl
    · refine Each.fine rfl (fun ev w1 hR hb hh => ?_)
      have e38 : (ev (.tmp 38) = .pointer (some ⟨g, 0, none⟩)) := hh.at 0
      clear hh
      refine Each.Goes.same ?_
      go_simp
      try with_reducible rfl
    · refine Each.fine rfl (fun ev w1 hR hb hh => ?_)
      have e39 : (ev (.tmp 39) = .pointer (some ⟨g, 2, none⟩)) := hh.at 0
      clear hh
      have ef := hR.func
      refine Each.Goes.enter 46 #[.pointer (some ⟨g, 2, none⟩)] (by go_simp) ((verdict_any g f2.code (HFD.out.keeps (Keeps.of_below hb : Keeps [] (w5.drewN 1) w1) (fun _ _ hm => by cases hm)).c.2.2.1).mono ?_)
      rintro r w9 ⟨rfl, hw⟩
      rw [hw]
      exact ⟨_, rfl, Below.refl _ _, rfl⟩
    · refine Each.fine rfl (fun ev w1 hR hb hh => ?_)
      clear hh
      have e9 := hR.old 9 rfl
      simp only [Array.getD_eq_getD_getElem?, List.getElem?_toArray, List.getElem?_cons_succ, List.getElem?_cons_zero, Option.getD_some] at e9
      refine Each.Goes.same ?_
      go_simp
      try with_reducible rfl
    · refine Each.fine rfl (fun ev w1 hR hb hh => ?_)
      have e41 : (ev (.tmp 41) = .pointer (some ⟨g, 0, none⟩)) := hh.at 0
      clear hh
      refine Each.Goes.same ?_
      go_simp
      try with_reducible rfl
    · refine Each.fine rfl (fun ev w1 hR hb hh => ?_)
      have e42 : (ev (.tmp 42) = .pointer (some ⟨g, 0, none⟩)) := hh.at 0
      clear hh
      refine Each.Goes.same ?_
      go_simp
      try with_reducible rfl
    · refine Each.fine rfl (fun ev w1 hR hb hh => ?_)
      have e43 : (ev (.tmp 43) = .pointer (some ⟨g, 2, none⟩)) := hh.at 0
      clear hh
      have ef := hR.func
      refine Each.Goes.enter 47 #[.pointer (some ⟨g, 2, none⟩)] (by go_simp) ((code_any g f2.code (HFD.out.keeps (Keeps.of_below hb : Keeps [] (w5.drewN 1) w1) (fun _ _ hm => by cases hm)).c.2.2.1).mono ?_)
      rintro r w9 ⟨rfl, hw⟩
      rw [hw]
      exact ⟨_, rfl, Below.refl _ _, rfl⟩
    · refine Each.fine rfl (fun ev w1 hR hb hh => ?_)
      clear hh
      have e9 := hR.old 9 rfl
      simp only [Array.getD_eq_getD_getElem?, List.getElem?_toArray, List.getElem?_cons_succ, List.getElem?_cons_zero, Option.getD_some] at e9
      refine Each.Goes.same ?_
      go_simp
      try with_reducible rfl
    · refine Each.fine rfl (fun ev w1 hR hb hh => ?_)
      have e45 : (ev (.tmp 45) = .pointer (some ⟨g, 0, none⟩)) := hh.at 0
      clear hh
      refine Each.Goes.same ?_
      go_simp
      try with_reducible rfl
    · refine Each.fine rfl (fun ev w1 hR hb hh => ?_)
      have e46 : (ev (.tmp 46) = .pointer (some ⟨g, 0, none⟩)) := hh.at 0
      clear hh
      refine Each.Goes.same ?_
      go_simp
      try with_reducible rfl
    · refine Each.fine rfl (fun ev w1 hR hb hh => ?_)
      have e47 : (ev (.tmp 47) = .pointer (some ⟨g, 2, none⟩)) := hh.at 0
      clear hh
      have ef := hR.func
      refine Each.Goes.enter 48 #[.pointer (some ⟨g, 2, none⟩)] (by go_simp) ((parted_any g f2.parted (HFD.out.keeps (Keeps.of_below hb : Keeps [] (w5.drewN 1) w1) (fun _ _ hm => by cases hm)).c.2.2.2).mono ?_)
      rintro r w9 ⟨rfl, hw⟩
      rw [hw]
      exact ⟨_, rfl, Below.refl _ _, rfl⟩
    · refine Each.fine rfl (fun ev w1 hR hb hh => ?_)
      clear hh
      have e9 := hR.old 9 rfl
      simp only [Array.getD_eq_getD_getElem?, List.getElem?_toArray, List.getElem?_cons_succ, List.getElem?_cons_zero, Option.getD_some] at e9
      refine Each.Goes.same ?_
      go_simp
      try with_reducible rfl
    · refine Each.fine rfl (fun ev w1 hR hb hh => ?_)
      have e49 : (ev (.tmp 49) = .pointer (some ⟨g, 0, none⟩)) := hh.at 0
      clear hh
      refine Each.Goes.same ?_
      go_simp
      try with_reducible rfl
    · refine Each.fine rfl (fun ev w1 hR hb hh => ?_)
      have e50 : (ev (.tmp 50) = .pointer (some ⟨g, 0, none⟩)) := hh.at 0
      clear hh
      refine Each.Goes.same ?_
      go_simp
      try with_reducible rfl
    · refine Each.fine rfl (fun ev w1 hR hb hh => ?_)
      have e51 : (ev (.tmp 51) = .pointer (some ⟨g, 0, none⟩)) := hh.at 0
      clear hh
      have ef := hR.func
      refine Each.Goes.enter 50 #[ptr g] (by go_simp) ((held_any (HFD.out.keeps (Keeps.of_below hb : Keeps [] (w5.drewN 1) w1) (fun _ _ hm => by cases hm))).mono ?_)
      rintro r w9 ⟨rfl, hb2⟩
      exact ⟨_, rfl, hb2, rfl⟩
    · refine Each.fine rfl (fun ev w1 hR hb hh => ?_)
      have e40 : (ev (.tmp 40) = .int .i64 (if f2.code = 0 then 1 else 2)) := hh.at 0
      clear hh
      refine Each.Goes.same ?_
      go_simp
      try with_reducible rfl
    · refine Each.fine rfl (fun ev w1 hR hb hh => ?_)
      have e44 : (ev (.tmp 44) = .int .i64 (f2.code : Int)) := hh.at 0
      clear hh
      refine Each.Goes.same ?_
      go_simp
      try with_reducible rfl
    · refine Each.fine rfl (fun ev w1 hR hb hh => ?_)
      have e48 : (ev (.tmp 48) = .bool f2.parted) := hh.at 0
      clear hh
      refine Each.Goes.same ?_
      go_simp
      try with_reducible rfl
    · refine Each.fine rfl (fun ev w1 hR hb hh => ?_)
      have e52 : (ev (.tmp 52) = .int .i64 (f2.held : Int)) := hh.at 0
      clear hh
      refine Each.Goes.same ?_
      go_simp
      try with_reducible rfl
  intro ga w6 hb6 hf
  have z10 : (ga 10 = .int .i64 (if f2.code = 0 then 1 else 2)) := hf.at 16
  have z11 : (ga 11 = .int .i64 (f2.code : Int)) := hf.at 17
  have z12 : (ga 12 = .bool f2.parted) := hf.at 18
  have z13 : (ga 13 = .int .i64 (f2.held : Int)) := hf.at 19
  clear hf
  simp only [Each.putg, Act.put, List.setIfInBounds_toArray, List.set_cons_zero, List.set_cons_succ]
  rw [z10]
  rw [z11]
  rw [z12]
  rw [z13]
  have HB7 := Lib.hid (Base.below_step HB6.out hb6)
  have HF6 := Lib.hid (HFT.out.keeps (Keeps.of_below hb6 : Keeps [] w5 w6) (fun _ _ hm => by cases hm))
  clear hb6
  rcases HJ.out with ⟨h1, h2, -⟩ | ⟨h1, o, h2⟩
  · rw [h1, h2, if_pos rfl]
    go_wp2_with fail
    go_ret
    exact ⟨rfl, HB7.out⟩
  · rw [if_neg h1]
    have hb8 : Below w6.heap.size w6 ((w6.alloc (.cells #[.int .u8 71, .int .u8 69, .int .u8 84, .int .u8 32, .int .u8 47, .int .u8 32, .int .u8 72, .int .u8 84, .int .u8 84, .int .u8 80, .int .u8 47, .int .u8 49, .int .u8 46, .int .u8 49, .int .u8 13, .int .u8 10, .int .u8 72, .int .u8 111, .int .u8 115, .int .u8 116, .int .u8 58, .int .u8 32, .int .u8 97, .int .u8 13, .int .u8 10, .int .u8 13, .int .u8 10] 5 (27, 28))).alloc (.cells #[.slice ma more.length mcap, .slice (some ⟨w6.heap.size, 0, none⟩) 27 27] 22)) := ((Below.refl _ _).alloc (Nat.le_refl _) _).alloc (by simp) _
    have hw1 : Below w.heap.size w (w6.alloc (.cells #[.int .u8 71, .int .u8 69, .int .u8 84, .int .u8 32, .int .u8 47, .int .u8 32, .int .u8 72, .int .u8 84, .int .u8 84, .int .u8 80, .int .u8 47, .int .u8 49, .int .u8 46, .int .u8 49, .int .u8 13, .int .u8 10, .int .u8 72, .int .u8 111, .int .u8 115, .int .u8 116, .int .u8 58, .int .u8 32, .int .u8 97, .int .u8 13, .int .u8 10, .int .u8 13, .int .u8 10] 5 (27, 28))) := HB7.out.alloc HB7.out.size _
    have hpc := partsC_arg (c := mcap) (L := fblks g N1 N2) HMO.out hw1 HLO.out HMC.out.2 (Bts.lit HF6.out.in [71, 69, 84, 32, 47, 32, 72, 84, 84, 80, 47, 49, 46, 49, 13, 10, 72, 111, 115, 116, 58, 32, 97, 13, 10, 13, 10] #[.int .u8 71, .int .u8 69, .int .u8 84, .int .u8 32, .int .u8 47, .int .u8 32, .int .u8 72, .int .u8 84, .int .u8 84, .int .u8 80, .int .u8 47, .int .u8 49, .int .u8 46, .int .u8 49, .int .u8 13, .int .u8 10, .int .u8 72, .int .u8 111, .int .u8 115, .int .u8 116, .int .u8 58, .int .u8 32, .int .u8 97, .int .u8 13, .int .u8 10, .int .u8 13, .int .u8 10] rfl 5 (27, 28)) (Nat.le_refl _) (in_alloc HF6.out.in _) 22
    have hs1 : (w6.alloc (.cells #[.int .u8 71, .int .u8 69, .int .u8 84, .int .u8 32, .int .u8 47, .int .u8 32, .int .u8 72, .int .u8 84, .int .u8 84, .int .u8 80, .int .u8 47, .int .u8 49, .int .u8 46, .int .u8 49, .int .u8 13, .int .u8 10, .int .u8 72, .int .u8 111, .int .u8 115, .int .u8 116, .int .u8 58, .int .u8 32, .int .u8 97, .int .u8 13, .int .u8 10, .int .u8 13, .int .u8 10] 5 (27, 28))).heap.size = w6.heap.size + 1 := by simp
    rw [hs1] at hpc
    have hf7 := HF6.out.keeps (Keeps.of_below hb8 : Keeps [] w6 _) (fun _ _ hm => by cases hm)
    have hfe := feed_any hp hf7 [] Clear.nil (some ⟨w6.heap.size + 1, 0, none⟩) 2 [more, [71, 69, 84, 32, 47, 32, 72, 84, 84, 80, 47, 49, 46, 49, 13, 10, 72, 111, 115, 116, 58, 32, 97, 13, 10, 13, 10]] hpc (by simp) (by simp; have := HMC.out.1; omega)
    have e3 : [more, [71, 69, 84, 32, 47, 32, 72, 84, 84, 80, 47, 49, 46, 49, 13, 10, 72, 111, 115, 116, 58, 32, 97, 13, 10, 13, 10]].length = 2 := rfl
    rw [F.feed_blocked p b f2 h1, e3] at hfe
    rw [HMC.out.1] at hfe hb8
    have HFE := Lib.hid hfe
    have HB8 := Lib.hid (Base.below_step HB7.out hb8)
    have HHX := Lib.hid (show f2.x.clean = false ∧ f2.x.waits = false by rw [h2]; exact ⟨rfl, rfl⟩)
    have t5 : ((f2.code : Int) == 0) = false := beq_eq_false_iff_ne.2 (by omega)
    have n5 : ((f2.code : Int) != 0) = true := by show (!((f2.code : Int) == 0)) = true; rw [t5]; rfl
    clear hb8 hw1 hpc hs1 hf7 hfe e3 h1 h2
    go_upto_region 11 with
      (go_at_call 44; with_reducible refine HFE.out.mono ?_; rintro r w7 ⟨U7, rfl, P1, P2, hs7⟩
       have HS7 := Lib.hid hs7; clear hs7)
    obtain ⟨a7, c7, e7⟩ := HS7.out.slice
    have e8 : U7 = .slice a7 0 c7 := e7
    subst e8
    clear e7
    have hf8 := HS7.out.fat
    have HB9 := Lib.hid (show Below w.heap.size w w7 from HB8.out.trans (HS7.out.keeps.below HB8.out.size HLO.out))
    have HV := Lib.hid (show Calls Tryz.prog 46 #[.pointer (some ⟨g, 2, none⟩)] w7 fun r w' => r = .returned (.int .i64 (if f2.code = 0 then 1 else 2)) ∧ w' = w7 from verdict_any g f2.code hf8.c.2.2.1)
    have hne : ¬ f2.code = 0 := by intro e; rw [e] at t5; cases t5
    rw [if_neg hne] at HV
    have HC := Lib.hid (code_any g f2.code hf8.c.2.2.1)
    have HP := Lib.hid (parted_any g f2.parted hf8.c.2.2.2)
    have HH := Lib.hid (held_any hf8)
    have HCL := Lib.hid (fun w' (hb : Below w7.heap.size w7 w') => show Calls Tryz.prog 52 #[ptr g] w' fun r w9 => r = .returned (.bool false) ∧ w9 = w' from HHX.out.1 ▸ clean_any (hf8.keeps (Keeps.of_below hb : Keeps [] w7 w') (fun _ _ hm => by cases hm)))
    have HWA := Lib.hid (fun w' (hb : Below w7.heap.size w7 w') => show Calls Tryz.prog 49 #[ptr g] w' fun r w9 => r = .returned (.bool false) ∧ Below w'.heap.size w' w9 from HHX.out.2 ▸ waits_any (hf8.keeps (Keeps.of_below hb : Keeps [] w7 w') (fun _ _ hm => by cases hm)))
    clear hf8 hne HS7 HFE HB8 HB7 HF6 HFD HB6
    go_wp2_with (first
      | (go_at_call 49; with_reducible refine (HWA.out _ HBH.out).mono ?_; rintro r w9 ⟨rfl, hb9⟩
         have HBX := Lib.hid (Base.below_step HBH.out hb9); clear hb9)
      | (go_at_call 52; with_reducible refine (HCL.out _ HBH.out).mono ?_; rintro r w9 ⟨rfl, hw⟩; rw [hw]; clear hw)
      | (go_at_call 50; with_reducible refine HH.out.mono ?_; rintro r w8 ⟨rfl, hb8⟩
         have HBH := Lib.hid hb8; clear hb8)
      | (go_at_call 48; with_reducible refine HP.out.mono ?_; rintro r w9 ⟨rfl, hw⟩; rw [hw]; clear hw)
      | (go_at_call 47; with_reducible refine HC.out.mono ?_; rintro r w9 ⟨rfl, hw⟩; rw [hw]; clear hw)
      | (go_at_call 46; with_reducible refine HV.out.mono ?_; rintro r w9 ⟨rfl, hw⟩; rw [hw]; clear hw))
    go_ret
    exact ⟨rfl, Base.below_step HB9.out HBX.out⟩
end code
end Go.Proofs.YtbineebnhjifiaaGreatDoor.Flt
/- FltStaysSaid -/
namespace Go.Proofs.YtbineebnhjifiaaGreatDoor.Flt
open Go.RowKit Base Mem Par Pg

theorem filterStays_law (la : Option Addr) (ln cap : Nat) (zs : List Int) (a k : Int) (ma : Option Addr) (mn mcap : Nat) (ms : List Int) (w : World) (hv : Nums .u8 w la ln zs) (hln : ln ≤ maxLen) (hlc : ln ≤ cap) (ha : 0 ≤ a ∧ a ≤ 4294967295) (hk : 0 ≤ k ∧ k ≤ 255)
    (hm : Nums .u8 w ma mn ms) (hmn : mn ≤ maxLen) (hmc : mn ≤ mcap) (hw : ∀ x ∈ ms, (Lit.int .u8 x).wf = true) :
    Calls Tryz.prog 13 #[.slice la ln cap, .int .u32 a, .int .u8 k, .slice ma mn mcap] w fun e w' => e = .returned (.bool true) ∧ Below w.heap.size w w' := by
  obtain ⟨bs, rfl⟩ := Txt.bytes_of ms fun x hx => bounds_u8 (hw x hx)
  obtain ⟨a, rfl⟩ := Int.eq_ofNat_of_zero_le ha.1
  obtain ⟨k, rfl⟩ := Int.eq_ofNat_of_zero_le hk.1
  have hl : bs.length = mn := by have := hm.1; simpa [Txt.nums] using this
  subst hl
  refine filterStays_any la ln cap zs a k ma bs mcap w hv hln hlc (by omega) (by omega) (fun hne => ⟨hm, fun ad e => ⟨(fun h => by cases h), ?_⟩⟩) hmn hmc
  have h0 : 0 < bs.length := by
    cases bs with
    | nil => exact absurd rfl hne
    | cons _ _ => simp
  obtain ⟨b, off, e2, hlt, -⟩ := hm.2 h0
  rw [e2] at e
  cases e
  exact hlt
end Go.Proofs.YtbineebnhjifiaaGreatDoor.Flt
