/-
  Layer 12 (record): what All answers, package record's and the document's, of slices of records.
-/
import Derived.Test.YtechehbegiinpaaDoorRec
import Derived.Test.YtechehbegiinpaaDoorRecRef
namespace Go.Proofs.YtechehbegiinpaaDoor.Rec
open Go.RowKit Base Txt

/-- A record in memory, from a cell on. -/
def RecAt (w : World) (b o : Nat) (r : R) : Prop :=
  ∃ (fa : Option Addr) (fc : Nat) (ba : Option Addr) (bc : Nat) (ta : Option Addr) (tc : Nat),
    (w.cell? ⟨b, o, none⟩ = some (.string r.m) ∧ w.cell? ⟨b, o + 1, none⟩ = some (.string r.x) ∧ w.cell? ⟨b, o + 2, none⟩ = some (.int .i64 r.k) ∧ w.cell? ⟨b, o + 3, none⟩ = some (.slice fa r.fs.length fc) ∧
     w.cell? ⟨b, o + 4, none⟩ = some (.bool r.ch) ∧ w.cell? ⟨b, o + 5, none⟩ = some (.slice ba r.body.length bc) ∧ w.cell? ⟨b, o + 6, none⟩ = some (.slice ta r.ts.length tc)) ∧
    Reads w (.agg #[.string r.m, .string r.x, .int .i64 r.k, .slice fa r.fs.length fc, .bool r.ch, .slice ba r.body.length bc, .slice ta r.ts.length tc]) r
theorem RecAt.below {w w' : World} {b o : Nat} {r : R} (h : RecAt w b o r) (hlt : b < w.heap.size) (hb : Below w.heap.size w w') : RecAt w' b o r := by
  obtain ⟨fa, fc, ba, bc, ta, tc, ⟨c0, c1, c2, c3, c4, c5, c6⟩, hr⟩ := h
  exact ⟨fa, fc, ba, bc, ta, tc, ⟨(hb.cell (p := ⟨b, o, none⟩) hlt).trans c0, (hb.cell (p := ⟨b, o + 1, none⟩) hlt).trans c1, (hb.cell (p := ⟨b, o + 2, none⟩) hlt).trans c2, (hb.cell (p := ⟨b, o + 3, none⟩) hlt).trans c3,
    (hb.cell (p := ⟨b, o + 4, none⟩) hlt).trans c4, (hb.cell (p := ⟨b, o + 5, none⟩) hlt).trans c5, (hb.cell (p := ⟨b, o + 6, none⟩) hlt).trans c6⟩, hr.below hb⟩
def r0 : R := ⟨ByteArray.empty, ByteArray.empty, 0, [], false, [], []⟩
/-- A slice of records. -/
def Recs (w : World) (a : Option Addr) (n : Nat) (rs : List R) : Prop :=
  rs.length = n ∧ (0 < n → ∃ b off, a = some ⟨b, off, none⟩ ∧ b < w.heap.size ∧ ∀ k, k < n → RecAt w b (off + k * 7) (rs[k]?.getD r0))
theorem Recs.below {w w' : World} {a : Option Addr} {n : Nat} {rs : List R} (h : Recs w a n rs) (hb : Below w.heap.size w w') : Recs w' a n rs := by
  refine ⟨h.1, fun hn => ?_⟩
  obtain ⟨b, off, e, hlt, hc⟩ := h.2 hn
  exact ⟨b, off, e, Nat.lt_of_lt_of_le hlt hb.size, fun k hk => (hc k hk).below hlt hb⟩
theorem all_iff : ∀ a b : List R, all a b = true ↔ a = b
  | [], [] => by simp [all]
  | [], _ :: _ => by simp [all]
  | _ :: _, [] => by simp [all]
  | x :: a, y :: b => by rw [all, Bool.and_eq_true, same_iff, all_iff a b, List.cons.injEq]
theorem all_len (a b : List R) (h : ¬ a.length = b.length) : all a b = false := by
  rw [Bool.eq_false_iff]
  exact fun e => h (by rw [(all_iff a b).1 e])
theorem all_self (a : List R) : all a a = true := (all_iff a a).2 rfl
theorem take_eq (xs ys : List R) (k : Nat) (hx : k < xs.length) (hy : k < ys.length) (h : xs.take k = ys.take k) (e : xs[k]?.getD r0 = ys[k]?.getD r0) : xs.take (k + 1) = ys.take (k + 1) := by
  rw [List.take_succ_eq_append_getElem hx, List.take_succ_eq_append_getElem hy, h]
  rw [List.getElem?_eq_getElem hx, List.getElem?_eq_getElem hy] at e
  congr 2
theorem fit_at {rs : List R} (h : ∀ r ∈ rs, Fit r) (k : Nat) (hk : k < rs.length) : Fit (rs[k]?.getD r0) := by
  rw [List.getElem?_eq_getElem hk]; exact h _ (List.getElem_mem hk)

theorem flat_at {α : Type} (f : α → List Value) : ∀ (ps : List α) (k i : Nat) (hk : k < ps.length), (∀ p ∈ ps, (f p).length = 7) → i < 7 → (ps.flatMap f)[k * 7 + i]? = (f ps[k])[i]?
  | [], k, _, hk, _, _ => by simp at hk
  | p :: ps, 0, i, _, h, hi => by
    rw [List.flatMap_cons, Nat.zero_mul, Nat.zero_add, List.getElem?_append_left (by rw [h p (by simp)]; exact hi)]; rfl
  | p :: ps, k + 1, i, hk, h, hi => by
    have h7 := h p (by simp)
    rw [List.flatMap_cons, List.getElem?_append_right (by rw [h7]; omega), h7, show (k + 1) * 7 + i - 7 = k * 7 + i by omega]
    simpa using flat_at f ps k i (by simpa using hk) (fun q hq => h q (by simp [hq])) hi
/-- A slice of records that the call made, by its cells. -/
theorem Recs.lit {w : World} {g : Nat} (ps : List (Array Value × R)) (hB : Bk w g (ps.flatMap (·.1.toList))) (hR : ∀ p ∈ ps, Reads w (.agg p.1) p.2) : Recs w (some ⟨g, 0, none⟩) ps.length (ps.map (·.2)) := by
  refine ⟨by simp, fun _ => ⟨g, 0, rfl, hB.lt, fun k hk => ?_⟩⟩
  have hlen : ∀ p ∈ ps, p.1.toList.length = 7 := fun p hp => by
    obtain ⟨fa, fc, ba, bc, ta, tc, e, _⟩ := hR p hp
    simp only [Value.agg.injEq] at e
    rw [e]; rfl
  have h := hR ps[k] (List.getElem_mem hk)
  obtain ⟨fa, fc, ba, bc, ta, tc, e, h1, h2, h3⟩ := id h
  simp only [Value.agg.injEq] at e
  have hv : (ps.map (·.2))[k]?.getD r0 = ps[k].2 := by
    rw [List.getElem?_map, List.getElem?_eq_getElem hk]; rfl
  have hc : ∀ i v, i < 7 → ps[k].1.toList[i]? = some v → w.cell? ⟨g, k * 7 + i, none⟩ = some v := fun i v hi hv => hB.c _ _ ((flat_at _ ps k i hk hlen hi).trans hv)
  rw [e] at hc
  rw [Nat.zero_add, hv]
  refine ⟨fa, fc, ba, bc, ta, tc, ⟨hc 0 _ (by decide) rfl, hc 1 _ (by decide) rfl, hc 2 _ (by decide) rfl, hc 3 _ (by decide) rfl, hc 4 _ (by decide) rfl, hc 5 _ (by decide) rfl, hc 6 _ (by decide) rfl⟩, ?_⟩
  rw [← e]; exact h

section code
set_option maxHeartbeats 2000000
theorem equalFunc_any (a : Option Addr) (n cap : Nat) (rs : List R) (b : Option Addr) (m cap2 : Nat) (qs : List R) (w : World) (hv : Recs w a n rs) (hu : Recs w b m qs) (hn : n ≤ 1000000000) (hm : m ≤ 1000000000) (hf : ∀ r ∈ rs, Fit r) (hg : ∀ r ∈ qs, Fit r) :
    Calls Tryd.prog 34 #[.slice a n cap, .slice b m cap2, .func (.func 10) #[] #[]] w fun e w' => e = .returned (.bool (all rs qs)) ∧ Below w.heap.size w w' := by
  have eg : ∀ args w, (callFunc 10 args).run Tryd.prog w = .ok (.enter 10 args) w := enters_of Tryd.func10 (by kernel_rfl) rfl
  have HV := Lib.hid hv; have HU := Lib.hid hu; have HF := Lib.hid hf; have HG := Lib.hid hg
  have HL := Lib.hid hv.1; have HM := Lib.hid hu.1
  by_cases hnm : n = m
  · subst hnm
    clear hv hu hf hg
    obtain ⟨B, hB⟩ : ∃ B, all rs qs = B := ⟨_, rfl⟩
    rw [hB]
    have HB := Lib.hid hB
    clear hB
    go_enter Tryd.func34, Tryd.ntmps34
    go_wp2
    go_loopw [17] (fun i wr => ∃ k : Nat, k ≤ n ∧ i = .int .i64 k ∧ Hid (rs.take k = qs.take k) ∧ Hid (Below w.heap.size w wr)) (fun i _ => n - (intOf i).toNat)
    case atStart => exact ⟨0, Nat.zero_le _, rfl, Lib.hid rfl, Lib.hid (Below.refl _ _)⟩
    case round =>
      obtain ⟨k, hk, rfl, hpre, hbr⟩ := hrel
      rcases Nat.lt_or_ge k n with hlt | hge
      · obtain ⟨bl, off, rfl, hbl, hc⟩ := (HV.out.below hbr.out).2 (by omega)
        obtain ⟨bl', off', rfl, hbl', hc'⟩ := (HU.out.below hbr.out).2 (by omega)
        have hkr : k < rs.length := by rw [HL.out]; exact hlt
        have hkq : k < qs.length := by rw [HM.out]; exact hlt
        have h1 := hc k hlt
        have h2 := hc' k hlt
        have f1 := fit_at HF.out k hkr
        have f2 := fit_at HG.out k hkq
        have HN := Lib.hid (take_eq rs qs k hkr hkq hpre.out)
        have HX := Lib.hid (show rs = qs → rs[k]?.getD r0 = qs[k]?.getD r0 from fun e => by rw [e])
        clear hc hc' hkr hkq
        generalize rs[k]?.getD r0 = x at *
        generalize qs[k]?.getD r0 = y at *
        obtain ⟨fa, fc, ba, bc, ta, tc, ⟨c0, c1, c2, c3, c4, c5, c6⟩, hr1⟩ := h1
        obtain ⟨fa', fc', ba', bc', ta', tc', ⟨d0, d1, d2, d3, d4, d5, d6⟩, hr2⟩ := h2
        have HC := Lib.hid (fun w2 (hb : Below wr.heap.size wr w2) => same_any _ _ _ _ w2 (hr1.below hb) (hr2.below hb) f1 f2)
        have hb2 := Lib.hid (((Below.refl _ _).alloc (Nat.le_refl _) (.cells #[.string x.m, .string x.x, .int .i64 x.k, .slice fa x.fs.length fc, .bool x.ch, .slice ba x.body.length bc, .slice ta x.ts.length tc] 25)).alloc (by simp) (.cells #[.string y.m, .string y.x, .int .i64 y.k, .slice fa' y.fs.length fc', .bool y.ch, .slice ba' y.body.length bc', .slice ta' y.ts.length tc'] 25) : Below wr.heap.size wr _)
        have i1 : (k : Int) < (n : Int) := by omega
        clear hr1 hr2 f1 f2
        cases hq : same x y with
        | true =>
          have HE := Lib.hid (HN.out ((same_iff _ _).1 hq))
          rw [hq] at HC
          clear HN HX hq
          go_wp2_with (go_at_fn 10; with_reducible refine (HC.out _ hb2.out).mono ?_; rintro e w2 ⟨rfl, hb3⟩)
          have H3 := Lib.hid (Base.below_step hbr.out (Base.below_step hb2.out hb3))
          clear hb3
          go_roundw
          case rel => exact ⟨k + 1, by omega, by go_num, HE, H3⟩
          case measure => simp [intOf]; omega
        | false =>
          have HE := Lib.hid (show B = false by
            rw [← HB.out, Bool.eq_false_iff]
            intro e
            have := (same_iff _ _).2 (HX.out ((all_iff _ _).1 e))
            rw [hq] at this; cases this)
          rw [hq] at HC
          clear HN HX hq
          go_wp2_with (go_at_fn 10; with_reducible refine (HC.out _ hb2.out).mono ?_; rintro e w2 ⟨rfl, hb3⟩)
          go_ret
          exact ⟨by first | rfl | (rw [HE.out]; rfl), Base.below_step hbr.out (Base.below_step hb2.out hb3)⟩
      · obtain rfl : k = n := by omega
        have HE := Lib.hid (show B = true by
          rw [← HB.out, all_iff]
          have := hpre.out
          rwa [List.take_of_length_le (by rw [HL.out]; omega), List.take_of_length_le (by rw [HM.out]; omega)] at this)
        clear hpre
        go_wp2
        go_ret
        exact ⟨by first | rfl | (rw [HE.out]; rfl), hbr.out⟩
  · have e : all rs qs = false := all_len rs qs (by rw [hv.1, hu.1]; exact hnm)
    have t0 : ((n : Int) == (m : Int)) = false := by rw [beq_eq_false_iff_ne]; omega
    have t1 : ¬ (n : Int) = (m : Int) := by omega
    rw [e]
    clear hv hu hf hg e hnm
    go_enter Tryd.func34, Tryd.ntmps34
    go_wp2
    go_ret
    exact ⟨rfl, Below.refl _ _⟩
theorem all_any (a : Option Addr) (n cap : Nat) (rs : List R) (b : Option Addr) (m cap2 : Nat) (qs : List R) (w : World) (hv : Recs w a n rs) (hu : Recs w b m qs) (hn : n ≤ 1000000000) (hm : m ≤ 1000000000) (hf : ∀ r ∈ rs, Fit r) (hg : ∀ r ∈ qs, Fit r) :
    Calls Tryd.prog 19 #[.slice a n cap, .slice b m cap2] w fun e w' => e = .returned (.bool (all rs qs)) ∧ Below w.heap.size w w' := by
  have H := Lib.hid (equalFunc_any a n cap rs b m cap2 qs w hv hu hn hm hf hg)
  clear hv hu hf hg
  go_enter Tryd.func19, Tryd.ntmps19
  go_wp2_with (go_at_call 34; with_reducible refine H.out.mono ?_; rintro e w2 ⟨rfl, hb2⟩)
  go_ret
  exact ⟨rfl, hb2⟩
theorem rall_any (a : Option Addr) (n cap : Nat) (rs : List R) (b : Option Addr) (m cap2 : Nat) (qs : List R) (w : World) (hv : Recs w a n rs) (hu : Recs w b m qs) (hn : n ≤ 1000000000) (hm : m ≤ 1000000000) (hf : ∀ r ∈ rs, Fit r) (hg : ∀ r ∈ qs, Fit r) :
    Calls Tryd.prog 20 #[.slice a n cap, .slice b m cap2] w fun e w' => e = .returned (.bool (all rs qs)) ∧ Below w.heap.size w w' := by
  have HV := Lib.hid hv; have HU := Lib.hid hu; have HF := Lib.hid hf; have HG := Lib.hid hg
  have HL := Lib.hid hv.1; have HM := Lib.hid hu.1
  by_cases hnm : n = m
  · subst hnm
    clear hv hu hf hg
    obtain ⟨B, hB⟩ : ∃ B, all rs qs = B := ⟨_, rfl⟩
    rw [hB]
    have HB := Lib.hid hB
    clear hB
    go_enter Tryd.func20, Tryd.ntmps20
    go_wp2
    go_loopw [5] (fun i wr => ∃ k : Nat, k ≤ n ∧ i = .int .i64 k ∧ Hid (rs.take k = qs.take k) ∧ Hid (Below w.heap.size w wr)) (fun i _ => n - (intOf i).toNat)
    case atStart => exact ⟨0, Nat.zero_le _, rfl, Lib.hid rfl, Lib.hid (Below.refl _ _)⟩
    case round =>
      obtain ⟨k, hk, rfl, hpre, hbr⟩ := hrel
      rcases Nat.lt_or_ge k n with hlt | hge
      · obtain ⟨bl, off, rfl, hbl, hc⟩ := (HV.out.below hbr.out).2 (by omega)
        obtain ⟨bl', off', rfl, hbl', hc'⟩ := (HU.out.below hbr.out).2 (by omega)
        have hkr : k < rs.length := by rw [HL.out]; exact hlt
        have hkq : k < qs.length := by rw [HM.out]; exact hlt
        have h1 := hc k hlt
        have h2 := hc' k hlt
        have f1 := fit_at HF.out k hkr
        have f2 := fit_at HG.out k hkq
        have HN := Lib.hid (take_eq rs qs k hkr hkq hpre.out)
        have HX := Lib.hid (show rs = qs → rs[k]?.getD r0 = qs[k]?.getD r0 from fun e => by rw [e])
        clear hc hc' hkr hkq
        generalize rs[k]?.getD r0 = x at *
        generalize qs[k]?.getD r0 = y at *
        obtain ⟨fa, fc, ba, bc, ta, tc, ⟨c0, c1, c2, c3, c4, c5, c6⟩, hr1⟩ := h1
        obtain ⟨fa', fc', ba', bc', ta', tc', ⟨d0, d1, d2, d3, d4, d5, d6⟩, hr2⟩ := h2
        have HC := Lib.hid (fun w2 (hb : Below wr.heap.size wr w2) => rsame_any _ _ _ _ w2 (hr1.below hb) (hr2.below hb) f1 f2)
        have HCE := Lib.hid (show ∀ w1, Below wr.heap.size wr w1 → (w1.cell? ⟨bl, off + k * 7, none⟩ = some (.string x.m) ∧ w1.cell? ⟨bl, off + k * 7 + 1, none⟩ = some (.string x.x) ∧ w1.cell? ⟨bl, off + k * 7 + 2, none⟩ = some (.int .i64 x.k) ∧ w1.cell? ⟨bl, off + k * 7 + 3, none⟩ = some (.slice fa x.fs.length fc) ∧ w1.cell? ⟨bl, off + k * 7 + 4, none⟩ = some (.bool x.ch) ∧ w1.cell? ⟨bl, off + k * 7 + 5, none⟩ = some (.slice ba x.body.length bc) ∧ w1.cell? ⟨bl, off + k * 7 + 6, none⟩ = some (.slice ta x.ts.length tc)) from
          fun w1 hb => ⟨(hb.cell (p := ⟨bl, off + k * 7, none⟩) hbl).trans c0, (hb.cell (p := ⟨bl, off + k * 7 + 1, none⟩) hbl).trans c1, (hb.cell (p := ⟨bl, off + k * 7 + 2, none⟩) hbl).trans c2, (hb.cell (p := ⟨bl, off + k * 7 + 3, none⟩) hbl).trans c3, (hb.cell (p := ⟨bl, off + k * 7 + 4, none⟩) hbl).trans c4, (hb.cell (p := ⟨bl, off + k * 7 + 5, none⟩) hbl).trans c5, (hb.cell (p := ⟨bl, off + k * 7 + 6, none⟩) hbl).trans c6⟩)
        have HCD := Lib.hid (show ∀ w1, Below wr.heap.size wr w1 → (w1.cell? ⟨bl', off' + k * 7, none⟩ = some (.string y.m) ∧ w1.cell? ⟨bl', off' + k * 7 + 1, none⟩ = some (.string y.x) ∧ w1.cell? ⟨bl', off' + k * 7 + 2, none⟩ = some (.int .i64 y.k) ∧ w1.cell? ⟨bl', off' + k * 7 + 3, none⟩ = some (.slice fa' y.fs.length fc') ∧ w1.cell? ⟨bl', off' + k * 7 + 4, none⟩ = some (.bool y.ch) ∧ w1.cell? ⟨bl', off' + k * 7 + 5, none⟩ = some (.slice ba' y.body.length bc') ∧ w1.cell? ⟨bl', off' + k * 7 + 6, none⟩ = some (.slice ta' y.ts.length tc')) from
          fun w1 hb => ⟨(hb.cell (p := ⟨bl', off' + k * 7, none⟩) hbl').trans d0, (hb.cell (p := ⟨bl', off' + k * 7 + 1, none⟩) hbl').trans d1, (hb.cell (p := ⟨bl', off' + k * 7 + 2, none⟩) hbl').trans d2, (hb.cell (p := ⟨bl', off' + k * 7 + 3, none⟩) hbl').trans d3, (hb.cell (p := ⟨bl', off' + k * 7 + 4, none⟩) hbl').trans d4, (hb.cell (p := ⟨bl', off' + k * 7 + 5, none⟩) hbl').trans d5, (hb.cell (p := ⟨bl', off' + k * 7 + 6, none⟩) hbl').trans d6⟩)
        have i1 : (k : Int) < (n : Int) := by omega
        clear hr1 hr2 f1 f2 c0 c1 c2 c3 c4 c5 c6 d0 d1 d2 d3 d4 d5 d6
        have hdr := Lib.hid (Base.below_drewN (Below.refl wr.heap.size wr) 1)
        obtain ⟨z, hz⟩ : ∃ z, same x y = z := ⟨_, rfl⟩
        rw [hz] at HC
        have HZ := Lib.hid hz
        clear hz
        go_wp2_with fail
        refine Each.region_all 10 [17, 18, 19, 20, 21, 22, 23, 24, 25, 26]
            [fun v _ => v = .slice (some ⟨bl, off, none⟩) n cap,
              fun v _ => v = .int .i64 ((k : Nat) : Int),
              fun v _ => v = .pointer (some ⟨bl, off + k * 7, none⟩),
              fun v _ => v = .agg #[.string x.m, .string x.x, .int .i64 x.k, .slice fa x.fs.length fc, .bool x.ch, .slice ba x.body.length bc, .slice ta x.ts.length tc],
              fun v _ => v = (.slice (some ⟨bl', off', none⟩) n cap2),
              fun v _ => v = .int .i64 ((k : Nat) : Int),
              fun v _ => v = .pointer (some ⟨bl', off' + k * 7, none⟩),
              fun v _ => v = .agg #[.string y.m, .string y.x, .int .i64 y.k, .slice fa' y.fs.length fc', .bool y.ch, .slice ba' y.body.length bc', .slice ta' y.ts.length tc'],
              fun v _ => v = .bool z,
              fun v _ => v = .bool (!z)]
             (by kernel_rfl) (by kernel_rfl) (by kernel_rfl) (by kernel_rfl) (fun _ _ d _ _ h => by cases d <;> exact h) (by rfl) (by rfl)
            ⟨Each.Lasts.eq _, Each.Lasts.eq _, Each.Lasts.eq _, Each.Lasts.eq _, Each.Lasts.eq _, Each.Lasts.eq _, Each.Lasts.eq _, Each.Lasts.eq _, Each.Lasts.eq _, Each.Lasts.eq _, trivial⟩ ?_ ?_
        · refine ⟨?_, ?_, ?_, ?_, ?_, ?_, ?_, ?_, ?_, ?_, trivial⟩
          · refine Each.fine rfl (fun ev w1 hR hb hh => ?_)
            clear hh
            have e0 := hR.old 0 rfl
            simp only [Array.getD_eq_getD_getElem?, List.getElem?_toArray, List.getElem?_cons_zero, Option.getD_some] at e0
            refine Each.Goes.same ?_
            go_simp
            try with_reducible rfl
          · refine Each.fine rfl (fun ev w1 hR hb hh => ?_)
            clear hh
            have e5 := hR.old 5 rfl
            simp only [Array.getD_eq_getD_getElem?, List.getElem?_toArray, List.getElem?_cons_succ, List.getElem?_cons_zero, Option.getD_some] at e5
            refine Each.Goes.same ?_
            go_simp
            try with_reducible rfl
          · refine Each.fine rfl (fun ev w1 hR hb hh => ?_)
            have e17 : (ev (.tmp 17) = .slice (some ⟨bl, off, none⟩) n cap) := hh.at 0
            have e18 : (ev (.tmp 18) = .int .i64 ((k : Nat) : Int)) := hh.at 1
            clear hh
            refine Each.Goes.same ?_
            go_simp
            try with_reducible rfl
          · refine Each.fine rfl (fun ev w1 hR hb hh => ?_)
            have e19 : (ev (.tmp 19) = .pointer (some ⟨bl, off + k * 7, none⟩)) := hh.at 0
            clear hh
            obtain ⟨q0, q1, q2, q3, q4, q5, q6⟩ := HCE.out w1 (hdr.out.trans (hb.mono (Nat.le_refl _)))
            refine Each.Goes.same ?_
            go_simp
            try with_reducible rfl
          · refine Each.fine rfl (fun ev w1 hR hb hh => ?_)
            clear hh
            have e1 := hR.old 1 rfl
            simp only [Array.getD_eq_getD_getElem?, List.getElem?_toArray, List.getElem?_cons_succ, List.getElem?_cons_zero, Option.getD_some] at e1
            refine Each.Goes.same ?_
            go_simp
            try with_reducible rfl
          · refine Each.fine rfl (fun ev w1 hR hb hh => ?_)
            clear hh
            have e5 := hR.old 5 rfl
            simp only [Array.getD_eq_getD_getElem?, List.getElem?_toArray, List.getElem?_cons_succ, List.getElem?_cons_zero, Option.getD_some] at e5
            refine Each.Goes.same ?_
            go_simp
            try with_reducible rfl
          · refine Each.fine rfl (fun ev w1 hR hb hh => ?_)
            have e21 : (ev (.tmp 21) = (.slice (some ⟨bl', off', none⟩) n cap2)) := hh.at 0
            have e22 : (ev (.tmp 22) = .int .i64 ((k : Nat) : Int)) := hh.at 1
            clear hh
            refine Each.Goes.same ?_
            go_simp
            try with_reducible rfl
          · refine Each.fine rfl (fun ev w1 hR hb hh => ?_)
            have e23 : (ev (.tmp 23) = .pointer (some ⟨bl', off' + k * 7, none⟩)) := hh.at 0
            clear hh
            obtain ⟨q0, q1, q2, q3, q4, q5, q6⟩ := HCD.out w1 (hdr.out.trans (hb.mono (Nat.le_refl _)))
            refine Each.Goes.same ?_
            go_simp
            try with_reducible rfl
          · refine Each.fine rfl (fun ev w1 hR hb hh => ?_)
            have e20 : (ev (.tmp 20) = .agg #[.string x.m, .string x.x, .int .i64 x.k, .slice fa x.fs.length fc, .bool x.ch, .slice ba x.body.length bc, .slice ta x.ts.length tc]) := hh.at 0
            have e24 : (ev (.tmp 24) = .agg #[.string y.m, .string y.x, .int .i64 y.k, .slice fa' y.fs.length fc', .bool y.ch, .slice ba' y.body.length bc', .slice ta' y.ts.length tc']) := hh.at 1
            clear hh
            have ef := hR.func
            refine Each.Goes.enter 11 #[.agg #[.string x.m, .string x.x, .int .i64 x.k, .slice fa x.fs.length fc, .bool x.ch, .slice ba x.body.length bc, .slice ta x.ts.length tc], .agg #[.string y.m, .string y.x, .int .i64 y.k, .slice fa' y.fs.length fc', .bool y.ch, .slice ba' y.body.length bc', .slice ta' y.ts.length tc']] (by go_simp) ((HC.out w1 (hdr.out.trans (hb.mono (Nat.le_refl _)))).mono ?_)
            rintro e w2 ⟨rfl, hb2⟩
            exact ⟨_, rfl, hb2, rfl⟩
          · refine Each.fine rfl (fun ev w1 hR hb hh => ?_)
            have e25 : (ev (.tmp 25) = .bool z) := hh.at 0
            clear hh
            refine Each.Goes.same ?_
            go_simp
            try with_reducible rfl
        intro g1 w2 hb hf
        have z26 : (g1 26 = .bool (!z)) := hf.at 9
        clear hf
        simp only [Each.putg, Act.put, List.setIfInBounds_toArray, List.set_cons_zero, List.set_cons_succ]
        rw [z26]
        have H3 := Lib.hid (Base.below_step hbr.out hb)
        clear hb
        cases z with
        | true =>
          have HE := Lib.hid (HN.out ((same_iff _ _).1 HZ.out))
          clear HN HX HZ
          go_wp2
          go_roundw
          case rel => exact ⟨k + 1, by omega, by go_num, HE, H3⟩
          case measure => simp [intOf]; omega
        | false =>
          have HE := Lib.hid (show B = false by
            rw [← HB.out, Bool.eq_false_iff]
            intro e
            have := (same_iff _ _).2 (HX.out ((all_iff _ _).1 e))
            rw [HZ.out] at this; cases this)
          clear HN HX HZ
          go_wp2
          go_ret
          exact ⟨by first | rfl | (rw [HE.out]; rfl), H3.out⟩
      · obtain rfl : k = n := by omega
        have HE := Lib.hid (show B = true by
          rw [← HB.out, all_iff]
          have := hpre.out
          rwa [List.take_of_length_le (by rw [HL.out]; omega), List.take_of_length_le (by rw [HM.out]; omega)] at this)
        clear hpre
        go_wp2
        go_ret
        exact ⟨by first | rfl | (rw [HE.out]; rfl), hbr.out⟩
  · have e : all rs qs = false := all_len rs qs (by rw [hv.1, hu.1]; exact hnm)
    have t0 : ((n : Int) == (m : Int)) = false := by rw [beq_eq_false_iff_ne]; omega
    have t1 : ¬ (n : Int) = (m : Int) := by omega
    rw [e]
    clear hv hu hf hg e hnm
    go_enter Tryd.func20, Tryd.ntmps20
    go_wp2
    go_ret
    exact ⟨rfl, Below.refl _ _⟩
end code
end Go.Proofs.YtechehbegiinpaaDoor.Rec
