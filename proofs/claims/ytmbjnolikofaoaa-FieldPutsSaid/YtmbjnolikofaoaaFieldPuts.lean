/-
  Layer 9 (field): the walk of FieldPuts: it returns true, and writes nothing that was there. (Its drawn region is printed by tools/gen_fputs.py.)
-/
import Derived.Test.YtmbjnolikofaoaaFieldKnown
import Derived.Test.YtmbjnolikofaoaaFieldLines
import Derived.Test.YtmbjnolikofaoaaFramePairs
import Derived.Test.YtmbjnolikofaoaaThree
import Derived.Deep.CutBlock
import Derived.Deep.CutRange
import Derived.Deep.DeepCutAuto
namespace Go.Proofs.Ytmbjnolikofaoaa.Fd
open Go.RowKit Base Txt Tgt

/-- What is kept of the world within a region: nothing that was there has turned, and these blocks hold these objects. -/
structure Lev (w0 : World) (l : List (Nat × Obj)) (w : World) : Prop where
  b : Below w0.heap.size w0 w
  h : ∀ x ∈ l, w.heap[x.1]? = some x.2
theorem Lev.lt {w0 w : World} {l : List (Nat × Obj)} (h : Lev w0 l w) : ∀ x ∈ l, x.1 < w.heap.size := fun x hx => by
  have := h.h x hx
  rcases Nat.lt_or_ge x.1 w.heap.size with h' | h'
  · exact h'
  · rw [Array.getElem?_eq_none h'] at this; cases this
theorem Lev.weak {w0 w : World} {x : Nat × Obj} {l : List (Nat × Obj)} (h : Lev w0 (x :: l) w) : Lev w0 l w := ⟨h.b, fun y hy => h.h y (List.mem_cons_of_mem _ hy)⟩
theorem Lev.alloc {w0 w : World} {l : List (Nat × Obj)} (h : Lev w0 l w) (o : Obj) : Lev w0 l (w.alloc o) :=
  ⟨h.b.alloc h.b.size _, fun x hx => (heap_alloc_old w o (h.lt x hx)).trans (h.h x hx)⟩
theorem Lev.new {w0 w : World} {l : List (Nat × Obj)} (h : Lev w0 l w) (o : Obj) : Lev w0 ((w.heap.size, o) :: l) (w.alloc o) :=
  ⟨h.b.alloc h.b.size _, fun x hx => by
    rcases List.mem_cons.1 hx with rfl | hx
    · exact heap_alloc_new w o
    · exact (heap_alloc_old w o (h.lt x hx)).trans (h.h x hx)⟩
theorem Lev.put {w0 w : World} {l : List (Nat × Obj)} (h : Lev w0 l w) {t : Nat} (ht : w0.heap.size ≤ t) (hne : ∀ x ∈ l, ¬ x.1 = t) (n v : ByteArray) : Lev w0 l ((w.setCell ⟨t, 0, none⟩ (.string n)).setCell ⟨t, 1, none⟩ (.string v)) :=
  ⟨(h.b.setCell (p := ⟨t, 0, none⟩) ht _).setCell (p := ⟨t, 1, none⟩) ht _, fun x hx => by
    rw [Below.heap_setCell _ _ _ _ (hne x hx), Below.heap_setCell _ _ _ _ (hne x hx)]
    exact h.h x hx⟩
theorem Lev.cell {w0 w : World} {l : List (Nat × Obj)} (h : Lev w0 l w) {b : Nat} {cs : Array Value} {t : TypeId} (hm : (b, Obj.cells cs t (0, 0)) ∈ l) (k : Nat) : w.cell? ⟨b, k, none⟩ = cs[k]? :=
  cell_of_row w b k cs t (0, 0) (h.h _ hm)
theorem At1.put {w0 w : World} {g : Nat} {n v : ByteArray} (h : At1 w0 g n v w) (n' v' : ByteArray) : At1 w0 g n' v' ((w.setCell ⟨g, 0, none⟩ (.string n')).setCell ⟨g, 1, none⟩ (.string v')) := by
  obtain ⟨W, hW, hf, hb⟩ := Fb.put h.f h.b h.ge n' v'
  rw [hW]
  exact ⟨hf, by rw [← hW]; simpa using h.lt, hb, h.ge⟩
theorem At1.put1 {w0 w : World} {g : Nat} {n v : ByteArray} (h : At1 w0 g n v w) (v' : ByteArray) : At1 w0 g n v' (w.setCell ⟨g, 1, none⟩ (.string v')) := by
  have hb := h.b.setCell (p := ⟨g, 1, none⟩) h.ge (.string v')
  have hl := h.lt
  have hge := h.ge
  obtain ⟨c0, c1, z0, z1⟩ := h.f
  exact ⟨⟨by go_simp, by go_simp, by go_simp, by go_simp⟩, by simpa using hl, hb, hge⟩
theorem pair_at (w : World) {g : Nat} (hg : g = w.heap.size) (t : TypeId) (n v : ByteArray) : ∀ (j : Nat) (u : Value), [Value.string n, .string v][j]? = some u → (w.alloc (.cells #[.string n, .string v] t)).cell? (Addr.add ⟨g, 0, none⟩ j) = some u := by
  subst hg
  intro j u hu
  have hj : j = 0 ∨ j = 1 := by
    rcases Nat.lt_or_ge j 2 with h | h
    · omega
    · rw [List.getElem?_eq_none (by simpa using h)] at hu; cases hu
  have key := cell_of_row (w.alloc (.cells #[.string n, .string v] t)) w.heap.size j #[.string n, .string v] t (0, 0) (heap_alloc_new w _)
  have e2 : Addr.add ⟨w.heap.size, 0, none⟩ j = ⟨w.heap.size, j, none⟩ := by unfold Addr.add; rcases hj with rfl | rfl <;> simp
  rw [e2]
  refine key.trans ?_
  rcases hj with rfl | rfl <;> simpa using hu
theorem two_cells (n v : ByteArray) : ∀ u ∈ [Value.string n, .string v], u.oneCell' = true := by
  intro u hu
  rcases (by simpa using hu : u = .string n ∨ u = .string v) with rfl | rfl <;> rfl
theorem nm_at (r : Nat) (h : r < 4) : (#[.string ⟨#[65]⟩, .string ⟨#[72, 111, 115, 116]⟩, .string ⟨#[120, 45, 121]⟩, .string ⟨#[33, 126]⟩] : Array Value)[r]? = some (.string (nms[r]?.getD ByteArray.empty)) := by
  rcases (by omega : r = 0 ∨ r = 1 ∨ r = 2 ∨ r = 3) with rfl | rfl | rfl | rfl <;> rfl
theorem vl_at (r : Nat) (h : r < 4) : (#[.string ⟨#[]⟩, .string ⟨#[98]⟩, .string ⟨#[99, 32, 100]⟩, .string ⟨#[195, 169, 58, 44]⟩] : Array Value)[r]? = some (.string (vls[r]?.getD ByteArray.empty)) := by
  rcases (by omega : r = 0 ∨ r = 1 ∨ r = 2 ∨ r = 3) with rfl | rfl | rfl | rfl <;> rfl
theorem mod4 (p : Nat) (h : p < 256) : ∃ r, p % 4 = r ∧ r < 4 ∧ Int.tmod (p : Int) 4 = (r : Int) ∧ IntKind.u8.wrap (r : Int) = (r : Int) ∧ (r : Int) < 4 := by
  refine ⟨p % 4, rfl, by omega, ?_, ?_, by omega⟩
  · rw [Int.tmod_eq_emod_of_nonneg (by omega)]; omega
  · rw [IntKind.wrap_u8]; omega

section code
set_option maxHeartbeats 16000000
set_option maxRecDepth 100000
attribute [local go_sem] Base.some_undef
theorem fieldPuts_any (la : Option Addr) (n cap : Nat) (ps : List (Nat × Nat)) (sa : Option Addr) (m mcap : Nat) (ss : List ByteArray) (w : World) (hv : Pairs w la n ps) (hn : n ≤ maxLen) (hp : ∀ q ∈ ps, q.1 < 256 ∧ q.2 < 256) (hs : Strs w sa m ss) (hm : m ≤ maxLen) (hsz : ∀ s ∈ ss, s.size ≤ maxLen) :
    Calls Try.prog 6 #[.slice la n cap, .slice sa m mcap] w fun e w' => e = .returned (.bool true) ∧ Below w.heap.size w w' := by
  unfold maxLen at hn hm
  have HP := Lib.hid hv
  have HPB := Lib.hid hp
  have HPL := Lib.hid hv.1
  have HS := Lib.hid hs
  have HSL := Lib.hid hs.1
  have HSZ := Lib.hid hsz
  clear hv hp hs hsz
  rcases Nat.lt_or_ge 10 n with c0 | c0
  · have d0 : (10 : Int) < (n : Int) := by omega
    go_enter Try.func6, Try.ntmps6
    go_wp2_with (go_at_call 7; with_reducible refine (known_any _).mono ?_; rintro e w1 ⟨rfl, hb⟩)
    go_ret
    exact ⟨rfl, hb⟩
  have d0 : ¬ (10 : Int) < (n : Int) := by omega
  rcases Nat.lt_or_ge 10 m with c1 | c1
  · have d1 : (10 : Int) < (m : Int) := by omega
    go_enter Try.func6, Try.ntmps6
    go_wp2_with (go_at_call 7; with_reducible refine (known_any _).mono ?_; rintro e w1 ⟨rfl, hb⟩)
    go_ret
    exact ⟨rfl, hb⟩
  have d1 : ¬ (10 : Int) < (m : Int) := by omega
  obtain ⟨i0, hi, hz0, hz1, hz2⟩ := info_parts field_info
  have G1 := Lib.hid hi; have G2 := Lib.hid hz0; have G3 := Lib.hid hz1; have G4 := Lib.hid hz2
  clear hi hz0 hz1 hz2
  go_enter Try.func6, Try.ntmps6
  go_wp2_with (go_at_call 7; (with_reducible refine (known_any _).mono ?_); rintro e w1 ⟨rfl, hb⟩; have HB0 := Lib.hid hb; clear hb)
  go_loopw [5, 6] (fun v i wr => ∃ (k : Nat) (fs : List Fld), k ≤ n ∧ i = .int .i64 k ∧ fs.length = k ∧ Hid (∀ f ∈ fs, Good f) ∧ Hid (wr.ownsRow w.heap.size 25 2 v k (Txt.cells fs)) ∧ Hid (Below w.heap.size w wr)) (fun _ i _ => n - (intOf i).toNat)
  case atStart => exact ⟨0, [], Nat.zero_le _, rfl, rfl, Lib.hid (by simp), Lib.hid ⟨rfl, .inl ⟨rfl, rfl⟩⟩, HB0⟩
  case round =>
    obtain ⟨k, fs, hk, rfl, hfl, HGd, hown, hbr⟩ := hrel
    rcases Nat.lt_or_ge k n with hlt | hge
    · obtain ⟨bl, off, rfl, hbl, hc⟩ := (HP.out.below hbr.out).2 (by omega)
      obtain ⟨hc0, hc1⟩ := hc k hlt
      have hkl : k < ps.length := by rw [HPL.out]; exact hlt
      have hin : ps[k]?.getD (0, 0) ∈ ps := by rw [List.getElem?_eq_getElem hkl]; exact List.getElem_mem hkl
      obtain ⟨y0, y1⟩ := HPB.out _ hin
      clear hc hin hkl
      generalize ps[k]?.getD (0, 0) = pp at *
      obtain ⟨p0, p1⟩ := pp
      simp only at hc0 hc1 y0 y1
      obtain ⟨r0, _, hr0, m0, u0, l0⟩ := mod4 p0 y0
      obtain ⟨r1, _, hr1, m1, u1, l1⟩ := mod4 p1 y1
      have hgood := base_good r0 r1 hr0 hr1
      have Cn := Lib.hid (nm_at r0 hr0)
      have Cv := Lib.hid (vl_at r1 hr1)
      generalize nms[r0]?.getD ByteArray.empty = N at *
      generalize vls[r1]?.getD ByteArray.empty = V at *
      have HG0 := Lib.hid hgood
      have i1 : (k : Int) < (n : Int) := by omega
      have l2 : (0 : Int) ≤ (r0 : Int) := by omega
      have l3 : (0 : Int) ≤ (r1 : Int) := by omega
      clear hgood y0 y1
      have HL := Lib.hid (show Lev wr [] (World.drewN wr 1) from ⟨Base.below_drewN (Below.refl _ _) 1, by simp⟩)
      go_upto_region 9 with fail
      go_cut [7] from 31 to 78 (fun f wx => ∃ t, f = .pointer (some ⟨t, 0, none⟩) ∧ Hid (At1 wr t N V wx))
      case first =>
        refine Three.region (.quiet 1 (.quiet 2 (.quiet 3 (.quiet 4 (.quiet 5 (.quiet 6 (.quiet 10 (.quiet 11 (.quiet 12 (.quiet 13 (.quiet 14 (.quiet 15 (.three 0 (.more (.quiet 7 (.quiet 8 (.two 9 (.more (.quiet 16 (.quiet 17 (.quiet 18 (.act 19 (.act 20 .done)))))) 19 (.act 9 (.more (.quiet 16 (.quiet 17 (.quiet 18 (.act 20 .done)))))))))) 9 (.more (.quiet 16 (.quiet 17 (.two 0 (.more (.quiet 7 (.quiet 8 (.quiet 18 (.act 19 (.act 20 .done)))))) 19 (.act 0 (.more (.quiet 7 (.quiet 8 (.quiet 18 (.act 20 .done)))))))))) 19 (.two 0 (.more (.quiet 7 (.quiet 8 (.act 9 (.more (.quiet 16 (.quiet 17 (.quiet 18 (.act 20 .done))))))))) 9 (.more (.quiet 16 (.quiet 17 (.act 0 (.more (.quiet 7 (.quiet 8 (.quiet 18 (.act 20 .done))))))))))))))))))))))) (Lev wr []) (by kernel_rfl) (by kernel_rfl) (fun _ _ d _ _ h => by cases d <;> exact h) HL.out ?_
        simp only [Three.grow, Three.put1, List.getElem?_cons_zero, List.getElem?_cons_succ]
        generalize World.drewN wr 1 = W at *
        refine Three.quiet (by rfl) ?_ ?_ ?_
        rotate_left 1
        · intro w' hS
          have y0 := (hS.b.cell (p := ⟨bl, off + k * 2, none⟩) hbl).trans hc0
          have y1 := (hS.b.cell (p := ⟨bl, off + k * 2 + 1, none⟩) hbl).trans hc1
          clear hS
          go_simp
          with_reducible rfl
        simp only [Act.put, List.setIfInBounds_toArray, List.set_cons_zero, List.set_cons_succ]
        refine Three.quiet (by rfl) ?_ ?_ ?_
        rotate_left 1
        · intro w' hS
          have y0 := (hS.b.cell (p := ⟨bl, off + k * 2, none⟩) hbl).trans hc0
          have y1 := (hS.b.cell (p := ⟨bl, off + k * 2 + 1, none⟩) hbl).trans hc1
          clear hS
          go_simp
          with_reducible rfl
        simp only [Act.put, List.setIfInBounds_toArray, List.set_cons_zero, List.set_cons_succ]
        refine Three.quiet (by rfl) ?_ ?_ ?_
        rotate_left 1
        · intro w' hS
          have y0 := (hS.b.cell (p := ⟨bl, off + k * 2, none⟩) hbl).trans hc0
          have y1 := (hS.b.cell (p := ⟨bl, off + k * 2 + 1, none⟩) hbl).trans hc1
          clear hS
          go_simp
          with_reducible rfl
        simp only [Act.put, List.setIfInBounds_toArray, List.set_cons_zero, List.set_cons_succ]
        refine Three.quiet (by rfl) ?_ ?_ ?_
        rotate_left 1
        · intro w' hS
          have y0 := (hS.b.cell (p := ⟨bl, off + k * 2, none⟩) hbl).trans hc0
          have y1 := (hS.b.cell (p := ⟨bl, off + k * 2 + 1, none⟩) hbl).trans hc1
          clear hS
          go_simp
          with_reducible rfl
        simp only [Act.put, List.setIfInBounds_toArray, List.set_cons_zero, List.set_cons_succ]
        refine Three.quiet (by rfl) ?_ ?_ ?_
        rotate_left 1
        · intro w' hS
          have y0 := (hS.b.cell (p := ⟨bl, off + k * 2, none⟩) hbl).trans hc0
          have y1 := (hS.b.cell (p := ⟨bl, off + k * 2 + 1, none⟩) hbl).trans hc1
          clear hS
          go_simp
          with_reducible rfl
        simp only [Act.put, List.setIfInBounds_toArray, List.set_cons_zero, List.set_cons_succ]
        refine Three.quiet (by rfl) ?_ ?_ ?_
        rotate_left 1
        · intro w' hS
          have y0 := (hS.b.cell (p := ⟨bl, off + k * 2, none⟩) hbl).trans hc0
          have y1 := (hS.b.cell (p := ⟨bl, off + k * 2 + 1, none⟩) hbl).trans hc1
          clear hS
          go_simp
          with_reducible rfl
        simp only [Act.put, List.setIfInBounds_toArray, List.set_cons_zero, List.set_cons_succ]
        refine Three.quiet (by rfl) ?_ ?_ ?_
        rotate_left 1
        · intro w' hS
          have y0 := (hS.b.cell (p := ⟨bl, off + k * 2, none⟩) hbl).trans hc0
          have y1 := (hS.b.cell (p := ⟨bl, off + k * 2 + 1, none⟩) hbl).trans hc1
          clear hS
          go_simp
          with_reducible rfl
        simp only [Act.put, List.setIfInBounds_toArray, List.set_cons_zero, List.set_cons_succ]
        refine Three.quiet (by rfl) ?_ ?_ ?_
        rotate_left 1
        · intro w' hS
          have y0 := (hS.b.cell (p := ⟨bl, off + k * 2, none⟩) hbl).trans hc0
          have y1 := (hS.b.cell (p := ⟨bl, off + k * 2 + 1, none⟩) hbl).trans hc1
          clear hS
          go_simp
          with_reducible rfl
        simp only [Act.put, List.setIfInBounds_toArray, List.set_cons_zero, List.set_cons_succ]
        refine Three.quiet (by rfl) ?_ ?_ ?_
        rotate_left 1
        · intro w' hS
          have y0 := (hS.b.cell (p := ⟨bl, off + k * 2, none⟩) hbl).trans hc0
          have y1 := (hS.b.cell (p := ⟨bl, off + k * 2 + 1, none⟩) hbl).trans hc1
          clear hS
          go_simp
          with_reducible rfl
        simp only [Act.put, List.setIfInBounds_toArray, List.set_cons_zero, List.set_cons_succ]
        refine Three.quiet (by rfl) ?_ ?_ ?_
        rotate_left 1
        · intro w' hS
          have y0 := (hS.b.cell (p := ⟨bl, off + k * 2, none⟩) hbl).trans hc0
          have y1 := (hS.b.cell (p := ⟨bl, off + k * 2 + 1, none⟩) hbl).trans hc1
          clear hS
          go_simp
          with_reducible rfl
        simp only [Act.put, List.setIfInBounds_toArray, List.set_cons_zero, List.set_cons_succ]
        refine Three.quiet (by rfl) ?_ ?_ ?_
        rotate_left 1
        · intro w' hS
          have y0 := (hS.b.cell (p := ⟨bl, off + k * 2, none⟩) hbl).trans hc0
          have y1 := (hS.b.cell (p := ⟨bl, off + k * 2 + 1, none⟩) hbl).trans hc1
          clear hS
          go_simp
          with_reducible rfl
        simp only [Act.put, List.setIfInBounds_toArray, List.set_cons_zero, List.set_cons_succ]
        refine Three.quiet (by rfl) ?_ ?_ ?_
        rotate_left 1
        · intro w' hS
          have y0 := (hS.b.cell (p := ⟨bl, off + k * 2, none⟩) hbl).trans hc0
          have y1 := (hS.b.cell (p := ⟨bl, off + k * 2 + 1, none⟩) hbl).trans hc1
          clear hS
          go_simp
          with_reducible rfl
        simp only [Act.put, List.setIfInBounds_toArray, List.set_cons_zero, List.set_cons_succ]
        refine Three.each ?_ ?_ ?_
        · refine Three.change (by rfl) (fun K hK => ?_)
          go_simp
          have HLn := Lib.hid (HL.out.new (.cells #[.string ⟨#[65]⟩, .string ⟨#[72, 111, 115, 116]⟩, .string ⟨#[120, 45, 121]⟩, .string ⟨#[33, 126]⟩] 9))
          refine hK _ _ HLn.out.weak ?_
          clear hK K HL
          generalize W.alloc (.cells #[.string ⟨#[65]⟩, .string ⟨#[72, 111, 115, 116]⟩, .string ⟨#[120, 45, 121]⟩, .string ⟨#[33, 126]⟩] 9) = W1 at *
          generalize W.heap.size = bn at *
          refine Three.more _ (fun _ h => h.weak) HLn.out ?_
          have HL := HLn
          clear HLn
          refine Three.quiet (by rfl) ?_ ?_ ?_
          rotate_left 1
          · intro w' hS
            have y0 := (hS.b.cell (p := ⟨bl, off + k * 2, none⟩) hbl).trans hc0
            have y1 := (hS.b.cell (p := ⟨bl, off + k * 2 + 1, none⟩) hbl).trans hc1
            have xn := (hS.cell (b := bn) (cs := #[.string ⟨#[65]⟩, .string ⟨#[72, 111, 115, 116]⟩, .string ⟨#[120, 45, 121]⟩, .string ⟨#[33, 126]⟩]) (t := 9) (by simp) r0).trans Cn.out
            clear hS
            go_simp
            with_reducible rfl
          simp only [Act.put, List.setIfInBounds_toArray, List.set_cons_zero, List.set_cons_succ]
          refine Three.quiet (by rfl) ?_ ?_ ?_
          rotate_left 1
          · intro w' hS
            have y0 := (hS.b.cell (p := ⟨bl, off + k * 2, none⟩) hbl).trans hc0
            have y1 := (hS.b.cell (p := ⟨bl, off + k * 2 + 1, none⟩) hbl).trans hc1
            have xn := (hS.cell (b := bn) (cs := #[.string ⟨#[65]⟩, .string ⟨#[72, 111, 115, 116]⟩, .string ⟨#[120, 45, 121]⟩, .string ⟨#[33, 126]⟩]) (t := 9) (by simp) r0).trans Cn.out
            clear hS
            go_simp
            with_reducible rfl
          simp only [Act.put, List.setIfInBounds_toArray, List.set_cons_zero, List.set_cons_succ]
          refine Three.both ?_ ?_
          · refine Three.change (by rfl) (fun K hK => ?_)
            go_simp
            have HLn := Lib.hid (HL.out.new (.cells #[.string ⟨#[]⟩, .string ⟨#[98]⟩, .string ⟨#[99, 32, 100]⟩, .string ⟨#[195, 169, 58, 44]⟩] 9))
            refine hK _ _ HLn.out.weak ?_
            clear hK K HL
            generalize W1.alloc (.cells #[.string ⟨#[]⟩, .string ⟨#[98]⟩, .string ⟨#[99, 32, 100]⟩, .string ⟨#[195, 169, 58, 44]⟩] 9) = W2 at *
            generalize W1.heap.size = bv at *
            refine Three.more _ (fun _ h => h.weak) HLn.out ?_
            have HL := HLn
            clear HLn
            refine Three.quiet (by rfl) ?_ ?_ ?_
            rotate_left 1
            · intro w' hS
              have y0 := (hS.b.cell (p := ⟨bl, off + k * 2, none⟩) hbl).trans hc0
              have y1 := (hS.b.cell (p := ⟨bl, off + k * 2 + 1, none⟩) hbl).trans hc1
              have xn := (hS.cell (b := bn) (cs := #[.string ⟨#[65]⟩, .string ⟨#[72, 111, 115, 116]⟩, .string ⟨#[120, 45, 121]⟩, .string ⟨#[33, 126]⟩]) (t := 9) (by simp) r0).trans Cn.out
              have xv := (hS.cell (b := bv) (cs := #[.string ⟨#[]⟩, .string ⟨#[98]⟩, .string ⟨#[99, 32, 100]⟩, .string ⟨#[195, 169, 58, 44]⟩]) (t := 9) (by simp) r1).trans Cv.out
              clear hS
              go_simp
              with_reducible rfl
            simp only [Act.put, List.setIfInBounds_toArray, List.set_cons_zero, List.set_cons_succ]
            refine Three.quiet (by rfl) ?_ ?_ ?_
            rotate_left 1
            · intro w' hS
              have y0 := (hS.b.cell (p := ⟨bl, off + k * 2, none⟩) hbl).trans hc0
              have y1 := (hS.b.cell (p := ⟨bl, off + k * 2 + 1, none⟩) hbl).trans hc1
              have xn := (hS.cell (b := bn) (cs := #[.string ⟨#[65]⟩, .string ⟨#[72, 111, 115, 116]⟩, .string ⟨#[120, 45, 121]⟩, .string ⟨#[33, 126]⟩]) (t := 9) (by simp) r0).trans Cn.out
              have xv := (hS.cell (b := bv) (cs := #[.string ⟨#[]⟩, .string ⟨#[98]⟩, .string ⟨#[99, 32, 100]⟩, .string ⟨#[195, 169, 58, 44]⟩]) (t := 9) (by simp) r1).trans Cv.out
              clear hS
              go_simp
              with_reducible rfl
            simp only [Act.put, List.setIfInBounds_toArray, List.set_cons_zero, List.set_cons_succ]
            refine Three.quiet (by rfl) ?_ ?_ ?_
            rotate_left 1
            · intro w' hS
              have y0 := (hS.b.cell (p := ⟨bl, off + k * 2, none⟩) hbl).trans hc0
              have y1 := (hS.b.cell (p := ⟨bl, off + k * 2 + 1, none⟩) hbl).trans hc1
              have xn := (hS.cell (b := bn) (cs := #[.string ⟨#[65]⟩, .string ⟨#[72, 111, 115, 116]⟩, .string ⟨#[120, 45, 121]⟩, .string ⟨#[33, 126]⟩]) (t := 9) (by simp) r0).trans Cn.out
              have xv := (hS.cell (b := bv) (cs := #[.string ⟨#[]⟩, .string ⟨#[98]⟩, .string ⟨#[99, 32, 100]⟩, .string ⟨#[195, 169, 58, 44]⟩]) (t := 9) (by simp) r1).trans Cv.out
              clear hS
              go_simp
              with_reducible rfl
            simp only [Act.put, List.setIfInBounds_toArray, List.set_cons_zero, List.set_cons_succ]
            refine Three.change (by rfl) (fun K hK => ?_)
            go_simp
            have HF := Lib.hid (At1.new HL.out.b 25 E0 E0)
            have nev : ¬ bv = W2.heap.size := by have := HL.out.lt (bv, (.cells #[.string ⟨#[]⟩, .string ⟨#[98]⟩, .string ⟨#[99, 32, 100]⟩, .string ⟨#[195, 169, 58, 44]⟩] 9)) (by simp); simp only at this; omega
            have nen : ¬ bn = W2.heap.size := by have := HL.out.lt (bn, (.cells #[.string ⟨#[65]⟩, .string ⟨#[72, 111, 115, 116]⟩, .string ⟨#[120, 45, 121]⟩, .string ⟨#[33, 126]⟩] 9)) (by simp); simp only at this; omega
            replace HL := Lib.hid (HL.out.alloc (.cells #[.string E0, .string E0] 25))
            refine hK _ _ HL.out ?_
            clear hK K
            generalize W2.alloc (.cells #[.string E0, .string E0] 25) = W3 at *
            generalize W2.heap.size = t at *
            refine Three.change (by rfl) (fun K hK => ?_)
            obtain ⟨d0, d1, y0, y1⟩ := HF.out.f
            replace HL := Lib.hid (HL.out.put HF.out.ge (by
              intro x hx
              simp only [List.mem_cons, List.not_mem_nil, or_false] at hx
              rcases hx with rfl | rfl
              · exact nev
              · exact nen) N V)
            replace HF := Lib.hid (HF.out.put N V)
            go_simp
            refine hK _ _ HL.out ?_
            clear hK K d0 d1 y0 y1
            refine Three.done ?_
            go_wp2_with fail
            go_meet
            case rel => exact ⟨_, rfl, HF⟩
          · refine Three.change (by rfl) (fun K hK => ?_)
            go_simp
            have HF := Lib.hid (At1.new HL.out.b 25 E0 E0)
            have nen : ¬ bn = W1.heap.size := by have := HL.out.lt (bn, (.cells #[.string ⟨#[65]⟩, .string ⟨#[72, 111, 115, 116]⟩, .string ⟨#[120, 45, 121]⟩, .string ⟨#[33, 126]⟩] 9)) (by simp); simp only at this; omega
            replace HL := Lib.hid (HL.out.alloc (.cells #[.string E0, .string E0] 25))
            refine hK _ _ HL.out ?_
            clear hK K
            generalize W1.alloc (.cells #[.string E0, .string E0] 25) = W2 at *
            generalize W1.heap.size = t at *
            refine Three.change (by rfl) (fun K hK => ?_)
            go_simp
            have HLn := Lib.hid (HL.out.new (.cells #[.string ⟨#[]⟩, .string ⟨#[98]⟩, .string ⟨#[99, 32, 100]⟩, .string ⟨#[195, 169, 58, 44]⟩] 9))
            have nev : ¬ W2.heap.size = t := by have := HF.out.lt; omega
            replace HF := Lib.hid (HF.out.alloc (.cells #[.string ⟨#[]⟩, .string ⟨#[98]⟩, .string ⟨#[99, 32, 100]⟩, .string ⟨#[195, 169, 58, 44]⟩] 9))
            refine hK _ _ HLn.out.weak ?_
            clear hK K HL
            generalize W2.alloc (.cells #[.string ⟨#[]⟩, .string ⟨#[98]⟩, .string ⟨#[99, 32, 100]⟩, .string ⟨#[195, 169, 58, 44]⟩] 9) = W3 at *
            generalize W2.heap.size = bv at *
            refine Three.more _ (fun _ h => h.weak) HLn.out ?_
            have HL := HLn
            clear HLn
            refine Three.quiet (by rfl) ?_ ?_ ?_
            rotate_left 1
            · intro w' hS
              have y0 := (hS.b.cell (p := ⟨bl, off + k * 2, none⟩) hbl).trans hc0
              have y1 := (hS.b.cell (p := ⟨bl, off + k * 2 + 1, none⟩) hbl).trans hc1
              have xn := (hS.cell (b := bn) (cs := #[.string ⟨#[65]⟩, .string ⟨#[72, 111, 115, 116]⟩, .string ⟨#[120, 45, 121]⟩, .string ⟨#[33, 126]⟩]) (t := 9) (by simp) r0).trans Cn.out
              have xv := (hS.cell (b := bv) (cs := #[.string ⟨#[]⟩, .string ⟨#[98]⟩, .string ⟨#[99, 32, 100]⟩, .string ⟨#[195, 169, 58, 44]⟩]) (t := 9) (by simp) r1).trans Cv.out
              clear hS
              go_simp
              with_reducible rfl
            simp only [Act.put, List.setIfInBounds_toArray, List.set_cons_zero, List.set_cons_succ]
            refine Three.quiet (by rfl) ?_ ?_ ?_
            rotate_left 1
            · intro w' hS
              have y0 := (hS.b.cell (p := ⟨bl, off + k * 2, none⟩) hbl).trans hc0
              have y1 := (hS.b.cell (p := ⟨bl, off + k * 2 + 1, none⟩) hbl).trans hc1
              have xn := (hS.cell (b := bn) (cs := #[.string ⟨#[65]⟩, .string ⟨#[72, 111, 115, 116]⟩, .string ⟨#[120, 45, 121]⟩, .string ⟨#[33, 126]⟩]) (t := 9) (by simp) r0).trans Cn.out
              have xv := (hS.cell (b := bv) (cs := #[.string ⟨#[]⟩, .string ⟨#[98]⟩, .string ⟨#[99, 32, 100]⟩, .string ⟨#[195, 169, 58, 44]⟩]) (t := 9) (by simp) r1).trans Cv.out
              clear hS
              go_simp
              with_reducible rfl
            simp only [Act.put, List.setIfInBounds_toArray, List.set_cons_zero, List.set_cons_succ]
            refine Three.quiet (by rfl) ?_ ?_ ?_
            rotate_left 1
            · intro w' hS
              have y0 := (hS.b.cell (p := ⟨bl, off + k * 2, none⟩) hbl).trans hc0
              have y1 := (hS.b.cell (p := ⟨bl, off + k * 2 + 1, none⟩) hbl).trans hc1
              have xn := (hS.cell (b := bn) (cs := #[.string ⟨#[65]⟩, .string ⟨#[72, 111, 115, 116]⟩, .string ⟨#[120, 45, 121]⟩, .string ⟨#[33, 126]⟩]) (t := 9) (by simp) r0).trans Cn.out
              have xv := (hS.cell (b := bv) (cs := #[.string ⟨#[]⟩, .string ⟨#[98]⟩, .string ⟨#[99, 32, 100]⟩, .string ⟨#[195, 169, 58, 44]⟩]) (t := 9) (by simp) r1).trans Cv.out
              clear hS
              go_simp
              with_reducible rfl
            simp only [Act.put, List.setIfInBounds_toArray, List.set_cons_zero, List.set_cons_succ]
            refine Three.change (by rfl) (fun K hK => ?_)
            obtain ⟨d0, d1, y0, y1⟩ := HF.out.f
            replace HL := Lib.hid (HL.out.put HF.out.ge (by
              intro x hx
              simp only [List.mem_cons, List.not_mem_nil, or_false] at hx
              rcases hx with rfl | rfl
              · exact nev
              · exact nen) N V)
            replace HF := Lib.hid (HF.out.put N V)
            go_simp
            refine hK _ _ HL.out ?_
            clear hK K d0 d1 y0 y1
            refine Three.done ?_
            go_wp2_with fail
            go_meet
            case rel => exact ⟨_, rfl, HF⟩
        · refine Three.change (by rfl) (fun K hK => ?_)
          go_simp
          have HLn := Lib.hid (HL.out.new (.cells #[.string ⟨#[]⟩, .string ⟨#[98]⟩, .string ⟨#[99, 32, 100]⟩, .string ⟨#[195, 169, 58, 44]⟩] 9))
          refine hK _ _ HLn.out.weak ?_
          clear hK K HL
          generalize W.alloc (.cells #[.string ⟨#[]⟩, .string ⟨#[98]⟩, .string ⟨#[99, 32, 100]⟩, .string ⟨#[195, 169, 58, 44]⟩] 9) = W1 at *
          generalize W.heap.size = bv at *
          refine Three.more _ (fun _ h => h.weak) HLn.out ?_
          have HL := HLn
          clear HLn
          refine Three.quiet (by rfl) ?_ ?_ ?_
          rotate_left 1
          · intro w' hS
            have y0 := (hS.b.cell (p := ⟨bl, off + k * 2, none⟩) hbl).trans hc0
            have y1 := (hS.b.cell (p := ⟨bl, off + k * 2 + 1, none⟩) hbl).trans hc1
            have xv := (hS.cell (b := bv) (cs := #[.string ⟨#[]⟩, .string ⟨#[98]⟩, .string ⟨#[99, 32, 100]⟩, .string ⟨#[195, 169, 58, 44]⟩]) (t := 9) (by simp) r1).trans Cv.out
            clear hS
            go_simp
            with_reducible rfl
          simp only [Act.put, List.setIfInBounds_toArray, List.set_cons_zero, List.set_cons_succ]
          refine Three.quiet (by rfl) ?_ ?_ ?_
          rotate_left 1
          · intro w' hS
            have y0 := (hS.b.cell (p := ⟨bl, off + k * 2, none⟩) hbl).trans hc0
            have y1 := (hS.b.cell (p := ⟨bl, off + k * 2 + 1, none⟩) hbl).trans hc1
            have xv := (hS.cell (b := bv) (cs := #[.string ⟨#[]⟩, .string ⟨#[98]⟩, .string ⟨#[99, 32, 100]⟩, .string ⟨#[195, 169, 58, 44]⟩]) (t := 9) (by simp) r1).trans Cv.out
            clear hS
            go_simp
            with_reducible rfl
          simp only [Act.put, List.setIfInBounds_toArray, List.set_cons_zero, List.set_cons_succ]
          refine Three.both ?_ ?_
          · refine Three.change (by rfl) (fun K hK => ?_)
            go_simp
            have HLn := Lib.hid (HL.out.new (.cells #[.string ⟨#[65]⟩, .string ⟨#[72, 111, 115, 116]⟩, .string ⟨#[120, 45, 121]⟩, .string ⟨#[33, 126]⟩] 9))
            refine hK _ _ HLn.out.weak ?_
            clear hK K HL
            generalize W1.alloc (.cells #[.string ⟨#[65]⟩, .string ⟨#[72, 111, 115, 116]⟩, .string ⟨#[120, 45, 121]⟩, .string ⟨#[33, 126]⟩] 9) = W2 at *
            generalize W1.heap.size = bn at *
            refine Three.more _ (fun _ h => h.weak) HLn.out ?_
            have HL := HLn
            clear HLn
            refine Three.quiet (by rfl) ?_ ?_ ?_
            rotate_left 1
            · intro w' hS
              have y0 := (hS.b.cell (p := ⟨bl, off + k * 2, none⟩) hbl).trans hc0
              have y1 := (hS.b.cell (p := ⟨bl, off + k * 2 + 1, none⟩) hbl).trans hc1
              have xn := (hS.cell (b := bn) (cs := #[.string ⟨#[65]⟩, .string ⟨#[72, 111, 115, 116]⟩, .string ⟨#[120, 45, 121]⟩, .string ⟨#[33, 126]⟩]) (t := 9) (by simp) r0).trans Cn.out
              have xv := (hS.cell (b := bv) (cs := #[.string ⟨#[]⟩, .string ⟨#[98]⟩, .string ⟨#[99, 32, 100]⟩, .string ⟨#[195, 169, 58, 44]⟩]) (t := 9) (by simp) r1).trans Cv.out
              clear hS
              go_simp
              with_reducible rfl
            simp only [Act.put, List.setIfInBounds_toArray, List.set_cons_zero, List.set_cons_succ]
            refine Three.quiet (by rfl) ?_ ?_ ?_
            rotate_left 1
            · intro w' hS
              have y0 := (hS.b.cell (p := ⟨bl, off + k * 2, none⟩) hbl).trans hc0
              have y1 := (hS.b.cell (p := ⟨bl, off + k * 2 + 1, none⟩) hbl).trans hc1
              have xn := (hS.cell (b := bn) (cs := #[.string ⟨#[65]⟩, .string ⟨#[72, 111, 115, 116]⟩, .string ⟨#[120, 45, 121]⟩, .string ⟨#[33, 126]⟩]) (t := 9) (by simp) r0).trans Cn.out
              have xv := (hS.cell (b := bv) (cs := #[.string ⟨#[]⟩, .string ⟨#[98]⟩, .string ⟨#[99, 32, 100]⟩, .string ⟨#[195, 169, 58, 44]⟩]) (t := 9) (by simp) r1).trans Cv.out
              clear hS
              go_simp
              with_reducible rfl
            simp only [Act.put, List.setIfInBounds_toArray, List.set_cons_zero, List.set_cons_succ]
            refine Three.quiet (by rfl) ?_ ?_ ?_
            rotate_left 1
            · intro w' hS
              have y0 := (hS.b.cell (p := ⟨bl, off + k * 2, none⟩) hbl).trans hc0
              have y1 := (hS.b.cell (p := ⟨bl, off + k * 2 + 1, none⟩) hbl).trans hc1
              have xn := (hS.cell (b := bn) (cs := #[.string ⟨#[65]⟩, .string ⟨#[72, 111, 115, 116]⟩, .string ⟨#[120, 45, 121]⟩, .string ⟨#[33, 126]⟩]) (t := 9) (by simp) r0).trans Cn.out
              have xv := (hS.cell (b := bv) (cs := #[.string ⟨#[]⟩, .string ⟨#[98]⟩, .string ⟨#[99, 32, 100]⟩, .string ⟨#[195, 169, 58, 44]⟩]) (t := 9) (by simp) r1).trans Cv.out
              clear hS
              go_simp
              with_reducible rfl
            simp only [Act.put, List.setIfInBounds_toArray, List.set_cons_zero, List.set_cons_succ]
            refine Three.change (by rfl) (fun K hK => ?_)
            go_simp
            have HF := Lib.hid (At1.new HL.out.b 25 E0 E0)
            have nen : ¬ bn = W2.heap.size := by have := HL.out.lt (bn, (.cells #[.string ⟨#[65]⟩, .string ⟨#[72, 111, 115, 116]⟩, .string ⟨#[120, 45, 121]⟩, .string ⟨#[33, 126]⟩] 9)) (by simp); simp only at this; omega
            have nev : ¬ bv = W2.heap.size := by have := HL.out.lt (bv, (.cells #[.string ⟨#[]⟩, .string ⟨#[98]⟩, .string ⟨#[99, 32, 100]⟩, .string ⟨#[195, 169, 58, 44]⟩] 9)) (by simp); simp only at this; omega
            replace HL := Lib.hid (HL.out.alloc (.cells #[.string E0, .string E0] 25))
            refine hK _ _ HL.out ?_
            clear hK K
            generalize W2.alloc (.cells #[.string E0, .string E0] 25) = W3 at *
            generalize W2.heap.size = t at *
            refine Three.change (by rfl) (fun K hK => ?_)
            obtain ⟨d0, d1, y0, y1⟩ := HF.out.f
            replace HL := Lib.hid (HL.out.put HF.out.ge (by
              intro x hx
              simp only [List.mem_cons, List.not_mem_nil, or_false] at hx
              rcases hx with rfl | rfl
              · exact nen
              · exact nev) N V)
            replace HF := Lib.hid (HF.out.put N V)
            go_simp
            refine hK _ _ HL.out ?_
            clear hK K d0 d1 y0 y1
            refine Three.done ?_
            go_wp2_with fail
            go_meet
            case rel => exact ⟨_, rfl, HF⟩
          · refine Three.change (by rfl) (fun K hK => ?_)
            go_simp
            have HF := Lib.hid (At1.new HL.out.b 25 E0 E0)
            have nev : ¬ bv = W1.heap.size := by have := HL.out.lt (bv, (.cells #[.string ⟨#[]⟩, .string ⟨#[98]⟩, .string ⟨#[99, 32, 100]⟩, .string ⟨#[195, 169, 58, 44]⟩] 9)) (by simp); simp only at this; omega
            replace HL := Lib.hid (HL.out.alloc (.cells #[.string E0, .string E0] 25))
            refine hK _ _ HL.out ?_
            clear hK K
            generalize W1.alloc (.cells #[.string E0, .string E0] 25) = W2 at *
            generalize W1.heap.size = t at *
            refine Three.change (by rfl) (fun K hK => ?_)
            go_simp
            have HLn := Lib.hid (HL.out.new (.cells #[.string ⟨#[65]⟩, .string ⟨#[72, 111, 115, 116]⟩, .string ⟨#[120, 45, 121]⟩, .string ⟨#[33, 126]⟩] 9))
            have nen : ¬ W2.heap.size = t := by have := HF.out.lt; omega
            replace HF := Lib.hid (HF.out.alloc (.cells #[.string ⟨#[65]⟩, .string ⟨#[72, 111, 115, 116]⟩, .string ⟨#[120, 45, 121]⟩, .string ⟨#[33, 126]⟩] 9))
            refine hK _ _ HLn.out.weak ?_
            clear hK K HL
            generalize W2.alloc (.cells #[.string ⟨#[65]⟩, .string ⟨#[72, 111, 115, 116]⟩, .string ⟨#[120, 45, 121]⟩, .string ⟨#[33, 126]⟩] 9) = W3 at *
            generalize W2.heap.size = bn at *
            refine Three.more _ (fun _ h => h.weak) HLn.out ?_
            have HL := HLn
            clear HLn
            refine Three.quiet (by rfl) ?_ ?_ ?_
            rotate_left 1
            · intro w' hS
              have y0 := (hS.b.cell (p := ⟨bl, off + k * 2, none⟩) hbl).trans hc0
              have y1 := (hS.b.cell (p := ⟨bl, off + k * 2 + 1, none⟩) hbl).trans hc1
              have xn := (hS.cell (b := bn) (cs := #[.string ⟨#[65]⟩, .string ⟨#[72, 111, 115, 116]⟩, .string ⟨#[120, 45, 121]⟩, .string ⟨#[33, 126]⟩]) (t := 9) (by simp) r0).trans Cn.out
              have xv := (hS.cell (b := bv) (cs := #[.string ⟨#[]⟩, .string ⟨#[98]⟩, .string ⟨#[99, 32, 100]⟩, .string ⟨#[195, 169, 58, 44]⟩]) (t := 9) (by simp) r1).trans Cv.out
              clear hS
              go_simp
              with_reducible rfl
            simp only [Act.put, List.setIfInBounds_toArray, List.set_cons_zero, List.set_cons_succ]
            refine Three.quiet (by rfl) ?_ ?_ ?_
            rotate_left 1
            · intro w' hS
              have y0 := (hS.b.cell (p := ⟨bl, off + k * 2, none⟩) hbl).trans hc0
              have y1 := (hS.b.cell (p := ⟨bl, off + k * 2 + 1, none⟩) hbl).trans hc1
              have xn := (hS.cell (b := bn) (cs := #[.string ⟨#[65]⟩, .string ⟨#[72, 111, 115, 116]⟩, .string ⟨#[120, 45, 121]⟩, .string ⟨#[33, 126]⟩]) (t := 9) (by simp) r0).trans Cn.out
              have xv := (hS.cell (b := bv) (cs := #[.string ⟨#[]⟩, .string ⟨#[98]⟩, .string ⟨#[99, 32, 100]⟩, .string ⟨#[195, 169, 58, 44]⟩]) (t := 9) (by simp) r1).trans Cv.out
              clear hS
              go_simp
              with_reducible rfl
            simp only [Act.put, List.setIfInBounds_toArray, List.set_cons_zero, List.set_cons_succ]
            refine Three.quiet (by rfl) ?_ ?_ ?_
            rotate_left 1
            · intro w' hS
              have y0 := (hS.b.cell (p := ⟨bl, off + k * 2, none⟩) hbl).trans hc0
              have y1 := (hS.b.cell (p := ⟨bl, off + k * 2 + 1, none⟩) hbl).trans hc1
              have xn := (hS.cell (b := bn) (cs := #[.string ⟨#[65]⟩, .string ⟨#[72, 111, 115, 116]⟩, .string ⟨#[120, 45, 121]⟩, .string ⟨#[33, 126]⟩]) (t := 9) (by simp) r0).trans Cn.out
              have xv := (hS.cell (b := bv) (cs := #[.string ⟨#[]⟩, .string ⟨#[98]⟩, .string ⟨#[99, 32, 100]⟩, .string ⟨#[195, 169, 58, 44]⟩]) (t := 9) (by simp) r1).trans Cv.out
              clear hS
              go_simp
              with_reducible rfl
            simp only [Act.put, List.setIfInBounds_toArray, List.set_cons_zero, List.set_cons_succ]
            refine Three.change (by rfl) (fun K hK => ?_)
            obtain ⟨d0, d1, y0, y1⟩ := HF.out.f
            replace HL := Lib.hid (HL.out.put HF.out.ge (by
              intro x hx
              simp only [List.mem_cons, List.not_mem_nil, or_false] at hx
              rcases hx with rfl | rfl
              · exact nen
              · exact nev) N V)
            replace HF := Lib.hid (HF.out.put N V)
            go_simp
            refine hK _ _ HL.out ?_
            clear hK K d0 d1 y0 y1
            refine Three.done ?_
            go_wp2_with fail
            go_meet
            case rel => exact ⟨_, rfl, HF⟩
        · refine Three.change (by rfl) (fun K hK => ?_)
          go_simp
          have HF := Lib.hid (At1.new HL.out.b 25 E0 E0)
          replace HL := Lib.hid (HL.out.alloc (.cells #[.string E0, .string E0] 25))
          refine hK _ _ HL.out ?_
          clear hK K
          generalize W.alloc (.cells #[.string E0, .string E0] 25) = W1 at *
          generalize W.heap.size = t at *
          refine Three.both ?_ ?_
          · refine Three.change (by rfl) (fun K hK => ?_)
            go_simp
            have HLn := Lib.hid (HL.out.new (.cells #[.string ⟨#[65]⟩, .string ⟨#[72, 111, 115, 116]⟩, .string ⟨#[120, 45, 121]⟩, .string ⟨#[33, 126]⟩] 9))
            have nen : ¬ W1.heap.size = t := by have := HF.out.lt; omega
            replace HF := Lib.hid (HF.out.alloc (.cells #[.string ⟨#[65]⟩, .string ⟨#[72, 111, 115, 116]⟩, .string ⟨#[120, 45, 121]⟩, .string ⟨#[33, 126]⟩] 9))
            refine hK _ _ HLn.out.weak ?_
            clear hK K HL
            generalize W1.alloc (.cells #[.string ⟨#[65]⟩, .string ⟨#[72, 111, 115, 116]⟩, .string ⟨#[120, 45, 121]⟩, .string ⟨#[33, 126]⟩] 9) = W2 at *
            generalize W1.heap.size = bn at *
            refine Three.more _ (fun _ h => h.weak) HLn.out ?_
            have HL := HLn
            clear HLn
            refine Three.quiet (by rfl) ?_ ?_ ?_
            rotate_left 1
            · intro w' hS
              have y0 := (hS.b.cell (p := ⟨bl, off + k * 2, none⟩) hbl).trans hc0
              have y1 := (hS.b.cell (p := ⟨bl, off + k * 2 + 1, none⟩) hbl).trans hc1
              have xn := (hS.cell (b := bn) (cs := #[.string ⟨#[65]⟩, .string ⟨#[72, 111, 115, 116]⟩, .string ⟨#[120, 45, 121]⟩, .string ⟨#[33, 126]⟩]) (t := 9) (by simp) r0).trans Cn.out
              clear hS
              go_simp
              with_reducible rfl
            simp only [Act.put, List.setIfInBounds_toArray, List.set_cons_zero, List.set_cons_succ]
            refine Three.quiet (by rfl) ?_ ?_ ?_
            rotate_left 1
            · intro w' hS
              have y0 := (hS.b.cell (p := ⟨bl, off + k * 2, none⟩) hbl).trans hc0
              have y1 := (hS.b.cell (p := ⟨bl, off + k * 2 + 1, none⟩) hbl).trans hc1
              have xn := (hS.cell (b := bn) (cs := #[.string ⟨#[65]⟩, .string ⟨#[72, 111, 115, 116]⟩, .string ⟨#[120, 45, 121]⟩, .string ⟨#[33, 126]⟩]) (t := 9) (by simp) r0).trans Cn.out
              clear hS
              go_simp
              with_reducible rfl
            simp only [Act.put, List.setIfInBounds_toArray, List.set_cons_zero, List.set_cons_succ]
            refine Three.change (by rfl) (fun K hK => ?_)
            go_simp
            have HLn := Lib.hid (HL.out.new (.cells #[.string ⟨#[]⟩, .string ⟨#[98]⟩, .string ⟨#[99, 32, 100]⟩, .string ⟨#[195, 169, 58, 44]⟩] 9))
            have nev : ¬ W2.heap.size = t := by have := HF.out.lt; omega
            replace HF := Lib.hid (HF.out.alloc (.cells #[.string ⟨#[]⟩, .string ⟨#[98]⟩, .string ⟨#[99, 32, 100]⟩, .string ⟨#[195, 169, 58, 44]⟩] 9))
            refine hK _ _ HLn.out.weak ?_
            clear hK K HL
            generalize W2.alloc (.cells #[.string ⟨#[]⟩, .string ⟨#[98]⟩, .string ⟨#[99, 32, 100]⟩, .string ⟨#[195, 169, 58, 44]⟩] 9) = W3 at *
            generalize W2.heap.size = bv at *
            refine Three.more _ (fun _ h => h.weak) HLn.out ?_
            have HL := HLn
            clear HLn
            refine Three.quiet (by rfl) ?_ ?_ ?_
            rotate_left 1
            · intro w' hS
              have y0 := (hS.b.cell (p := ⟨bl, off + k * 2, none⟩) hbl).trans hc0
              have y1 := (hS.b.cell (p := ⟨bl, off + k * 2 + 1, none⟩) hbl).trans hc1
              have xn := (hS.cell (b := bn) (cs := #[.string ⟨#[65]⟩, .string ⟨#[72, 111, 115, 116]⟩, .string ⟨#[120, 45, 121]⟩, .string ⟨#[33, 126]⟩]) (t := 9) (by simp) r0).trans Cn.out
              have xv := (hS.cell (b := bv) (cs := #[.string ⟨#[]⟩, .string ⟨#[98]⟩, .string ⟨#[99, 32, 100]⟩, .string ⟨#[195, 169, 58, 44]⟩]) (t := 9) (by simp) r1).trans Cv.out
              clear hS
              go_simp
              with_reducible rfl
            simp only [Act.put, List.setIfInBounds_toArray, List.set_cons_zero, List.set_cons_succ]
            refine Three.quiet (by rfl) ?_ ?_ ?_
            rotate_left 1
            · intro w' hS
              have y0 := (hS.b.cell (p := ⟨bl, off + k * 2, none⟩) hbl).trans hc0
              have y1 := (hS.b.cell (p := ⟨bl, off + k * 2 + 1, none⟩) hbl).trans hc1
              have xn := (hS.cell (b := bn) (cs := #[.string ⟨#[65]⟩, .string ⟨#[72, 111, 115, 116]⟩, .string ⟨#[120, 45, 121]⟩, .string ⟨#[33, 126]⟩]) (t := 9) (by simp) r0).trans Cn.out
              have xv := (hS.cell (b := bv) (cs := #[.string ⟨#[]⟩, .string ⟨#[98]⟩, .string ⟨#[99, 32, 100]⟩, .string ⟨#[195, 169, 58, 44]⟩]) (t := 9) (by simp) r1).trans Cv.out
              clear hS
              go_simp
              with_reducible rfl
            simp only [Act.put, List.setIfInBounds_toArray, List.set_cons_zero, List.set_cons_succ]
            refine Three.quiet (by rfl) ?_ ?_ ?_
            rotate_left 1
            · intro w' hS
              have y0 := (hS.b.cell (p := ⟨bl, off + k * 2, none⟩) hbl).trans hc0
              have y1 := (hS.b.cell (p := ⟨bl, off + k * 2 + 1, none⟩) hbl).trans hc1
              have xn := (hS.cell (b := bn) (cs := #[.string ⟨#[65]⟩, .string ⟨#[72, 111, 115, 116]⟩, .string ⟨#[120, 45, 121]⟩, .string ⟨#[33, 126]⟩]) (t := 9) (by simp) r0).trans Cn.out
              have xv := (hS.cell (b := bv) (cs := #[.string ⟨#[]⟩, .string ⟨#[98]⟩, .string ⟨#[99, 32, 100]⟩, .string ⟨#[195, 169, 58, 44]⟩]) (t := 9) (by simp) r1).trans Cv.out
              clear hS
              go_simp
              with_reducible rfl
            simp only [Act.put, List.setIfInBounds_toArray, List.set_cons_zero, List.set_cons_succ]
            refine Three.change (by rfl) (fun K hK => ?_)
            obtain ⟨d0, d1, y0, y1⟩ := HF.out.f
            replace HL := Lib.hid (HL.out.put HF.out.ge (by
              intro x hx
              simp only [List.mem_cons, List.not_mem_nil, or_false] at hx
              rcases hx with rfl | rfl
              · exact nev
              · exact nen) N V)
            replace HF := Lib.hid (HF.out.put N V)
            go_simp
            refine hK _ _ HL.out ?_
            clear hK K d0 d1 y0 y1
            refine Three.done ?_
            go_wp2_with fail
            go_meet
            case rel => exact ⟨_, rfl, HF⟩
          · refine Three.change (by rfl) (fun K hK => ?_)
            go_simp
            have HLn := Lib.hid (HL.out.new (.cells #[.string ⟨#[]⟩, .string ⟨#[98]⟩, .string ⟨#[99, 32, 100]⟩, .string ⟨#[195, 169, 58, 44]⟩] 9))
            have nev : ¬ W1.heap.size = t := by have := HF.out.lt; omega
            replace HF := Lib.hid (HF.out.alloc (.cells #[.string ⟨#[]⟩, .string ⟨#[98]⟩, .string ⟨#[99, 32, 100]⟩, .string ⟨#[195, 169, 58, 44]⟩] 9))
            refine hK _ _ HLn.out.weak ?_
            clear hK K HL
            generalize W1.alloc (.cells #[.string ⟨#[]⟩, .string ⟨#[98]⟩, .string ⟨#[99, 32, 100]⟩, .string ⟨#[195, 169, 58, 44]⟩] 9) = W2 at *
            generalize W1.heap.size = bv at *
            refine Three.more _ (fun _ h => h.weak) HLn.out ?_
            have HL := HLn
            clear HLn
            refine Three.quiet (by rfl) ?_ ?_ ?_
            rotate_left 1
            · intro w' hS
              have y0 := (hS.b.cell (p := ⟨bl, off + k * 2, none⟩) hbl).trans hc0
              have y1 := (hS.b.cell (p := ⟨bl, off + k * 2 + 1, none⟩) hbl).trans hc1
              have xv := (hS.cell (b := bv) (cs := #[.string ⟨#[]⟩, .string ⟨#[98]⟩, .string ⟨#[99, 32, 100]⟩, .string ⟨#[195, 169, 58, 44]⟩]) (t := 9) (by simp) r1).trans Cv.out
              clear hS
              go_simp
              with_reducible rfl
            simp only [Act.put, List.setIfInBounds_toArray, List.set_cons_zero, List.set_cons_succ]
            refine Three.quiet (by rfl) ?_ ?_ ?_
            rotate_left 1
            · intro w' hS
              have y0 := (hS.b.cell (p := ⟨bl, off + k * 2, none⟩) hbl).trans hc0
              have y1 := (hS.b.cell (p := ⟨bl, off + k * 2 + 1, none⟩) hbl).trans hc1
              have xv := (hS.cell (b := bv) (cs := #[.string ⟨#[]⟩, .string ⟨#[98]⟩, .string ⟨#[99, 32, 100]⟩, .string ⟨#[195, 169, 58, 44]⟩]) (t := 9) (by simp) r1).trans Cv.out
              clear hS
              go_simp
              with_reducible rfl
            simp only [Act.put, List.setIfInBounds_toArray, List.set_cons_zero, List.set_cons_succ]
            refine Three.change (by rfl) (fun K hK => ?_)
            go_simp
            have HLn := Lib.hid (HL.out.new (.cells #[.string ⟨#[65]⟩, .string ⟨#[72, 111, 115, 116]⟩, .string ⟨#[120, 45, 121]⟩, .string ⟨#[33, 126]⟩] 9))
            have nen : ¬ W2.heap.size = t := by have := HF.out.lt; omega
            replace HF := Lib.hid (HF.out.alloc (.cells #[.string ⟨#[65]⟩, .string ⟨#[72, 111, 115, 116]⟩, .string ⟨#[120, 45, 121]⟩, .string ⟨#[33, 126]⟩] 9))
            refine hK _ _ HLn.out.weak ?_
            clear hK K HL
            generalize W2.alloc (.cells #[.string ⟨#[65]⟩, .string ⟨#[72, 111, 115, 116]⟩, .string ⟨#[120, 45, 121]⟩, .string ⟨#[33, 126]⟩] 9) = W3 at *
            generalize W2.heap.size = bn at *
            refine Three.more _ (fun _ h => h.weak) HLn.out ?_
            have HL := HLn
            clear HLn
            refine Three.quiet (by rfl) ?_ ?_ ?_
            rotate_left 1
            · intro w' hS
              have y0 := (hS.b.cell (p := ⟨bl, off + k * 2, none⟩) hbl).trans hc0
              have y1 := (hS.b.cell (p := ⟨bl, off + k * 2 + 1, none⟩) hbl).trans hc1
              have xn := (hS.cell (b := bn) (cs := #[.string ⟨#[65]⟩, .string ⟨#[72, 111, 115, 116]⟩, .string ⟨#[120, 45, 121]⟩, .string ⟨#[33, 126]⟩]) (t := 9) (by simp) r0).trans Cn.out
              have xv := (hS.cell (b := bv) (cs := #[.string ⟨#[]⟩, .string ⟨#[98]⟩, .string ⟨#[99, 32, 100]⟩, .string ⟨#[195, 169, 58, 44]⟩]) (t := 9) (by simp) r1).trans Cv.out
              clear hS
              go_simp
              with_reducible rfl
            simp only [Act.put, List.setIfInBounds_toArray, List.set_cons_zero, List.set_cons_succ]
            refine Three.quiet (by rfl) ?_ ?_ ?_
            rotate_left 1
            · intro w' hS
              have y0 := (hS.b.cell (p := ⟨bl, off + k * 2, none⟩) hbl).trans hc0
              have y1 := (hS.b.cell (p := ⟨bl, off + k * 2 + 1, none⟩) hbl).trans hc1
              have xn := (hS.cell (b := bn) (cs := #[.string ⟨#[65]⟩, .string ⟨#[72, 111, 115, 116]⟩, .string ⟨#[120, 45, 121]⟩, .string ⟨#[33, 126]⟩]) (t := 9) (by simp) r0).trans Cn.out
              have xv := (hS.cell (b := bv) (cs := #[.string ⟨#[]⟩, .string ⟨#[98]⟩, .string ⟨#[99, 32, 100]⟩, .string ⟨#[195, 169, 58, 44]⟩]) (t := 9) (by simp) r1).trans Cv.out
              clear hS
              go_simp
              with_reducible rfl
            simp only [Act.put, List.setIfInBounds_toArray, List.set_cons_zero, List.set_cons_succ]
            refine Three.quiet (by rfl) ?_ ?_ ?_
            rotate_left 1
            · intro w' hS
              have y0 := (hS.b.cell (p := ⟨bl, off + k * 2, none⟩) hbl).trans hc0
              have y1 := (hS.b.cell (p := ⟨bl, off + k * 2 + 1, none⟩) hbl).trans hc1
              have xn := (hS.cell (b := bn) (cs := #[.string ⟨#[65]⟩, .string ⟨#[72, 111, 115, 116]⟩, .string ⟨#[120, 45, 121]⟩, .string ⟨#[33, 126]⟩]) (t := 9) (by simp) r0).trans Cn.out
              have xv := (hS.cell (b := bv) (cs := #[.string ⟨#[]⟩, .string ⟨#[98]⟩, .string ⟨#[99, 32, 100]⟩, .string ⟨#[195, 169, 58, 44]⟩]) (t := 9) (by simp) r1).trans Cv.out
              clear hS
              go_simp
              with_reducible rfl
            simp only [Act.put, List.setIfInBounds_toArray, List.set_cons_zero, List.set_cons_succ]
            refine Three.change (by rfl) (fun K hK => ?_)
            obtain ⟨d0, d1, y0, y1⟩ := HF.out.f
            replace HL := Lib.hid (HL.out.put HF.out.ge (by
              intro x hx
              simp only [List.mem_cons, List.not_mem_nil, or_false] at hx
              rcases hx with rfl | rfl
              · exact nen
              · exact nev) N V)
            replace HF := Lib.hid (HF.out.put N V)
            go_simp
            refine hK _ _ HL.out ?_
            clear hK K d0 d1 y0 y1
            refine Three.done ?_
            go_wp2_with fail
            go_meet
            case rel => exact ⟨_, rfl, HF⟩
      case rest =>
        obtain ⟨t, rfl, HF⟩ := hcut
        clear HL Cn Cv hc0 hc1 hbl l0 l1 l2 l3 m0 m1 u0 u1
        have HW := Lib.hid (show Below w.heap.size w wr from hbr.out)
        have HOW := Lib.hid hown.out
        clear hown
        have app : ∀ (X : ByteArray) (Wz : World), At1 wr t N X Wz → Wz.ownsRow w.heap.size 25 2 u5 k (Txt.cells fs) := fun X Wz h => own_below HOW.out h.b
        have HAP := Lib.hid app
        clear app
        rcases Nat.lt_or_ge k m with hkm | hkm
        · have j1 : (k : Int) < (m : Int) := by omega
          obtain ⟨sb, so, rfl, hsb, hsc⟩ := (HS.out.below hbr.out).2 (by omega)
          have hsx := hsc k hkm
          have hkl : k < ss.length := by rw [HSL.out]; exact hkm
          have hxz : (ss[k]?.getD ByteArray.empty).size ≤ maxLen := by
            rw [List.getElem?_eq_getElem hkl]
            exact HSZ.out _ (List.getElem_mem hkl)
          clear hsc hkl
          generalize ss[k]?.getD ByteArray.empty = X at *
          unfold maxLen at hxz
          have hx1 := (HF.out.b.cell (p := ⟨sb, so + k, none⟩) hsb).trans hsx
          rcases Nat.lt_or_ge X.size 40 with hx40 | hx40
          · have j2 : (X.size : Int) < 40 := by omega
            have HR := Lib.hid (fun w => right_any ⟨#[65]⟩ X w (by show 1 + 1 + X.size ≤ _; omega))
            obtain ⟨R, hR⟩ : ∃ R, right (ByteArray.mk #[65]).data.toList X.data.toList = R := ⟨_, rfl⟩
            rw [hR] at HR
            cases R with
            | true =>
              have HG1 := Lib.hid (other_good HG0.out hR hx40)
              clear hR hx40 hxz hkm hlt
              obtain ⟨⟨c0, c1, z0, z1⟩, hqa, hqb, hqc⟩ := HF.out
              clear hqa hqb hqc
              go_wp2_with (first
                | (go_at_call 19; (with_reducible refine (HR.out _).mono ?_); rintro e w2 ⟨rfl, hb⟩
                   clear c0 c1 z0 z1
                   have HF2 := Lib.hid (HF.out.step hb)
                   have HF3 := Lib.hid (HF2.out.put1 X)
                   obtain ⟨⟨c0, c1, z0, z1⟩, hqa, hqb, hqc⟩ := HF2.out
                   have hx2 := (HF2.out.b.cell (p := ⟨sb, so + k, none⟩) hsb).trans hsx
                   clear hqa hqb hqc hb)
                | (at_builtin; refine wpList_append_own _ rfl _ _ 28 rfl w.heap.size 25 i0 (.agg #[.string ByteArray.empty, .string ByteArray.empty]) 2 32 Try.underlying28 G1.out G2.out G3.out G4.out rfl (by decide) _ _ _ rfl ((HAP.out X _ HF3.out).alloc _) ⟨w2.heap.size, 0, none⟩ 1 1 [.string N, .string X] rfl rfl ?c1a ?c2a ?c3a ?c4a ?c5a ?_))
              try (case c1a => exact pair_at _ (by simp) _ _ _)
              case c2a => intro u hu; rcases (by simpa using hu : u = .string N ∨ u = .string X) with rfl | rfl <;> rfl
              case c3a => unfold maxLen; omega
              case c4a => omega
              case c5a => have := HW.out.size; have := HF3.out.b.size; simp at this ⊢; omega
              intro v' w' hown' hgr _
              have H2 : Hid (w'.ownsRow w.heap.size 25 2 v' (k + 1) (Txt.cells (fs ++ [(N, X)]))) := Lib.hid (by rw [cells_snoc]; exact hown')
              have H3 := Lib.hid ((((HW.out.trans (HF3.out.b.mono HW.out.size)).alloc (by have := HW.out.size; have := HF3.out.b.size; omega) (.cells #[.string N, .string X] 25))).grown hgr (by have := HW.out.size; have := HF3.out.b.size; simp at this ⊢; omega) (own_base (HAP.out X _ HF3.out)))
              have H4 : Hid (∀ f ∈ fs ++ [(N, X)], Good f) := Lib.hid fun f hf => by
                rcases List.mem_append.1 hf with h | h
                · exact HGd.out f h
                · obtain rfl : f = (N, X) := by simpa using h
                  exact HG1.out
              clear hown' hgr HAP HF HF2 HF3 HW HOW
              go_wp2
              go_roundw
              case rel => first | exact ⟨k + 1, fs ++ [(N, X)], by omega, by go_num, by simp [hfl], H4, H2, H3⟩ | ((repeat apply Exists.intro); exact ⟨⟨k + 1, fs ++ [(N, X)], by omega, by go_num, by simp [hfl], H4, H2, H3⟩, rfl⟩)
              case measure => simp [intOf]; omega
            | false =>
              clear hR hx40 hxz hkm hlt
              obtain ⟨⟨c0, c1, z0, z1⟩, hqa, hqb, hqc⟩ := HF.out
              clear hqa hqb hqc
              go_wp2_with (first
                | (go_at_call 19; (with_reducible refine (HR.out _).mono ?_); rintro e w2 ⟨rfl, hb⟩
                   clear c0 c1 z0 z1
                   have HF3 := Lib.hid (HF.out.step hb)
                   obtain ⟨⟨c0, c1, z0, z1⟩, hqa, hqb, hqc⟩ := HF3.out
                   clear hqa hqb hqc hb)
                | (at_builtin; refine wpList_append_own _ rfl _ _ 28 rfl w.heap.size 25 i0 (.agg #[.string ByteArray.empty, .string ByteArray.empty]) 2 32 Try.underlying28 G1.out G2.out G3.out G4.out rfl (by decide) _ _ _ rfl ((HAP.out V _ HF3.out).alloc _) ⟨w2.heap.size, 0, none⟩ 1 1 [.string N, .string V] rfl rfl ?c1b ?c2b ?c3b ?c4b ?c5b ?_))
              try (case c1b => exact pair_at _ (by simp) _ _ _)
              case c2b => intro u hu; rcases (by simpa using hu : u = .string N ∨ u = .string V) with rfl | rfl <;> rfl
              case c3b => unfold maxLen; omega
              case c4b => omega
              case c5b => have := HW.out.size; have := HF3.out.b.size; simp at this ⊢; omega
              intro v' w' hown' hgr _
              have H2 : Hid (w'.ownsRow w.heap.size 25 2 v' (k + 1) (Txt.cells (fs ++ [(N, V)]))) := Lib.hid (by rw [cells_snoc]; exact hown')
              have H3 := Lib.hid ((((HW.out.trans (HF3.out.b.mono HW.out.size)).alloc (by have := HW.out.size; have := HF3.out.b.size; omega) (.cells #[.string N, .string V] 25))).grown hgr (by have := HW.out.size; have := HF3.out.b.size; simp at this ⊢; omega) (own_base (HAP.out V _ HF3.out)))
              have H4 : Hid (∀ f ∈ fs ++ [(N, V)], Good f) := Lib.hid fun f hf => by
                rcases List.mem_append.1 hf with h | h
                · exact HGd.out f h
                · obtain rfl : f = (N, V) := by simpa using h
                  exact HG0.out
              clear hown' hgr HAP HF HF3 HW HOW
              go_wp2
              go_roundw
              case rel => first | exact ⟨k + 1, fs ++ [(N, V)], by omega, by go_num, by simp [hfl], H4, H2, H3⟩ | ((repeat apply Exists.intro); exact ⟨⟨k + 1, fs ++ [(N, V)], by omega, by go_num, by simp [hfl], H4, H2, H3⟩, rfl⟩)
              case measure => simp [intOf]; omega
          · have j2 : ¬ (X.size : Int) < 40 := by omega
            clear hx40 hkm hlt
            obtain ⟨⟨c0, c1, z0, z1⟩, hqa, hqb, hqc⟩ := HF.out
            clear hqa hqb hqc
            have H4 : Hid (∀ f ∈ fs ++ [(N, V)], Good f) := Lib.hid fun f hf => by
              rcases List.mem_append.1 hf with h | h
              · exact HGd.out f h
              · obtain rfl : f = (N, V) := by simpa using h
                exact HG0.out
            have hW1 := HW.out.size
            have hW2 := HF.out.b.size
            have hW5 : w.heap.size ≤ wc.heap.size := by omega
            go_wp2_with (at_builtin; (refine wpList_append_own _ rfl _ _ 28 rfl w.heap.size 25 i0 (.agg #[.string ByteArray.empty, .string ByteArray.empty]) 2 32 Try.underlying28 G1.out G2.out G3.out G4.out rfl (by decide) _ _ _ rfl ((HAP.out V _ HF.out).alloc _) ⟨wc.heap.size, 0, none⟩ 1 1 [.string N, .string V] rfl rfl (pair_at _ (by simp) _ _ _) (two_cells N V) (by unfold maxLen; omega) (by omega) (Nat.le_trans hW5 (by simp)) ?_)
                         intro v' w' hown' hgr _
                         have H2 : Hid (w'.ownsRow w.heap.size 25 2 v' (k + 1) (Txt.cells (fs ++ [(N, V)]))) := Lib.hid (by rw [cells_snoc]; exact hown')
                         have H3 := Lib.hid (((HW.out.trans (HF.out.b.mono hW1)).alloc hW5 (.cells #[.string N, .string V] 25)).grown hgr (Nat.le_trans hW5 (by simp)) (own_base (HAP.out V _ HF.out)))
                         clear hown' hgr)
            go_roundw
            case rel => first | exact ⟨k + 1, fs ++ [(N, V)], by omega, by go_num, by simp [hfl], H4, H2, H3⟩ | ((repeat apply Exists.intro); exact ⟨⟨k + 1, fs ++ [(N, V)], by omega, by go_num, by simp [hfl], H4, H2, H3⟩, rfl⟩)
            case measure => simp [intOf]; omega
        · have j1 : ¬ (k : Int) < (m : Int) := by omega
          clear hkm hlt
          obtain ⟨⟨c0, c1, z0, z1⟩, hqa, hqb, hqc⟩ := HF.out
          clear hqa hqb hqc
          have H4 : Hid (∀ f ∈ fs ++ [(N, V)], Good f) := Lib.hid fun f hf => by
            rcases List.mem_append.1 hf with h | h
            · exact HGd.out f h
            · obtain rfl : f = (N, V) := by simpa using h
              exact HG0.out
          have hW1 := HW.out.size
          have hW2 := HF.out.b.size
          have hW5 : w.heap.size ≤ wc.heap.size := by omega
          go_wp2_with (at_builtin; (refine wpList_append_own _ rfl _ _ 28 rfl w.heap.size 25 i0 (.agg #[.string ByteArray.empty, .string ByteArray.empty]) 2 32 Try.underlying28 G1.out G2.out G3.out G4.out rfl (by decide) _ _ _ rfl ((HAP.out V _ HF.out).alloc _) ⟨wc.heap.size, 0, none⟩ 1 1 [.string N, .string V] rfl rfl (pair_at _ (by simp) _ _ _) (two_cells N V) (by unfold maxLen; omega) (by omega) (Nat.le_trans hW5 (by simp)) ?_)
                       intro v' w' hown' hgr _
                       have H2 : Hid (w'.ownsRow w.heap.size 25 2 v' (k + 1) (Txt.cells (fs ++ [(N, V)]))) := Lib.hid (by rw [cells_snoc]; exact hown')
                       have H3 := Lib.hid (((HW.out.trans (HF.out.b.mono hW1)).alloc hW5 (.cells #[.string N, .string V] 25)).grown hgr (Nat.le_trans hW5 (by simp)) (own_base (HAP.out V _ HF.out)))
                       clear hown' hgr)
          go_roundw
          case rel => first | exact ⟨k + 1, fs ++ [(N, V)], by omega, by go_num, by simp [hfl], H4, H2, H3⟩ | ((repeat apply Exists.intro); exact ⟨⟨k + 1, fs ++ [(N, V)], by omega, by go_num, by simp [hfl], H4, H2, H3⟩, rfl⟩)
          case measure => simp [intOf]; omega
    · obtain rfl : k = n := by omega
      obtain ⟨A, cq, hA, hFl⟩ := Flds.of_own hown.out
      subst hA
      have HFl := Lib.hid hFl
      have hpb := put_bound fs HGd.out
      rw [hfl] at hpb
      have HPut := Lib.hid (fun w' hf => put_any A k cq fs w' hf (by omega) (by omega))
      obtain ⟨S, hS⟩ : ∃ S, ba (put fs) = S := ⟨_, rfl⟩
      rw [hS] at HPut
      have HSd := Lib.hid (show S.data.toList = put fs by rw [← hS]; rfl)
      have hSz : S.size = (put fs).length := by rw [← len, HSd.out]
      have HSB := Lib.hid (show ∀ x (h : x < S.size), (put fs)[x]? = some S[x] from fun x h => by
        rw [← HSd.out, List.getElem?_eq_getElem (by rw [len]; exact h)]; rfl)
      have hS480 : S.size ≤ 480 := by omega
      clear hown hFl hS HP HPB HPL HS HSL HSZ HB0 G1 G2 G3 G4 hge
      go_wp2_with (go_at_call 21; (with_reducible refine (HPut.out _ HFl.out).mono ?_); rintro e w2 ⟨rfl, hb⟩
                   have HB2 := Lib.hid (Base.below_step hbr.out hb)
                   replace HFl := Lib.hid (HFl.out.below hb)
                   clear hb)
      go_loopw [9, 10, 11] (fun c f i wq => ∃ (q j : Nat), q ≤ k ∧ c = .int .i64 q ∧ f = .int .i64 ((put (fs.take q)).length : Nat) ∧ i = .int .i64 ((j + 1 : Nat) : Int) ∧ (put (fs.take q)).length ≤ j + 1 ∧ Hid (q < k → j + 1 < (put (fs.take q)).length + (line (fs[q]?.getD dflt)).length) ∧ Hid (q = k → (put fs).length ≤ j + 1) ∧ Hid (Below w2.heap.size w2 wq)) (fun _ _ i _ => S.size - (intOf i).toNat)
      case atStart =>
        refine ⟨0, 0, Nat.zero_le _, rfl, rfl, rfl, Nat.zero_le _, Lib.hid fun h => ?_, Lib.hid fun h => ?_, Lib.hid (Below.refl _ _)⟩
        · have h0 : 0 < fs.length := by omega
          have := (line_len (HGd.out (fs[0]?.getD dflt) (by rw [List.getElem?_eq_getElem h0]; exact List.getElem_mem h0))).1
          show 0 + 1 < 0 + _
          omega
        · have h0 : fs = [] := List.length_eq_zero_iff.1 (by omega)
          rw [h0]; exact Nat.zero_le _
      case round =>
        obtain ⟨q, j, hq, rfl, rfl, rfl, hF, HX, HY, hbq⟩ := hrel
        rcases Nat.lt_or_ge q k with hqk | hqk
        · have hql : q < fs.length := by omega
          have hg : Good (fs[q]?.getD dflt) := HGd.out _ (by rw [List.getElem?_eq_getElem hql]; exact List.getElem_mem hql)
          obtain ⟨l5, l48⟩ := line_len hg
          obtain ⟨⟨e13, e10⟩, eno⟩ := line_end hg
          have hx := HX.out hqk
          have hgrow := put_grow fs q hql
          have hbnd := put_take fs (q + 1)
          have hat := fun d hd => put_at fs q d hql hd
          have hcut := put_cut fs q hql
          have hnext : q + 1 < k → 5 ≤ (line (fs[q + 1]?.getD dflt)).length := fun h => by
            have h1 : q + 1 < fs.length := by omega
            exact (line_len (HGd.out _ (by rw [List.getElem?_eq_getElem h1]; exact List.getElem_mem h1))).1
          obtain ⟨F, hFe⟩ : ∃ F, (put (fs.take q)).length = F := ⟨_, rfl⟩
          rw [hFe] at hF hx hgrow hat hcut ⊢
          obtain ⟨L, hLe⟩ : ∃ L, (line (fs[q]?.getD dflt)).length = L := ⟨_, rfl⟩
          rw [hLe] at l5 l48 e13 e10 eno hx hgrow hat hcut
          obtain ⟨d, hd⟩ : ∃ d, j + 1 = F + d := ⟨j + 1 - F, by omega⟩
          have hjs : j + 1 < S.size := by omega
          have hj0 : j < S.size := by omega
          have hb1 : (line (fs[q]?.getD dflt))[d]?.getD 0 = S[j + 1] := by
            have h1 := hat d (by omega)
            rw [← hd, HSB.out (j + 1) hjs] at h1
            rw [← h1]; rfl
          have z1 : IntKind.i64.wrap (((j + 1 : Nat) : Int) - 1) = (j : Int) := by rw [wrap_in _ (by omega) (by omega)]; omega
          have z2 : ((j + 1 : Nat) : Int) < (S.size : Int) := by omega
          have z3 : (j : Int) < (S.size : Int) := by omega
          have z4 : (0 : Int) ≤ (j : Int) := by omega
          have z5 : (0 : Int) ≤ ((j + 1 : Nat) : Int) := by omega
          rcases Nat.lt_or_ge (d + 1) L with hdl | hdl
          · have h10 : S[j + 1] ≠ 10 := by rw [← hb1]; exact eno d hdl
            have t1 : ¬ (S[j + 1].toNat : Int) = 10 := fun e => h10 (UInt8.toNat_inj.1 (by show S[j + 1].toNat = 10; omega))
            have t2 : ((S[j + 1].toNat : Int) == 10) = false := beq_eq_false_iff_ne.2 t1
            have HX2 : Hid (q < k → j + 1 + 1 < (put (fs.take q)).length + (line (fs[q]?.getD dflt)).length) := Lib.hid fun _ => by rw [hFe, hLe]; omega
            have HY2 : Hid (q = k → (put fs).length ≤ j + 1 + 1) := Lib.hid fun h => absurd h (by omega)
            have HFF : Hid (F = (put (fs.take q)).length ∧ F ≤ j + 1 + 1) := Lib.hid ⟨hFe.symm, by omega⟩
            clear hnext hcut hat hbnd hgrow eno e13 e10 h10 hb1 hg l5 l48 hx hd hdl hLe hF hSz hpb hfl HX HY
            by_cases h13 : (S[j].toNat : Int) = 13
            · have t3 : ((S[j].toNat : Int) == 13) = true := by rw [h13]; rfl
              clear hFe
              go_wp2_with fail
              go_roundw
              case rel => exact ⟨q, j + 1, hq, rfl, by rw [← HFF.out.1], by go_num, by rw [← HFF.out.1]; exact HFF.out.2, HX2, HY2, hbq⟩
              case measure => simp [intOf]; omega
            · have t3 : ((S[j].toNat : Int) == 13) = false := beq_eq_false_iff_ne.2 h13
              clear hFe
              go_wp2_with fail
              go_roundw
              case rel => exact ⟨q, j + 1, hq, rfl, by rw [← HFF.out.1], by go_num, by rw [← HFF.out.1]; exact HFF.out.2, HX2, HY2, hbq⟩
              case measure => simp [intOf]; omega
          · have hdL : d = L - 1 := by omega
            have h10 : S[j + 1] = 10 := by rw [← hb1, hdL]; exact e10
            have h13 : S[j] = 13 := by
              have h1 := hat (d - 1) (by omega)
              rw [show F + (d - 1) = j by omega, HSB.out j hj0] at h1
              have h2 : (line (fs[q]?.getD dflt))[d - 1]?.getD 0 = S[j] := by rw [← h1]; rfl
              rw [← h2, hdL, show L - 1 - 1 = L - 2 by omega]; exact e13
            have t1 : (S[j + 1].toNat : Int) = 10 := by rw [h10]; rfl
            have t2 : ((S[j + 1].toNat : Int) == 10) = true := by rw [h10]; rfl
            have t3 : (S[j].toNat : Int) = 13 := by rw [h13]; rfl
            have t4 : ((S[j].toNat : Int) == 13) = true := by rw [h13]; rfl
            have hex : (S.extract F j).data.toList = (fs[q]?.getD dflt).1.data.toList ++ 58 :: 32 :: (fs[q]?.getD dflt).2.data.toList := by
              rw [Lib.extract_data, HSd.out, ← hcut]
              congr 1; omega
            have hexs : (S.extract F j).size ≤ 1000000000 := by rw [ByteArray.size_extract]; omega
            have HPz := Lib.hid (fun w => parse0_any (S.extract F j) w hexs)
            rw [hex, parse_line Fd.c0 hg.r] at HPz
            have z6 : (F : Int) ≤ (j : Int) := by omega
            have z7 : (j : Int) ≤ (S.size : Int) := by omega
            have z8 : (0 : Int) ≤ (F : Int) := by omega
            have z9 : ¬ (k : Int) ≤ (q : Int) := by omega
            have z10 : decide (k ≤ q) = false := decide_eq_false (by omega)
            have z11 : (q : Int) < (k : Int) := by omega
            have hF1 : (put (fs.take (q + 1))).length = j + 1 + 1 := by rw [hgrow]; omega
            have HX2 : Hid (q + 1 < k → j + 1 + 1 < (put (fs.take (q + 1))).length + (line (fs[q + 1]?.getD dflt)).length) := Lib.hid fun h => by have := hnext h; rw [hF1]; omega
            have HY2 : Hid (q + 1 = k → (put fs).length ≤ j + 1 + 1) := Lib.hid fun h => by
              have h1 : fs.take (q + 1) = fs := List.take_of_length_le (by omega)
              rw [h1] at hF1; omega
            have HF1 := Lib.hid hF1
            obtain ⟨fb, fo, rfl, hfb, hcells⟩ := (HFl.out.below hbq.out).2 (by omega)
            obtain ⟨p0, p1⟩ := hcells q hqk
            clear hnext hcut hat hbnd hgrow eno e13 e10 h10 h13 hb1 hg l5 l48 hx hd hdl hdL hLe hF hSz hpb hfl HX HY hex hexs hF1 hcells hFe
            generalize fs[q]?.getD dflt = f at *
            obtain ⟨f0, f1⟩ := f
            simp only at p0 p1
            rw [show rv (some (some ((f0, f1).1.data.toList, (f0, f1).2.data.toList))) = .tuple #[fv f0 f1, .bool true, .int .i64 0] from rfl] at HPz
            go_wp2_with (go_at_call 13; (with_reducible refine (HPz.out _).mono ?_); rintro e w3 ⟨rfl, hb⟩
                         have hbx := (Below.refl w3.heap.size w3).alloc (Nat.le_refl _) (.cells #[.string f0, .string f1] 25)
                         have hlt3 := Nat.lt_of_lt_of_le hfb hb.size
                         have p0x := (hbx.cell (p := ⟨fb, fo + q * 2, none⟩) hlt3).trans ((hb.cell (p := ⟨fb, fo + q * 2, none⟩) hfb).trans p0)
                         have p1x := (hbx.cell (p := ⟨fb, fo + q * 2 + 1, none⟩) hlt3).trans ((hb.cell (p := ⟨fb, fo + q * 2 + 1, none⟩) hfb).trans p1)
                         have AF := Lib.hid (At1.new (Base.below_step hbq.out hb) 25 f0 f1)
                         clear hb hbx hlt3)
            obtain ⟨⟨y0, y1, y2, y3⟩, hqa, hqb, hqc⟩ := AF.out
            have HBW := Lib.hid hqb
            have hnq := neq_field (f0, f1) (f0, f1)
            rw [decide_eq_false (by simp)] at hnq
            have hgd := fun op a b => guard_field op a b f0 f1 f0 f1
            dsimp only at hnq
            clear hqa hqb hqc AF p0 p1
            generalize w3.alloc (.cells #[.string f0, .string f1] 25) = W4 at *
            generalize w3.heap.size = t4 at *
            go_quiet (fail)
            rename_i nq
            go_wp2
            go_roundw
            case rel => exact ⟨q + 1, j + 1, by omega, by go_num, by rw [HF1.out]; go_num, by go_num, by rw [HF1.out]; exact Nat.le_refl _, HX2, HY2, Lib.hid (Base.below_drewN HBW.out nq)⟩
            case measure => simp [intOf]; omega
        · obtain rfl : q = k := by omega
          have hE : (put (fs.take q)).length = S.size := by rw [List.take_of_length_le (by omega), hSz]
          have hx := HY.out rfl
          have z2 : ¬ ((j + 1 : Nat) : Int) < (S.size : Int) := by omega
          rw [hE]
          clear hE hx hF HX HY
          go_wp2
          go_ret
          exact ⟨rfl, Base.below_step HB2.out hbq.out⟩
end code
end Go.Proofs.Ytmbjnolikofaoaa.Fd
