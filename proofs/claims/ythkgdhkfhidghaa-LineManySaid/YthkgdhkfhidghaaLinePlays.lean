/-
  Layer 6 (line): the walk of LinePlays: it returns true, and writes nothing that was there.
-/
import Derived.Test.YthkgdhkfhidghaaLineBares
import Derived.Test.YthkgdhkfhidghaaSeat
import Derived.Test.YthkgdhkfhidghaaTree
namespace Go.Proofs.Ythkgdhkfhidghaa.Ln
open Go.RowKit Base

/-- The law's own bytes. -/
def oddB (r : Nat) : UInt8 := [13, 10, 97, 13, 98, 10, 0, 32][r]?.getD 0
theorem odd_cell (w : World) (t : TypeId) (r : Nat) (h : r < 8) :
    (w.alloc (.cells #[.int .u8 13, .int .u8 10, .int .u8 97, .int .u8 13, .int .u8 98, .int .u8 10, .int .u8 0, .int .u8 32] t)).cell? ⟨w.heap.size, r, none⟩ = some (byteV (oddB r)) := by
  refine (cell_of_row (w.alloc _) w.heap.size r _ t (0, 0) (heap_alloc_new w _)).trans ?_
  rcases (by omega : r = 0 ∨ r = 1 ∨ r = 2 ∨ r = 3 ∨ r = 4 ∨ r = 5 ∨ r = 6 ∨ r = 7) with rfl | rfl | rfl | rfl | rfl | rfl | rfl | rfl <;> rfl
def oddL (l : List UInt8) : List UInt8 := l.map fun b => oddB (b.toNat % 8)
theorem odd_snoc (l : List UInt8) (k : Nat) (h : k < l.length) : oddL (l.take (k + 1)) = oddL (l.take k) ++ [oddB (l[k].toNat % 8)] := by
  rw [List.take_succ_eq_append_getElem h, oddL, List.map_append]; rfl
theorem nums_of_own {w : World} {base : Nat} {v : Value} {n : Nat} {bs : List UInt8} {e : TypeId} (h : w.ownsRow base e 1 v n (vals bs)) : ∃ A c, v = .slice A n c ∧ Nums .u8 w A n (Txt.nums bs) ∧ c ≤ maxLen := by
  have hl : bs.length = n := by simpa [vals_length] using h.1
  rcases h.2 with ⟨rfl, rfl⟩ | ⟨g, cap, cur, rfl, _, hh, _, hc, _, ht⟩
  · obtain rfl : bs = [] := List.length_eq_zero_iff.1 hl
    exact ⟨none, 0, rfl, Nums.nil _ _ _, by decide⟩
  · refine ⟨_, _, rfl, ⟨by rw [Txt.nums, List.length_map]; exact hl, fun _ => ⟨g, 0, rfl, ?_, fun k hk => ?_⟩⟩, hc⟩
    · rcases Nat.lt_or_ge g w.heap.size with hlt | hge
      · exact hlt
      · rw [Array.getElem?_eq_none hge] at hh; cases hh
    · rw [Nat.zero_add, cell_of_row w g k cur e (0, 0) hh, Txt.nums_at bs k (by omega)]
      have h1 : (vals bs)[k]? = some (byteV bs[k]) := by
        rw [vals, List.getElem?_map, List.getElem?_eq_getElem (by omega)]; rfl
      rw [← ht, List.getElem?_take_of_lt (by omega)] at h1
      simpa using h1
theorem nums_made (kd : IntKind) (w : World) (t : TypeId) (zs : List Int) (n : Nat) (hn : zs.length = n) : Nums kd (w.alloc (.cells ((zs.map (Value.int kd)).toArray) t)) (some ⟨w.heap.size, 0, none⟩) n zs := by
  refine ⟨hn, fun _ => ⟨w.heap.size, 0, rfl, by simp, fun k hk => ?_⟩⟩
  rw [Nat.zero_add, cell_of_row (w.alloc _) w.heap.size k _ t (0, 0) (heap_alloc_new w _)]
  have hk' : k < zs.length := by omega
  simp [List.getElem?_eq_getElem hk']
theorem prof_lt (p : Nat) (h : p < 4294967296) : ∀ j : Nat, j < 5 → 0 ≤ ([0, (p : Int), 2, 4, 6][j]?.getD 0) ∧ ([0, (p : Int), 2, 4, 6][j]?.getD 0) < 4294967296 := by
  intro j hj
  rcases (by omega : j = 0 ∨ j = 1 ∨ j = 2 ∨ j = 3 ∨ j = 4) with rfl | rfl | rfl | rfl | rfl
  · exact ⟨by simp, by simp⟩
  · exact ⟨by simp, by simp; omega⟩
  · exact ⟨by simp, by simp⟩
  · exact ⟨by simp, by simp⟩
  · exact ⟨by simp, by simp⟩

/-- Two slices of bytes in a slice. -/
def Pair (w : World) (g : Nat) : Prop := g < w.heap.size ∧ ∀ j, j < 2 → ∃ av ns cs sb, w.cell? ⟨g, j, none⟩ = some (.slice av ns cs) ∧ Nums .u8 w av ns (Txt.nums sb) ∧ ns ≤ 100
theorem Pair.below {w w' : World} {g : Nat} (h : Pair w g) (hb : Below w.heap.size w w') : Pair w' g := by
  refine ⟨Nat.lt_of_lt_of_le h.1 hb.size, fun j hj => ?_⟩
  obtain ⟨av, ns, cs, sb, h1, h2, h3⟩ := h.2 j hj
  exact ⟨av, ns, cs, sb, (hb.cell (p := ⟨g, j, none⟩) h.1).trans h1, h2.below hb, h3⟩
theorem Pair.new {w : World} (t : TypeId) {a1 a2 : Option Addr} {n1 n2 c1 c2 : Nat} {s1 s2 : List UInt8} (h1 : Nums .u8 w a1 n1 (Txt.nums s1)) (h2 : Nums .u8 w a2 n2 (Txt.nums s2)) (l1 : n1 ≤ 100) (l2 : n2 ≤ 100) :
    Pair (w.alloc (.cells #[.slice a1 n1 c1, .slice a2 n2 c2] t)) w.heap.size := by
  have hb := (Below.refl w.heap.size w).alloc (Nat.le_refl _) (.cells #[.slice a1 n1 c1, .slice a2 n2 c2] t)
  refine ⟨by simp, fun j hj => ?_⟩
  rcases (by omega : j = 0 ∨ j = 1) with rfl | rfl
  · exact ⟨a1, n1, c1, s1, cell_of_row (w.alloc _) w.heap.size 0 _ t (0, 0) (heap_alloc_new w _), h1.below hb, l1⟩
  · exact ⟨a2, n2, c2, s2, cell_of_row (w.alloc _) w.heap.size 1 _ t (0, 0) (heap_alloc_new w _), h2.below hb, l2⟩

/-- A reader and the document's go alike, by one profile. -/
structure Alike (p : Nat) (m : M) (q : R) : Prop where
  rel : Rel m q
  ok : m.Ok
  lf : m.lf = Qk.has p 1
  cr : m.cr = Qk.has p 2
theorem Alike.step {p : Nat} {m : M} {q : R} (h : Alike p m q) (c : UInt8) : Alike p (m.byte c) (q.byte c) := ⟨step_rel h.rel h.ok c, h.ok.byte c, h.lf, h.cr⟩
theorem Alike.new (p : Nat) (y : Int) : Alike p (M.of p y) (R.new (Qk.has p 1) (Qk.has p 2) (mid y)) := ⟨rel_new _ _ _, M.new_ok _ _ _ (mid_le y), rfl, rfl⟩
theorem Both.cells {w : World} {B g g' p : Nat} {m : M} {q : R} (h : Both w B g m g' p q) (hr : Rel m q) : w.cell? ⟨g', 4, none⟩ = some (.string (ba m.line)) ∧
    (failed m.last = false → w.cell? ⟨g', 3, none⟩ = some (.bool m.pend) ∧ ∃ b cap, w.cell? ⟨g', 2, none⟩ = some (.slice b m.len cap)) := by
  obtain ⟨v, hh, b, cap, rfl⟩ := h.doc
  obtain ⟨q0, q1, q2, q3, q4, q5, q6⟩ := seven hh
  refine ⟨by rw [← hr.L]; exact q4, fun hf => ⟨by rw [← hr.CR hf]; exact q3, b, cap, by rw [← rel_len hr hf]; exact q2⟩⟩

section code
set_option maxHeartbeats 8000000
set_option maxRecDepth 10000
attribute [local go_sem] Base.some_undef
theorem linePlays_any (la : Option Addr) (n cap : Nat) (bs : List UInt8) (a k : Nat) (most : Int) (lb : Option Addr) (n2 cap2 : Nat) (ls : List UInt8) (w : World)
    (ha : a < 4294967296) (hk : k < 256) (hz : Nums .u8 w la n (Txt.nums bs)) (hn : n ≤ maxLen) (hz2 : Nums .u8 w lb n2 (Txt.nums ls)) (hn2 : n2 ≤ maxLen) :
    Calls Try.prog 3 #[.slice la n cap, .int .u32 a, .int .u8 k, .int .i64 most, .slice lb n2 cap2] w fun e w' => e = .returned (.bool true) ∧ Below w.heap.size w w' := by
  have hl2 : ls.length = n2 := by have := hz2.1; rwa [Txt.nums, List.length_map] at this
  unfold maxLen at hn hn2
  have HZ := Lib.hid hz; have HZ2 := Lib.hid hz2
  have HL2 := Lib.hid hl2
  clear hz hz2 hl2
  rcases (by omega : 100 < n ∨ (n ≤ 100 ∧ 60 < n2) ∨ (n ≤ 100 ∧ n2 ≤ 60)) with h | ⟨h, h'⟩ | ⟨h, h'⟩
  · have hi : (100 : Int) < n := by omega
    go_enter Try.func3, Try.ntmps3
    go_wp2_with (go_at_call 6; with_reducible refine (known_any _).mono ?_; rintro e w1 ⟨rfl, hb⟩)
    go_ret
    exact ⟨rfl, hb⟩
  · have hi : ¬ (100 : Int) < n := by omega
    have hj : (60 : Int) < n2 := by omega
    go_enter Try.func3, Try.ntmps3
    go_wp2_with (go_at_call 6; with_reducible refine (known_any _).mono ?_; rintro e w1 ⟨rfl, hb⟩)
    go_ret
    exact ⟨rfl, hb⟩
  have hi : ¬ (100 : Int) < n := by omega
  have hj : ¬ (60 : Int) < n2 := by omega
  have HP := Lib.hid (Seat.profile_any a k ha hk)
  have hp := Seat.seatP_lt a k
  generalize Seat.seatP a k = p at *
  obtain ⟨i0, hi0, hz0, hz1, hz2⟩ := info_parts byte_info
  have G1 := Lib.hid hi0; have G2 := Lib.hid hz0; have G3 := Lib.hid hz1; have G4 := Lib.hid hz2
  clear hi0 hz0 hz1 hz2
  have HX8 : ∃ r : Nat, r < 8 ∧ (k : Int) % 8 = (r : Int) := ⟨k % 8, by omega, by omega⟩
  go_enter Try.func3, Try.ntmps3
  go_wp2_with (first
    | (go_at_call 6; with_reducible refine (known_any _).mono ?_; rintro e w1 ⟨rfl, hb1⟩)
    | (go_at_call 7; with_reducible refine (HP.out _).mono ?_; rintro e w2 ⟨rfl, hb2⟩))
  have HB2 := Lib.hid (Base.below_step hb1 hb2)
  clear hb1 hb2 HP
  go_loopw [12, 13] (fun v i wr => ∃ q : Nat, q ≤ n2 ∧ i = .int .i64 q ∧ Hid (wr.ownsRow w2.heap.size 5 1 v q (vals (oddL (ls.take q)))) ∧ Hid (Below w2.heap.size w2 wr)) (fun _ i _ => n2 - (intOf i).toNat)
  case atStart => exact ⟨0, Nat.zero_le _, rfl, Lib.hid ⟨rfl, .inl ⟨rfl, rfl⟩⟩, Lib.hid (Below.refl _ _)⟩
  case round =>
    obtain ⟨q, hq, rfl, hown, hbr⟩ := hrel
    rcases Nat.lt_or_ge q n2 with hlt | hge
    · have HBW := Lib.hid (Base.below_step HB2.out hbr.out)
      obtain ⟨b0, o0, rfl, hbl, hc⟩ := (HZ2.out.below HBW.out).2 (by omega)
      have hql : q < ls.length := by rw [HL2.out]; exact hlt
      have hck := hc q hlt
      rw [Txt.nums_at ls q hql] at hck
      have hsn := Lib.hid (odd_snoc ls q hql)
      have hbe := hbr.out.size
      have t1 : (q : Int) < (n2 : Int) := by omega
      clear hc
      have hoc := odd_cell wr 5 (ls[q].toNat % 8) (by omega)
      have him : Int.tmod ((ls[q].toNat : Nat) : Int) 8 = ((ls[q].toNat % 8 : Nat) : Int) := by rw [Int.tmod_eq_emod_of_nonneg (by omega)]; omega
      have hr8 : ls[q].toNat % 8 < 8 := by omega
      have hck2 := Lib.cell?_alloc_some (.cells #[.int .u8 13, .int .u8 10, .int .u8 97, .int .u8 13, .int .u8 98, .int .u8 10, .int .u8 0, .int .u8 32] 5) hck
      generalize ls[q].toNat % 8 = r at *
      generalize ((ls[q].toNat : Nat) : Int) = X at *
      generalize oddB r = y at *
      have hr9 : (r : Int) < 8 := by omega
      go_wp2_with (at_builtin; (refine wpList_append_own _ rfl _ _ 22 rfl w2.heap.size 5 i0 (.int .u8 0) 1 1 Try.underlying22 G1.out G2.out G3.out G4.out rfl (by decide) _ _ _ rfl ((hown.out.alloc _).alloc _) ⟨wr.heap.size + 1, 0, none⟩ 1 1 [byteV y] rfl rfl ?d1 ?d2 ?d3 ?d4 ?d5 ?_))
      first | (case d1 => exact fun j u hu => by have := news_one (wr.alloc (.cells #[.int .u8 13, .int .u8 10, .int .u8 97, .int .u8 13, .int .u8 98, .int .u8 10, .int .u8 0, .int .u8 32] 5)) (byteV y) 5 j u hu; simpa using this) | skip
      case d2 => intro u hu; obtain rfl : u = byteV y := by simpa using hu
                 rfl
      case d3 => unfold maxLen; omega
      case d4 => omega
      case d5 => simp; omega
      intro v' w' hown' hgr _
      have H2 : Hid (w'.ownsRow w2.heap.size 5 1 v' (q + 1) (vals (oddL (ls.take (q + 1))))) := Lib.hid (by
        rw [hsn.out, vals_app]
        exact hown')
      have H3 := Lib.hid (((hbr.out.alloc hbr.out.size _).alloc (by have := hbr.out.size; simp; omega) _).grown hgr (by have := hbr.out.size; simp; omega) (own_base hown.out))
      clear hown' hgr
      go_wp2
      go_roundw
      case rel => exact ⟨q + 1, by omega, by go_num, H2, H3⟩
      case measure => simp [intOf]; omega
    · obtain rfl : q = n2 := by omega
      have hown1 := hown.out
      rw [List.take_of_length_le (by rw [HL2.out]; omega)] at hown1
      obtain ⟨lo, co, rfl, hno, hco⟩ := nums_of_own hown1
      have HBW := Lib.hid (Base.below_step HB2.out hbr.out)
      have HPR := Lib.hid (Pair.new 22 (c1 := cap) (c2 := co) (HZ.out.below HBW.out) hno h (by omega))
      have HB4 := Lib.hid (HBW.out.alloc HBW.out.size (.cells #[.slice la n cap, .slice lo q co] 22))
      clear hown hown1 hno hbr HBW HZ HZ2 HB2 HL2 G1 G2 G3 G4
      go_wp2_with fail
      generalize wr.alloc (.cells #[.slice la n cap, .slice lo q co] 22) = w4 at *
      generalize wr.heap.size = g5 at *
      go_loopw [59] (fun i wa => ∃ ja : Nat, ja ≤ 2 ∧ i = .int .i64 ja ∧ Hid (Below w4.heap.size w4 wa)) (fun i _ => 2 - (intOf i).toNat)
      case atStart => exact ⟨0, Nat.zero_le _, rfl, Lib.hid (Below.refl _ _)⟩
      case round =>
        obtain ⟨ja, hja, rfl, hba⟩ := hrel
        rcases Nat.lt_or_ge ja 2 with hlt | hge
        · obtain ⟨hga, hca⟩ := HPR.out.below hba.out
          obtain ⟨av, ns, cs, sb, hck, hnum, hns⟩ := hca ja hlt
          have HS0 := Lib.hid hnum
          have t1 : (ja : Int) < 2 := by omega
          have HN5 := Lib.hid (nums_made .u32 wr 25 [0, (p : Int), 2, 4, 6] 5 rfl)
          have HP5 := Lib.hid (prof_lt p (by omega))
          generalize hzs : ([0, (p : Int), 2, 4, 6] : List Int) = zs at HN5 HP5
          have HZS := Lib.hid hzs
          clear hzs hnum hca
          go_wp2_with fail
          have HB5 := Lib.hid ((Below.refl wr.heap.size wr).alloc (Nat.le_refl _) (.cells #[.int .u32 0, .int .u32 (p : Int), .int .u32 2, .int .u32 4, .int .u32 6] 25))
          have HN5' : Hid (Nums .u32 (wr.alloc (.cells #[.int .u32 0, .int .u32 (p : Int), .int .u32 2, .int .u32 4, .int .u32 6] 25)) (some ⟨wr.heap.size, 0, none⟩) 5 zs) := Lib.hid (by
            have := HN5.out
            rw [← HZS.out] at this ⊢
            exact this)
          have HS5 := Lib.hid (HS0.out.below HB5.out)
          have HB45 := Lib.hid (hba.out.trans (HB5.out.mono hba.out.size))
          clear HN5 HZS HS0 HB5
          generalize wr.alloc (.cells #[.int .u32 0, .int .u32 (p : Int), .int .u32 2, .int .u32 4, .int .u32 6] 25) = w5 at *
          generalize wr.heap.size = g6 at *
          go_loopw [66] (fun i wb => ∃ jb : Nat, jb ≤ 5 ∧ i = .int .i64 jb ∧ Hid (Below w5.heap.size w5 wb)) (fun i _ => 5 - (intOf i).toNat)
          case atStart => exact ⟨0, Nat.zero_le _, rfl, Lib.hid (Below.refl _ _)⟩
          case round =>
            obtain ⟨jb, hjb, rfl, hbb⟩ := hrel
            rcases Nat.lt_or_ge jb 5 with hlt | hge
            · obtain ⟨b6, o6, e6, _, hc6⟩ := (HN5'.out.below hbb.out).2 (by decide)
              obtain ⟨rfl, rfl⟩ : g6 = b6 ∧ 0 = o6 := by simpa using e6
              have hck6 := hc6 jb hlt
              obtain ⟨x0, x1⟩ := HP5.out jb hlt
              rw [Nat.zero_add] at hck6
              generalize zs[jb]?.getD 0 = x at *
              obtain ⟨px, rfl⟩ := Int.eq_ofNat_of_zero_le x0
              have hpx : px < 4294967296 := by omega
              have t2 : (jb : Int) < 5 := by omega
              have HSB := Lib.hid (HS5.out.below hbb.out)
              clear e6 hc6 x0 x1
              obtain ⟨r8, _, hr8⟩ := HX8
              go_wp2_with fail
              have HB6 := Lib.hid ((Below.refl wr.heap.size wr).alloc (Nat.le_refl _) (.cells #[.int .i64 most, .int .i64 (r8 : Int)] 3))
              have HN6 := Lib.hid (Ints.two wr _ rfl most (r8 : Int) 3)
              have HS6 := Lib.hid (HSB.out.below HB6.out)
              have HB56 := Lib.hid (hbb.out.trans (HB6.out.mono hbb.out.size))
              clear HSB HB6 hr8
              generalize wr.alloc (.cells #[.int .i64 most, .int .i64 (r8 : Int)] 3) = w6 at *
              generalize wr.heap.size = g7 at *
              generalize hys : ([most, (r8 : Int)] : List Int) = ys at HN6
              clear hys
              go_loopw [76] (fun i wc => ∃ jc : Nat, jc ≤ 2 ∧ i = .int .i64 jc ∧ Hid (Below w6.heap.size w6 wc)) (fun i _ => 2 - (intOf i).toNat)
              case atStart => exact ⟨0, Nat.zero_le _, rfl, Lib.hid (Below.refl _ _)⟩
              case round =>
                obtain ⟨jc, hjc, rfl, hbc⟩ := hrel
                rcases Nat.lt_or_ge jc 2 with hlt | hge
                · obtain ⟨b7, o7, e7, _, hc7⟩ := (HN6.out.below hbc.out).2 (by decide)
                  obtain ⟨rfl, rfl⟩ : g7 = b7 ∧ 0 = o7 := by simpa using e7
                  have hck7 := hc7 jc hlt
                  rw [Nat.zero_add] at hck7
                  generalize ys[jc]?.getD 0 = y at *
                  have t3 : (jc : Int) < 2 := by omega
                  have HSC := Lib.hid (HS6.out.below hbc.out)
                  have HN1 := Lib.hid (new_one px hpx y wr)
                  clear e7 hc7
                  generalize hg8 : wr.heap.size = g8 at *
                  go_wp2_with (first
                    | (go_at_call 8; with_reducible refine (HN1.out).mono ?_; rintro e w7 ⟨rfl, h1, hb7⟩)
                    | (go_at_call 9; with_reducible refine (new_both px y h1).mono ?_; rintro e w8 ⟨rfl, hBo, hb8⟩))
                  have HBO := Lib.hid hBo
                  have HB8 := Lib.hid (hb7.trans (hb8.mono (by rw [← hg8]; exact hb7.size)))
                  clear h1 hBo hb7 hb8 HN1
                  generalize w7.heap.size = g9 at *
                  obtain ⟨wC, hwC⟩ : ∃ x, x = wr := ⟨_, rfl⟩
                  subst hwC
                  go_loopw [22] (fun i wd => ∃ (ix : Nat) (m : M) (qr : R), ix ≤ ns ∧ i = .int .i64 ix ∧ Hid (Both wd g8 g8 m g9 px qr) ∧ Hid (Alike px m qr) ∧ Hid (Below g8 wC wd)) (fun i _ => ns - (intOf i).toNat)
                  case atStart => exact ⟨0, _, _, Nat.zero_le _, rfl, HBO, Lib.hid (Alike.new px y), HB8⟩
                  case round =>
                    obtain ⟨ix, m, qr, hix, rfl, hBo, hal, hbd⟩ := hrel
                    rcases Nat.lt_or_ge ix ns with hlt | hge
                    · obtain ⟨b0, o0, rfl, hbl, hc0⟩ := HSC.out.2 (by omega)
                      have hsl : ix < sb.length := by
                        have := HSC.out.1
                        rw [Txt.nums, List.length_map] at this
                        omega
                      have hck0 := Lib.hid (hc0 ix hlt)
                      rw [Txt.nums_at sb ix hsl] at hck0
                      have t4 : (ix : Int) < (ns : Int) := by omega
                      rw [hg8] at hbl
                      clear hc0
                      generalize sb[ix] = c at *
                      have B1 := Lib.hid (fun (w : World) (h : Both w g8 g8 m g9 px qr) => both_byte c hal.out.ok h)
                      have B2 := Lib.hid (fun (w : World) (m' : M) (h : Both w g8 g8 m' g9 px qr) => both_rbyte c (by rw [hal.out.rel.most]; exact hal.out.ok.most) hpx (hal.out.rel.lf.trans hal.out.lf) (hal.out.rel.cr.trans hal.out.cr) h)
                      have HHW : Hid (qr.how c = (m.byte c).last) := Lib.hid (step_how hal.out.rel hal.out.ok c)
                      rw [HHW.out] at B2
                      have HA2 := Lib.hid (hal.out.step c)
                      have hB0 := hBo.out.below (Base.below_drewN (Below.refl _ _) 1)
                      have hbS := Base.below_drewN hbd.out 1
                      clear HHW hal
                      generalize qr.byte c = qr' at *
                      generalize m.byte c = m' at *
                      go_wp2_with fail
                      refine Sched.region [(0, false), (1, false), (2, false), (3, false), (4, false), (6, false), (7, false), (8, false), (9, false), (10, false), (5, true), (11, true), (12, false), (13, false)] (fun w' => Below g8 wC w') (by kernel_rfl) (by kernel_rfl) (fun _ _ d _ _ h => by cases d <;> exact h) hbS ?_
                      simp only [Sched.picked, List.filterMap_cons, List.filterMap_nil, List.getElem?_cons_zero, List.getElem?_cons_succ, Option.map_some]
                      repeat (first
                        | (refine Sched.skip rfl ?_; simp only [Act.put, List.setIfInBounds_toArray, List.set_cons_zero, List.set_cons_succ])
                        | (refine Sched.move _ rfl rfl ?_; simp only [Act.put, Act.eval, Array.getD_eq_getD_getElem?, List.getElem?_toArray, List.getElem?_cons_zero, List.getElem?_cons_succ, Option.getD_some, List.setIfInBounds_toArray, List.set_cons_zero, List.set_cons_succ])
                        | (refine Sched.assign _ rfl rfl ?_; simp only [Act.put, Act.eval, Array.getD_eq_getD_getElem?, List.getElem?_toArray, List.getElem?_cons_zero, List.getElem?_cons_succ, Option.getD_some, List.setIfInBounds_toArray, List.set_cons_zero, List.set_cons_succ])
                        | (refine Sched.quiet rfl ?_ ?_ ?_; rotate_left 1; (· (intro w' hS; have hck := (hS.cell (p := ⟨b0, o0 + ix, none⟩) hbl).trans hck0.out; clear hS; go_simp; with_reducible rfl)); simp only [Act.put, List.setIfInBounds_toArray, List.set_cons_zero, List.set_cons_succ])
                        | (refine Sched.change rfl (fun K hK => ?_); go_simp
                           first
                             | ((with_reducible refine (B1.out _ hB0).mono ?_); rintro e w9 ⟨rfl, hB9, hk9⟩; replace hbS := hbS.trans hk9; dsimp only; refine hK _ _ hbS ?_; clear hK K hk9 hB0)
                             | ((with_reducible refine (B2.out _ _ hB9).mono ?_); rintro e w10 ⟨rfl, hB10, hk10⟩; replace hbS := hbS.trans hk10; dsimp only; refine hK _ _ hbS ?_; clear hK K hk10 hB9)))
                      refine Sched.done ?_
                      obtain ⟨c4, c23⟩ := hB10.cells HA2.out.rel
                      have HBE := Lib.hid hB10
                      have HSE := Lib.hid hbS
                      have LN : Hid (∀ n, Calls Try.prog 12 #[ptr g8] (w10.drewN n) fun e w' => e = .returned (.string (ba m'.line)) ∧ w' = w10.drewN n) := Lib.hid (fun n => one_line (Both.left (hB10.below (Base.below_drewN (Below.refl _ _) n))))
                      have LE : Hid (∀ n, Calls Try.prog 13 #[ptr g8] (w10.drewN n) fun e w' => e = .returned (.int .i64 (m'.len : Int)) ∧ w' = w10.drewN n) := Lib.hid (fun n => one_len (Both.left (hB10.below (Base.below_drewN (Below.refl _ _) n))))
                      have LP : Hid (∀ n, Calls Try.prog 14 #[ptr g8] (w10.drewN n) fun e w' => e = .returned (.bool m'.pend) ∧ w' = w10.drewN n) := Lib.hid (fun n => one_pending (Both.left (hB10.below (Base.below_drewN (Below.refl _ _) n))))
                      have HLS := HA2.out.ok.last
                      clear hB10 hbS hBo hbd B1 B2 hck0
                      cases hf : failed m'.last with
                      | true =>
                        have hx : decide (m'.last < 3) = false := by
                          rcases HLS with e | e | e | e | e <;> rw [e] at hf ⊢ <;> first | rfl | cases hf
                        clear c23 HLS hf
                        generalize m'.last = x at *
                        generalize ba m'.line = L at *
                        go_wp2_with fail
                        go_quiet (first | (go_at_call 12; exact Calls.quiet_of_same (LN.out _)))
                        rename_i nq
                        have HBE' := Lib.hid (HBE.out.below (Base.below_drewN (Below.refl _ _) nq))
                        have HSE' := Lib.hid (Base.below_drewN HSE.out nq)
                        clear c4 hx
                        go_wp2
                        go_roundw
                        case rel => exact ⟨ix + 1, _, _, by omega, by go_num, HBE', HA2, HSE'⟩
                        case measure => simp [intOf]; omega
                      | false =>
                        have hx : m'.last < 3 := by
                          rcases HLS with e | e | e | e | e <;> rw [e] at hf ⊢ <;> first | decide | cases hf
                        obtain ⟨c3, b9, cap9, c2⟩ := c23 hf
                        clear c23 HLS hf
                        generalize m'.last = x at *
                        generalize ba m'.line = L at *
                        generalize m'.len = N at *
                        generalize m'.pend = PD at *
                        go_wp2_with fail
                        go_quiet (first
                          | (go_at_call 12; exact Calls.quiet_of_same (LN.out _))
                          | (go_at_call 13; exact Calls.quiet_of_same (LE.out _))
                          | (go_at_call 14; exact Calls.quiet_of_same (LP.out _)))
                        rename_i nq
                        have HBE' := Lib.hid (HBE.out.below (Base.below_drewN (Below.refl _ _) nq))
                        have HSE' := Lib.hid (Base.below_drewN HSE.out nq)
                        clear c4 hx c3 c2
                        go_wp2
                        go_roundw
                        case rel => exact ⟨ix + 1, _, _, by omega, by go_num, HBE', HA2, HSE'⟩
                        case measure => simp [intOf]; omega
                    · obtain rfl : ix = ns := by omega
                      have t4 : ¬ (ix : Int) < (ix : Int) := by omega
                      have HEND := Lib.hid (hbc.out.trans (hbd.out.mono (by rw [← hg8]; exact hbc.out.size)))
                      clear hBo hal hbd HBO HB8 HSC
                      go_wp2
                      go_roundw
                      case rel => exact ⟨jc + 1, by omega, by go_num, HEND⟩
                      case measure => simp [intOf]; omega
                · obtain rfl : jc = 2 := by omega
                  have HEND := Lib.hid (HB56.out.trans (hbc.out.mono HB56.out.size))
                  clear hbc
                  go_wp2
                  go_roundw
                  case rel => exact ⟨jb + 1, by omega, by go_num, HEND⟩
                  case measure => simp [intOf]; omega
            · obtain rfl : jb = 5 := by omega
              have HEND := Lib.hid (HB45.out.trans (hbb.out.mono HB45.out.size))
              clear hbb
              go_wp2
              go_roundw
              case rel => exact ⟨ja + 1, by omega, by go_num, HEND⟩
              case measure => simp [intOf]; omega
        · obtain rfl : ja = 2 := by omega
          go_wp2
          go_ret
          exact ⟨rfl, HB4.out.trans (hba.out.mono HB4.out.size)⟩
end code
end Go.Proofs.Ythkgdhkfhidghaa.Ln
