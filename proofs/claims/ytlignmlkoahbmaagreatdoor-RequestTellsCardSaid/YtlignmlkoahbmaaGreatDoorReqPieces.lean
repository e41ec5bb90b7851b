/-
  Layer 8 (request): the document's pieces of a line: where each begins and ends, or that one is empty.
-/
import Derived.Test.YtlignmlkoahbmaaGreatDoorReqRef
import Derived.Test.YtlignmlkoahbmaaGreatDoorAppend
import Derived.Lib.FieldsP
namespace Go.Proofs.YtlignmlkoahbmaaGreatDoor.Rq
open Go.RowKit Base Txt

/-- A slice of pairs of places. -/
def Spn (w : World) (a : Option Addr) (n : Nat) (sp : List (Nat × Nat)) : Prop :=
  sp.length = n ∧ (0 < n → ∃ b, a = some ⟨b, 0, none⟩ ∧ b < w.heap.size ∧ ∀ k, (hk : k < sp.length) → w.cell? ⟨b, k * 2, none⟩ = some (.int .i64 (sp[k].1 : Nat)) ∧ w.cell? ⟨b, k * 2 + 1, none⟩ = some (.int .i64 (sp[k].2 : Nat)))
theorem Spn.below {w w' : World} {a : Option Addr} {n : Nat} {sp : List (Nat × Nat)} (h : Spn w a n sp) (hb : Below w.heap.size w w') : Spn w' a n sp := by
  refine ⟨h.1, fun hn => ?_⟩
  obtain ⟨b, e, hlt, hc⟩ := h.2 hn
  exact ⟨b, e, Nat.lt_of_lt_of_le hlt hb.size, fun k hk => ⟨(hb.cell (p := ⟨b, k * 2, none⟩) hlt).trans (hc k hk).1, (hb.cell (p := ⟨b, k * 2 + 1, none⟩) hlt).trans (hc k hk).2⟩⟩
theorem Spn.of_own {w : World} {base : Nat} {e : TypeId} {v : Value} {sp : List (Nat × Nat)} (h : w.ownsRow base e 2 v sp.length (Lib.spanCells sp)) : ∃ A c, v = .slice A sp.length c ∧ Spn w A sp.length sp := by
  rcases h.2 with ⟨rfl, hx⟩ | ⟨g, cap, cur, rfl, hb, hh, hcap, hcs, h9, ht⟩
  · have h0 : sp.length = 0 := hx
    rw [h0]
    exact ⟨none, 0, rfl, h0, fun q => absurd q (by omega)⟩
  · have hlt : g < w.heap.size := by
      rcases Nat.lt_or_ge g w.heap.size with h | h
      · exact h
      · rw [Array.getElem?_eq_none h] at hh; cases hh
    refine ⟨_, _, rfl, rfl, fun _ => ⟨g, rfl, hlt, fun k hk => ?_⟩⟩
    have h1 := h.cellAt (k * 2) (by omega)
    have h2 := h.cellAt (k * 2 + 1) (by omega)
    have h3 := Lib.spanCells_at sp k sp[k] (List.getElem?_eq_getElem hk)
    exact ⟨h1.trans h3.1, h2.trans h3.2⟩

/-- The walk of the pieces: what is done at place k, where the last piece began at f. -/
def Done (bl : Bool) (l : List UInt8) (k f : Nat) (done : List (Nat × Nat)) : Prop :=
  (k ≤ l.length ∧ f ≤ k ∧ spans bl l = (pcs (sepB bl) (!bl) (l.drop k) k f).map (done ++ ·)) ∨ (k = l.length + 1 ∧ spans bl l = some done)
theorem Done.start (bl : Bool) (l : List UInt8) : Done bl l 0 0 [] := .inl ⟨Nat.zero_le _, Nat.le_refl _, by rw [List.drop_zero]; show _ = (spans bl l).map _; cases spans bl l <;> simp⟩
theorem Done.miss {bl : Bool} {l : List UInt8} {k f : Nat} {done : List (Nat × Nat)} (h : Done bl l k f done) (hk : k < l.length) (hp : sepB bl l[k] = false) : f ≤ k ∧ Done bl l (k + 1) f done := by
  rcases h with ⟨_, h1, h2⟩ | ⟨h, _⟩
  · refine ⟨h1, .inl ⟨by omega, by omega, ?_⟩⟩
    rw [h2, List.drop_eq_getElem_cons hk, pcs, if_neg (by rw [hp]; decide)]
  · omega
theorem Done.empty {bl : Bool} {l : List UInt8} {k : Nat} {done : List (Nat × Nat)} (h : Done bl l k k done) (hk : k < l.length) (hp : sepB bl l[k] = true) : if bl = true then Done bl l (k + 1) (k + 1) done else spans bl l = none := by
  rcases h with ⟨_, _, h2⟩ | ⟨h, _⟩
  · rw [List.drop_eq_getElem_cons hk, pcs, if_pos hp, if_pos rfl] at h2
    cases bl with
    | true => exact .inl ⟨by omega, Nat.le_refl _, h2⟩
    | false => exact h2
  · omega
theorem Done.empty' {bl : Bool} {l : List UInt8} {k f : Nat} {done : List (Nat × Nat)} (h : Done bl l k f done) (e : f = k) (hk : k < l.length) (hp : sepB bl l[k] = true) : if bl = true then Done bl l (k + 1) (k + 1) done else spans bl l = none := by
  subst e; exact h.empty hk hp
theorem Done.end_empty' {bl : Bool} {l : List UInt8} {f : Nat} {done : List (Nat × Nat)} (n : Nat) (hn : l.length = n) (h : Done bl l n f done) (e : f = n) : if bl = true then Done bl l (n + 1) (n + 1) done else spans bl l = none := by
  subst e; subst hn
  rcases h with ⟨_, _, h2⟩ | ⟨h, _⟩
  · rw [List.drop_length, pcs, if_pos rfl] at h2
    cases bl with
    | true => exact .inr ⟨rfl, by rw [h2]; simp⟩
    | false => exact h2
  · omega
theorem Done.end_hit' {bl : Bool} {l : List UInt8} {f : Nat} {done : List (Nat × Nat)} (n : Nat) (hn : l.length = n) (h : Done bl l n f done) (hf : f < n) : Done bl l (n + 1) (n + 1) (done ++ [(f, n)]) := by
  subst hn
  rcases h with ⟨_, _, h2⟩ | ⟨h, _⟩
  · refine .inr ⟨rfl, ?_⟩
    rw [h2, List.drop_length, pcs, if_neg (by omega)]; rfl
  · omega
theorem Done.full {bl : Bool} {l : List UInt8} {k f : Nat} {done : List (Nat × Nat)} (h : Done bl l k f done) (hk : l.length < k) : spans bl l = some done := by
  rcases h with ⟨h, _⟩ | ⟨_, h⟩
  · omega
  · exact h
theorem Done.hit {bl : Bool} {l : List UInt8} {k f : Nat} {done : List (Nat × Nat)} (h : Done bl l k f done) (hf : f < k) (hk : k < l.length) (hp : sepB bl l[k] = true) : Done bl l (k + 1) (k + 1) (done ++ [(f, k)]) := by
  rcases h with ⟨_, h1, h2⟩ | ⟨h, _⟩
  · refine .inl ⟨by omega, Nat.le_refl _, ?_⟩
    rw [h2, List.drop_eq_getElem_cons hk, pcs, if_pos hp, if_neg (by omega), Option.map_map]
    congr 1
    funext x
    simp
  · omega
theorem Done.le {bl : Bool} {l : List UInt8} {k f : Nat} {done : List (Nat × Nat)} (h : Done bl l k f done) (hk : k ≤ l.length) : f ≤ k := by
  rcases h with ⟨_, h1, _⟩ | ⟨h, _⟩
  · exact h1
  · omega
theorem news_two (w : World) (x y : Value) (t : TypeId) : ∀ (j : Nat) (u : Value), [x, y][j]? = some u → (w.alloc (.cells #[x, y] t)).cell? (Addr.add ⟨w.heap.size, 0, none⟩ j) = some u := by
  intro j u hu
  have hj : j = 0 ∨ j = 1 := by
    rcases Nat.lt_or_ge j 2 with h | h
    · omega
    · rw [List.getElem?_eq_none (by simpa using h)] at hu; cases hu
  have key := cell_of_row (w.alloc (.cells #[x, y] t)) w.heap.size j #[x, y] t (0, 0) (heap_alloc_new w _)
  have e2 : Addr.add ⟨w.heap.size, 0, none⟩ j = ⟨w.heap.size, j, none⟩ := by unfold Addr.add; rcases hj with rfl | rfl <;> simp
  rw [e2]
  refine key.trans ?_
  rcases hj with rfl | rfl <;> simpa using hu

section code
set_option maxHeartbeats 2000000
attribute [local go_sem] Base.some_undef
set_option maxRecDepth 10000 in
theorem rpieces_any (s : ByteArray) (bl : Bool) (w : World) (hs : s.size ≤ 900000000) : Calls Tryz.prog 35 #[.string s, .bool bl] w fun e w' =>
    (match spans bl s.data.toList with
      | none => e = .returned (.tuple #[.slice none 0 0, .bool false])
      | some sp => ∃ a c, e = .returned (.tuple #[.slice a sp.length c, .bool true]) ∧ Spn w' a sp.length sp) ∧ Below w.heap.size w w' := by
  obtain ⟨i0, hi, hz0, hz1, hz2⟩ := info_parts pair_info
  have G1 := Lib.hid hi; have G2 := Lib.hid hz0; have G3 := Lib.hid hz1; have G4 := Lib.hid hz2
  clear hi hz0 hz1 hz2
  obtain ⟨PS, hPS⟩ : ∃ PS, spans bl s.data.toList = PS := ⟨_, rfl⟩
  rw [hPS]
  have HPS := Lib.hid hPS
  clear hPS
  go_enter Tryz.func35, Tryz.ntmps35
  go_wp2
  go_loopw [6, 7, 8] (fun v fr i wr => ∃ (k f : Nat) (done : List (Nat × Nat)), k ≤ s.size + 1 ∧ f ≤ s.size + 1 ∧ done.length ≤ k ∧ fr = .int .i64 f ∧ i = .int .i64 k ∧ Hid (Done bl s.data.toList k f done) ∧ Hid (wr.ownsRow w.heap.size 71 2 v done.length (Lib.spanCells done)) ∧ Hid (Below w.heap.size w wr)) (fun _ _ i _ => s.size + 1 - (intOf i).toNat)
  case atStart => exact ⟨0, 0, [], by omega, by omega, Nat.le_refl _, rfl, rfl, Lib.hid (Done.start _ _), Lib.hid ⟨rfl, .inl ⟨rfl, rfl⟩⟩, Lib.hid (Below.refl _ _)⟩
  case round =>
    obtain ⟨k, f, done, hk, hf, hdn, rfl, rfl, hpt, hown, hbr⟩ := hrel
    rcases Nat.lt_or_ge k s.size with hlt | hge
    · have t0 : (k : Int) ≤ (s.size : Int) := by omega
      have i1 : (k : Int) < (s.size : Int) := by omega
      have hkl : k < s.data.toList.length := by rw [len]; exact hlt
      have hfk := hpt.out.le (by omega)
      obtain ⟨b, hb⟩ : ∃ b, s[k] = b := ⟨_, rfl⟩
      have hn : ∀ hh, s[k]'hh = b := fun _ => hb
      have hbl : s.data.toList[k] = b := hb
      have HM := Lib.hid (fun hp => (hpt.out.miss hkl hp).2)
      have HE := Lib.hid (fun (e : f = k) hp => hpt.out.empty' e hkl hp)
      have HH := Lib.hid (fun e hp => hpt.out.hit e hkl hp)
      rw [hbl] at HM HE HH
      clear hb hbl hkl hpt
      have HB := Lib.hid (fun w => Oct.rblank_any (b.toNat : Int) w)
      have m1 : IntKind.i64.wrap ((k : Int) + 1) = ((k + 1 : Nat) : Int) := by rw [wrap_in _ (by omega) (by omega)]; omega
      have hsep : sepB bl b = (b == 32 || (bl && Oct.blank (b.toNat : Int))) := by
        unfold sepB Oct.blank
        have e9 : (b == 9) = decide ((b.toNat : Int) = 9) := by
          rw [Bool.eq_iff_iff, beq_iff_eq, decide_eq_true_eq]
          exact ⟨fun h => by rw [h]; rfl, fun h => UInt8.toNat_inj.1 (by show b.toNat = 9; omega)⟩
        have e32 : (b == 32) = decide ((b.toNat : Int) = 32) := by
          rw [Bool.eq_iff_iff, beq_iff_eq, decide_eq_true_eq]
          exact ⟨fun h => by rw [h]; rfl, fun h => UInt8.toNat_inj.1 (by show b.toNat = 32; omega)⟩
        rw [e9, e32]
        cases bl <;> cases decide ((b.toNat : Int) = 32) <;> cases decide ((b.toNat : Int) = 9) <;> rfl
      have n32 : (b == 32) = false → ¬ (b.toNat : Int) = 32 := fun h e => by
        have : b = 32 := UInt8.toNat_inj.1 (by show b.toNat = 32; omega)
        rw [this] at h; cases h
      have y32 : (b == 32) = true → (b.toNat : Int) = 32 := fun h => by rw [beq_iff_eq.1 h]; rfl
      generalize (b == 32) = q at *
      generalize Oct.blank (b.toNat : Int) = bk at *
      have hcase : (q = true) ∨ (q = false ∧ bl = true ∧ bk = true) ∨ (q = false ∧ (bl && bk) = false) := by cases q <;> cases bl <;> cases bk <;> simp
      have hmiss : (q = false ∧ (bl && bk) = false) → sepB bl b = false := fun h => by rw [hsep, h.1, h.2]; rfl
      have hhit : (q = true) ∨ (q = false ∧ bl = true ∧ bk = true) → sepB bl b = true := fun h => by
        rcases h with h | ⟨h1, h2, h3⟩
        · rw [hsep, h]; rfl
        · rw [hsep, h1, h2, h3]; rfl
      clear hsep
      have HX := Lib.hid hmiss; have HY := Lib.hid hhit
      clear hmiss hhit
      rcases hcase with hq | ⟨hq, hbl, hbk⟩ | ⟨hq, hbb⟩
      · have hsp := HY.out (.inl hq)
        have e32 := y32 hq
        clear n32 y32 hq
        replace HH := Lib.hid (fun e => HH.out e hsp)
        replace HE := Lib.hid (fun e => HE.out e hsp)
        clear HX HY HM hsp
        rcases Nat.lt_or_ge f k with hfl | hfg
        · have g1 : ¬ (k : Int) = (f : Int) := by omega
          have g2 : (f : Int) < (k : Int) := by omega
          have HD := Lib.hid (HH.out hfl)
          clear HH HE
          cases bl
          · go_wp2_with (first
              | (go_at_call 38; with_reducible refine (HB.out _).mono ?_; rintro e w1 ⟨rfl, hw⟩; rw [hw]; clear hw)
              | (at_builtin; refine wpList_append_own _ rfl _ _ 68 rfl w.heap.size 71 i0 (.agg #[.int .i64 0, .int .i64 0]) 2 16 Tryz.underlying68 G1.out G2.out G3.out G4.out rfl (by decide) _ _ _ rfl (hown.out.alloc _) ⟨wr.heap.size, 0, none⟩ 1 1 [.int .i64 (f : Nat), .int .i64 (k : Nat)] rfl rfl ?ca1 ?cb1 ?cc1 ?cd1 ?ce1 ?_))
            case ca1 => exact news_two wr _ _ _
            case cb1 => intro u hu; rcases (by simpa using hu : u = .int .i64 (f : Nat) ∨ u = .int .i64 (k : Nat)) with rfl | rfl <;> rfl
            case cc1 => unfold maxLen; omega
            case cd1 => omega
            case ce1 => have := hbr.out.size; simp; omega
            intro v' w' hown' hgr _
            have H2 : Hid (w'.ownsRow w.heap.size 71 2 v' (done ++ [(f, k)]).length (Lib.spanCells (done ++ [(f, k)]))) := Lib.hid (by rw [Lib.spanCells_snoc]; simpa using hown')
            have H3 := Lib.hid ((hbr.out.alloc hbr.out.size _).grown hgr (by have := hbr.out.size; simp; omega) (own_base hown.out))
            clear hown' hgr hown hbr
            go_wp2
            go_roundw
            case rel => exact ⟨k + 1, k + 1, done ++ [(f, k)], by omega, by omega, by rw [List.length_append, List.length_singleton]; omega, by go_num, by go_num, HD, H2, H3⟩
            case measure => simp [intOf]; omega
          · go_wp2_with (first
              | (go_at_call 38; with_reducible refine (HB.out _).mono ?_; rintro e w1 ⟨rfl, hw⟩; rw [hw]; clear hw)
              | (at_builtin; refine wpList_append_own _ rfl _ _ 68 rfl w.heap.size 71 i0 (.agg #[.int .i64 0, .int .i64 0]) 2 16 Tryz.underlying68 G1.out G2.out G3.out G4.out rfl (by decide) _ _ _ rfl (hown.out.alloc _) ⟨wr.heap.size, 0, none⟩ 1 1 [.int .i64 (f : Nat), .int .i64 (k : Nat)] rfl rfl ?ca2 ?cb2 ?cc2 ?cd2 ?ce2 ?_))
            case ca2 => exact news_two wr _ _ _
            case cb2 => intro u hu; rcases (by simpa using hu : u = .int .i64 (f : Nat) ∨ u = .int .i64 (k : Nat)) with rfl | rfl <;> rfl
            case cc2 => unfold maxLen; omega
            case cd2 => omega
            case ce2 => have := hbr.out.size; simp; omega
            intro v' w' hown' hgr _
            have H2 : Hid (w'.ownsRow w.heap.size 71 2 v' (done ++ [(f, k)]).length (Lib.spanCells (done ++ [(f, k)]))) := Lib.hid (by rw [Lib.spanCells_snoc]; simpa using hown')
            have H3 := Lib.hid ((hbr.out.alloc hbr.out.size _).grown hgr (by have := hbr.out.size; simp; omega) (own_base hown.out))
            clear hown' hgr hown hbr
            go_wp2
            go_roundw
            case rel => exact ⟨k + 1, k + 1, done ++ [(f, k)], by omega, by omega, by rw [List.length_append, List.length_singleton]; omega, by go_num, by go_num, HD, H2, H3⟩
            case measure => simp [intOf]; omega
        · obtain rfl : f = k := by omega
          have HD := HE.out rfl
          clear HH HE
          cases bl
          · have hno : PS = none := HPS.out.symm.trans (by simpa using HD)
            subst hno
            clear HD
            go_wp2_with fail
            go_ret2
            exact ⟨rfl, hbr.out⟩
          · replace HD := Lib.hid (show Done true s.data.toList (f + 1) (f + 1) done by simpa using HD)
            go_wp2_with (go_at_call 38; with_reducible refine (HB.out _).mono ?_; rintro e w1 ⟨rfl, hw⟩; rw [hw]; clear hw)
            go_roundw
            case rel => exact ⟨f + 1, f + 1, done, by omega, by omega, by omega, by first | rfl | go_num, by go_num, HD, hown, hbr⟩
            case measure => simp [intOf]; omega
      · have hsp := HY.out (.inr ⟨hq, hbl, hbk⟩)
        have e32 := n32 hq
        clear n32 y32 hq
        replace HH := Lib.hid (fun e => HH.out e hsp)
        replace HE := Lib.hid (fun e => HE.out e hsp)
        clear HX HY HM hsp
        subst hbl hbk
        rcases Nat.lt_or_ge f k with hfl | hfg
        · have g1 : ¬ (k : Int) = (f : Int) := by omega
          have g2 : (f : Int) < (k : Int) := by omega
          have HD := Lib.hid (HH.out hfl)
          clear HH HE
          go_wp2_with (first
            | (go_at_call 38; with_reducible refine (HB.out _).mono ?_; rintro e w1 ⟨rfl, hw⟩; rw [hw]; clear hw)
            | (at_builtin; refine wpList_append_own _ rfl _ _ 68 rfl w.heap.size 71 i0 (.agg #[.int .i64 0, .int .i64 0]) 2 16 Tryz.underlying68 G1.out G2.out G3.out G4.out rfl (by decide) _ _ _ rfl (hown.out.alloc _) ⟨wr.heap.size, 0, none⟩ 1 1 [.int .i64 (f : Nat), .int .i64 (k : Nat)] rfl rfl ?ca3 ?cb3 ?cc3 ?cd3 ?ce3 ?_))
          case ca3 => exact news_two wr _ _ _
          case cb3 => intro u hu; rcases (by simpa using hu : u = .int .i64 (f : Nat) ∨ u = .int .i64 (k : Nat)) with rfl | rfl <;> rfl
          case cc3 => unfold maxLen; omega
          case cd3 => omega
          case ce3 => have := hbr.out.size; simp; omega
          intro v' w' hown' hgr _
          have H2 : Hid (w'.ownsRow w.heap.size 71 2 v' (done ++ [(f, k)]).length (Lib.spanCells (done ++ [(f, k)]))) := Lib.hid (by rw [Lib.spanCells_snoc]; simpa using hown')
          have H3 := Lib.hid ((hbr.out.alloc hbr.out.size _).grown hgr (by have := hbr.out.size; simp; omega) (own_base hown.out))
          clear hown' hgr hown hbr
          go_wp2
          go_roundw
          case rel => exact ⟨k + 1, k + 1, done ++ [(f, k)], by omega, by omega, by rw [List.length_append, List.length_singleton]; omega, by go_num, by go_num, HD, H2, H3⟩
          case measure => simp [intOf]; omega
        · obtain rfl : f = k := by omega
          have HD := Lib.hid (show Done true s.data.toList (f + 1) (f + 1) done by simpa using HE.out rfl)
          clear HH HE
          go_wp2_with (go_at_call 38; with_reducible refine (HB.out _).mono ?_; rintro e w1 ⟨rfl, hw⟩; rw [hw]; clear hw)
          go_roundw
          case rel => exact ⟨f + 1, f + 1, done, by omega, by omega, by omega, by first | rfl | go_num, by go_num, HD, hown, hbr⟩
          case measure => simp [intOf]; omega
      · have HD := Lib.hid (HM.out (HX.out ⟨hq, hbb⟩))
        have e32 := n32 hq
        clear n32 y32 hq HX HY HM HH HE
        cases bl
        · clear hbb
          go_wp2_with (go_at_call 38; with_reducible refine (HB.out _).mono ?_; rintro e w1 ⟨rfl, hw⟩; rw [hw]; clear hw)
          go_roundw
          case rel => exact ⟨k + 1, f, done, by omega, by omega, by omega, by first | rfl | go_num, by go_num, HD, hown, hbr⟩
          case measure => simp [intOf]; omega
        · have hbk : bk = false := by simpa using hbb
          subst hbk
          clear hbb
          go_wp2_with (go_at_call 38; with_reducible refine (HB.out _).mono ?_; rintro e w1 ⟨rfl, hw⟩; rw [hw]; clear hw)
          go_roundw
          case rel => exact ⟨k + 1, f, done, by omega, by omega, by omega, by first | rfl | go_num, by go_num, HD, hown, hbr⟩
          case measure => simp [intOf]; omega
    · rcases Nat.lt_or_ge s.size k with hgt | hle
      · obtain rfl : k = s.size + 1 := by omega
        have t0 : ¬ ((s.size + 1 : Nat) : Int) ≤ (s.size : Int) := by omega
        have hfin : PS = some done := HPS.out.symm.trans (hpt.out.full (by rw [len]; omega))
        subst hfin
        obtain ⟨A, cp, rfl, hA⟩ := Spn.of_own hown.out
        have HA := Lib.hid hA
        clear hA hown hpt
        go_wp2
        go_ret2
        first | exact ⟨⟨A, cp, rfl, HA.out⟩, hbr.out⟩ | exact ⟨⟨A, ⟨cp, rfl⟩, HA.out⟩, hbr.out⟩
      · obtain rfl : k = s.size := by omega
        have hfk := hpt.out.le (by rw [len]; exact Nat.le_refl _)
        have HE := Lib.hid (fun e => hpt.out.end_empty' s.size (len s) e)
        have HH := Lib.hid (fun e => hpt.out.end_hit' s.size (len s) e)
        clear hpt
        have t0 : (s.size : Int) ≤ (s.size : Int) := by omega
        have m1 : IntKind.i64.wrap ((s.size : Int) + 1) = ((s.size + 1 : Nat) : Int) := by rw [wrap_in _ (by omega) (by omega)]; omega
        have HB := Lib.hid (fun w => Oct.rblank_any (0 : Int) w)
        rcases Nat.lt_or_ge f s.size with hfl | hfg
        · have g1 : ¬ (s.size : Int) = (f : Int) := by omega
          have g2 : (f : Int) < (s.size : Int) := by omega
          have HD := Lib.hid (HH.out hfl)
          clear HH HE
          cases bl
          · go_wp2_with (first
              | (go_at_call 38; with_reducible refine (HB.out _).mono ?_; rintro e w1 ⟨rfl, hw⟩; rw [hw]; clear hw)
              | (at_builtin; refine wpList_append_own _ rfl _ _ 68 rfl w.heap.size 71 i0 (.agg #[.int .i64 0, .int .i64 0]) 2 16 Tryz.underlying68 G1.out G2.out G3.out G4.out rfl (by decide) _ _ _ rfl (hown.out.alloc _) ⟨wr.heap.size, 0, none⟩ 1 1 [.int .i64 (f : Nat), .int .i64 (s.size : Nat)] rfl rfl ?ca4 ?cb4 ?cc4 ?cd4 ?ce4 ?_))
            case ca4 => exact news_two wr _ _ _
            case cb4 => intro u hu; rcases (by simpa using hu : u = .int .i64 (f : Nat) ∨ u = .int .i64 (s.size : Nat)) with rfl | rfl <;> rfl
            case cc4 => unfold maxLen; omega
            case cd4 => omega
            case ce4 => have := hbr.out.size; simp; omega
            intro v' w' hown' hgr _
            have H2 : Hid (w'.ownsRow w.heap.size 71 2 v' (done ++ [(f, s.size)]).length (Lib.spanCells (done ++ [(f, s.size)]))) := Lib.hid (by rw [Lib.spanCells_snoc]; simpa using hown')
            have H3 := Lib.hid ((hbr.out.alloc hbr.out.size _).grown hgr (by have := hbr.out.size; simp; omega) (own_base hown.out))
            clear hown' hgr hown hbr
            go_wp2
            go_roundw
            case rel => exact ⟨s.size + 1, s.size + 1, done ++ [(f, s.size)], by omega, by omega, by rw [List.length_append, List.length_singleton]; omega, by go_num, by go_num, HD, H2, H3⟩
            case measure => simp [intOf]
          · go_wp2_with (first
              | (go_at_call 38; with_reducible refine (HB.out _).mono ?_; rintro e w1 ⟨rfl, hw⟩; rw [hw]; clear hw)
              | (at_builtin; refine wpList_append_own _ rfl _ _ 68 rfl w.heap.size 71 i0 (.agg #[.int .i64 0, .int .i64 0]) 2 16 Tryz.underlying68 G1.out G2.out G3.out G4.out rfl (by decide) _ _ _ rfl (hown.out.alloc _) ⟨wr.heap.size, 0, none⟩ 1 1 [.int .i64 (f : Nat), .int .i64 (s.size : Nat)] rfl rfl ?ca5 ?cb5 ?cc5 ?cd5 ?ce5 ?_))
            case ca5 => exact news_two wr _ _ _
            case cb5 => intro u hu; rcases (by simpa using hu : u = .int .i64 (f : Nat) ∨ u = .int .i64 (s.size : Nat)) with rfl | rfl <;> rfl
            case cc5 => unfold maxLen; omega
            case cd5 => omega
            case ce5 => have := hbr.out.size; simp; omega
            intro v' w' hown' hgr _
            have H2 : Hid (w'.ownsRow w.heap.size 71 2 v' (done ++ [(f, s.size)]).length (Lib.spanCells (done ++ [(f, s.size)]))) := Lib.hid (by rw [Lib.spanCells_snoc]; simpa using hown')
            have H3 := Lib.hid ((hbr.out.alloc hbr.out.size _).grown hgr (by have := hbr.out.size; simp; omega) (own_base hown.out))
            clear hown' hgr hown hbr
            go_wp2
            go_roundw
            case rel => exact ⟨s.size + 1, s.size + 1, done ++ [(f, s.size)], by omega, by omega, by rw [List.length_append, List.length_singleton]; omega, by go_num, by go_num, HD, H2, H3⟩
            case measure => simp [intOf]
        · obtain rfl : f = s.size := by omega
          have HD := HE.out rfl
          clear HH HE
          cases bl
          · have hno : PS = none := HPS.out.symm.trans (by simpa using HD)
            subst hno
            clear HD
            go_wp2_with fail
            go_ret2
            exact ⟨rfl, hbr.out⟩
          · replace HD := Lib.hid (show Done true s.data.toList (s.size + 1) (s.size + 1) done by simpa using HD)
            go_wp2_with (go_at_call 38; with_reducible refine (HB.out _).mono ?_; rintro e w1 ⟨rfl, hw⟩; rw [hw]; clear hw)
            go_roundw
            case rel => exact ⟨s.size + 1, s.size + 1, done, by omega, by omega, by omega, by first | rfl | go_num, by go_num, HD, hown, hbr⟩
            case measure => simp [intOf]
end code
end Go.Proofs.YtlignmlkoahbmaaGreatDoor.Rq
