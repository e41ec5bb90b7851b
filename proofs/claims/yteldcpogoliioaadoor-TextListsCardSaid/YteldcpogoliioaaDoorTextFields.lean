/-
  Layer 3 (text): the walk of TextFields: it returns true, and writes nothing that was there.
-/
import Derived.Test.YteldcpogoliioaaDoorTextKnown
import Derived.Test.YteldcpogoliioaaDoorTextTells
namespace Go.Proofs.YteldcpogoliioaaDoor.Txt
open Go.RowKit Base Oct

def nameAt (name : ByteArray) (z : Int) : ByteArray := fifth ⟨#[72, 111, 115, 116]⟩ ⟨#[104, 111, 115, 116]⟩ ⟨#[65]⟩ ⟨#[88]⟩ name (z % 5).toNat
def extra (name : ByteArray) (zs : List Int) : List Fld := zs.map fun z => (nameAt name z, ⟨#[118]⟩)
theorem extra_snoc (name : ByteArray) (zs : List Int) (k : Nat) (h : k < zs.length) : extra name (zs.take (k + 1)) = extra name (zs.take k) ++ [(nameAt name (zs[k]?.getD 0), ⟨#[118]⟩)] := by
  rw [ints_snoc zs k h, extra, List.map_append]; rfl
theorem extra_size (name : ByteArray) (hn : name.size ≤ 1000) (zs : List Int) : ∀ f ∈ extra name zs, f.1.size ≤ 1000 := by
  intro f hf
  obtain ⟨z, _, rfl⟩ := List.mem_map.1 hf
  exact fifth_of (fun x : ByteArray => x.size ≤ 1000) _ _ _ _ _ (by decide) (by decide) (by decide) (by decide) hn _
def third (x0 x1 x2 : ByteArray) : Nat → ByteArray
  | 0 => x0 | 1 => x1 | _ => x2
theorem third_cell (w : World) (t : TypeId) (x0 x1 x2 : ByteArray) (k : Nat) (hk : k < 3) : (w.alloc (.cells #[.string x0, .string x1, .string x2] t)).cell? ⟨w.heap.size, k, none⟩ = some (.string (third x0 x1 x2 k)) := by
  rw [cell_of_row (w.alloc _) w.heap.size k _ t (0, 0) (heap_alloc_new w _)]
  rcases (by omega : k = 0 ∨ k = 1 ∨ k = 2) with rfl | rfl | rfl <;> rfl
theorem third_of (p : ByteArray → Prop) (x0 x1 x2 : ByteArray) (h0 : p x0) (h1 : p x1) (h2 : p x2) : ∀ k, p (third x0 x1 x2 k)
  | 0 => h0 | 1 => h1 | _ + 2 => h2
theorem pair_news (w : World) (g : Nat) (hg : g = w.heap.size) (x y : ByteArray) (t : TypeId) : ∀ (j : Nat) (u : Value), [Value.string x, .string y][j]? = some u → (w.alloc (.cells #[.string x, .string y] t)).cell? (Addr.add ⟨g, 0, none⟩ j) = some u := by
  subst hg
  intro j u hu
  have hj : j = 0 ∨ j = 1 := by
    rcases Nat.lt_or_ge j 2 with h | h
    · omega
    · rw [List.getElem?_eq_none (by simpa using h)] at hu; cases hu
  have key := cell_of_row (w.alloc (.cells #[.string x, .string y] t)) w.heap.size j #[.string x, .string y] t (0, 0) (heap_alloc_new w _)
  have e2 : Addr.add ⟨w.heap.size, 0, none⟩ j = ⟨w.heap.size, j, none⟩ := by unfold Addr.add; rcases hj with rfl | rfl <;> simp
  rw [e2]
  refine key.trans ?_
  rcases hj with rfl | rfl <;> simpa using hu
theorem find_without (X : List Fld) (y : ByteArray) : (find X y).length + (without X [y]).length = X.length := by
  unfold find without
  rw [List.length_map]
  induction X with
  | nil => rfl
  | cons f X ih =>
    have h1 : one [y] f.1 = same f.1 y := by simp [one, same_comm]
    rw [List.filter_cons, List.filter_cons, h1]
    cases same f.1 y <;> simp <;> omega

/-- What is held of one name and the fields X, all at once: both packages answer the same. -/
structure BothF (A : Option Addr) (N c : Nat) (X : List Fld) (y : ByteArray) : Prop where
  f1 : ∀ w : World, Flds w A N X → Calls Tryd.prog 21 #[.slice A N c, .string y] w fun e w' => ∃ b m c, e = .returned (.slice b m c) ∧ m = (find X y).length ∧ Strs w' b m (find X y) ∧ Below w.heap.size w w'
  f2 : ∀ w : World, Flds w A N X → Calls Tryd.prog 22 #[.slice A N c, .string y] w fun e w' => ∃ b m c, e = .returned (.slice b m c) ∧ m = (find X y).length ∧ Strs w' b m (find X y) ∧ Below w.heap.size w w'
  g1 : ∀ (w : World) (g : Nat), Flds w A N X → Strs w (some ⟨g, 0, none⟩) 1 [y] → Calls Tryd.prog 24 #[.slice A N c, .slice (some ⟨g, 0, none⟩) 1 1] w fun e w' => ∃ b m c, e = .returned (.slice b m c) ∧ m = (without X [y]).length ∧ Flds w' b m (without X [y]) ∧ Below w.heap.size w w'
  g2 : ∀ (w : World) (g : Nat), Flds w A N X → Strs w (some ⟨g, 0, none⟩) 1 [y] → Calls Tryd.prog 25 #[.slice A N c, .slice (some ⟨g, 0, none⟩) 1 1] w fun e w' => ∃ b m c, e = .returned (.slice b m c) ∧ m = (without X [y]).length ∧ Flds w' b m (without X [y]) ∧ Below w.heap.size w w'
theorem bothF (A : Option Addr) (N c : Nat) (X : List Fld) (y : ByteArray) (hN : N ≤ 1000) (hX : ∀ f ∈ X, f.1.size ≤ 1000) (hy : y.size ≤ 1000) : BothF A N c X y where
  f1 := fun w h => find_any A N c X y w h (by omega) (fun f hf => by have := hX f hf; unfold maxLen; omega)
  f2 := fun w h => rfind_any A N c X y w h (by omega) (fun f hf => by have := hX f hf; omega) (by omega)
  g1 := fun w g h hs => without_any A N c X _ 1 1 [y] w h hs (by omega) (by omega) (fun f hf => by have := hX f hf; omega) (fun s hs => by rw [List.mem_singleton.1 hs]; omega)
  g2 := fun w g h hs => rwithout_any A N c X _ 1 1 [y] w h hs (by omega) (by omega) (fun f hf => by have := hX f hf; omega) (fun s hs => by rw [List.mem_singleton.1 hs]; omega)

section code
set_option maxHeartbeats 1000000
attribute [local go_sem] Base.some_undef
theorem textFields_out (a : Option Addr) (n cap : Nat) (fs : List Fld) (b : Option Addr) (m cap2 : Nat) (d : Option Addr) (k cap3 : Nat) (names : List ByteArray) (name : ByteArray) (w : World)
    (hv : Flds w a n fs) (hz : Strs w d k names) (hn : n ≤ maxLen) (hs : ∀ f ∈ fs, f.1.size ≤ 140737488351232 ∧ f.2.size ≤ 140737488351232) (hm : m ≤ maxLen) (hk : name.size ≤ maxLen)
    (hout : fieldsOk fs = false ∨ 12 < m ∨ smallOf names = false ∨ 40 < name.size) :
    Calls Tryd.prog 4 #[.slice a n cap, .slice b m cap2, .slice d k cap3, .string name] w fun e w' => e = .returned (.bool true) ∧ Below w.heap.size w w' := by
  unfold maxLen at hm hk
  have HV := Lib.hid hv
  have HZ := Lib.hid hz
  have HF := Lib.hid (fun w' hb => fieldsOk_any a n cap fs w' (HV.out.below hb) hn hs)
  have HSm := Lib.hid (fun w' hb => small_any d k cap3 names w' (HZ.out.below hb))
  clear hv hz hn hs
  generalize fieldsOk fs = fo at *
  generalize smallOf names = sm at *
  cases fo with
  | false =>
    clear hout
    go_enter Tryd.func4, Tryd.ntmps4
    go_wp2_with (first
      | (go_at_call 7; with_reducible refine (known_any _).mono ?_; rintro e w1 ⟨rfl, hb⟩)
      | (go_at_call 20; with_reducible refine (HF.out _ hb).mono ?_; rintro e w2 ⟨rfl, hb2⟩))
    go_ret
    exact ⟨rfl, Base.below_step hb hb2⟩
  | true =>
    rcases Nat.lt_or_ge 12 m with c1 | c1
    · clear hout
      go_enter Tryd.func4, Tryd.ntmps4
      go_wp2_with (first
        | (go_at_call 7; with_reducible refine (known_any _).mono ?_; rintro e w1 ⟨rfl, hb⟩)
        | (go_at_call 20; with_reducible refine (HF.out _ hb).mono ?_; rintro e w2 ⟨rfl, hb2⟩))
      go_ret
      exact ⟨rfl, Base.below_step hb hb2⟩
    cases sm with
    | false =>
      clear hout
      go_enter Tryd.func4, Tryd.ntmps4
      go_wp2_with (first
        | (go_at_call 7; with_reducible refine (known_any _).mono ?_; rintro e w1 ⟨rfl, hb⟩)
        | (go_at_call 20; with_reducible refine (HF.out _ hb).mono ?_; rintro e w2 ⟨rfl, hb2⟩; have hb3 := Base.below_step hb hb2)
        | (go_at_call 8; with_reducible refine (HSm.out _ hb3).mono ?_; rintro e w3 ⟨rfl, hw⟩; rw [hw]; clear hw))
      go_ret
      exact ⟨rfl, hb3⟩
    | true =>
      have c2 : 40 < name.size := by
        rcases hout with h | h | h | h
        · cases h
        · omega
        · cases h
        · exact h
      clear hout
      go_enter Tryd.func4, Tryd.ntmps4
      go_wp2_with (first
        | (go_at_call 7; with_reducible refine (known_any _).mono ?_; rintro e w1 ⟨rfl, hb⟩)
        | (go_at_call 20; with_reducible refine (HF.out _ hb).mono ?_; rintro e w2 ⟨rfl, hb2⟩; have hb3 := Base.below_step hb hb2)
        | (go_at_call 8; with_reducible refine (HSm.out _ hb3).mono ?_; rintro e w3 ⟨rfl, hw⟩; rw [hw]; clear hw))
      go_ret
      exact ⟨rfl, hb3⟩

set_option maxRecDepth 10000 in
theorem textFields_in (a : Option Addr) (n cap : Nat) (fs : List Fld) (b : Option Addr) (m cap2 : Nat) (zs : List Int) (d : Option Addr) (k cap3 : Nat) (names : List ByteArray) (name : ByteArray) (w : World)
    (hv : Flds w a n fs) (hu : Nums .u8 w b m zs) (hub : ∀ z ∈ zs, 0 ≤ z ∧ z ≤ 255) (hz : Strs w d k names) (hs : ∀ f ∈ fs, f.1.size ≤ 140737488351232 ∧ f.2.size ≤ 140737488351232)
    (k1 : fieldsOk fs = true) (k2 : m ≤ 12) (k3 : smallOf names = true) (k4 : name.size ≤ 40) :
    Calls Tryd.prog 4 #[.slice a n cap, .slice b m cap2, .slice d k cap3, .string name] w fun e w' => e = .returned (.bool true) ∧ Below w.heap.size w w' := by
  have HV := Lib.hid hv
  have HL := Lib.hid hv.1
  have HZ := Lib.hid hz
  have HZL := Lib.hid hz.1
  have HU := Lib.hid hu
  have HUL := Lib.hid hu.1
  have HUB := Lib.hid hub
  obtain ⟨hn20, hfs⟩ := fields_spec k1
  obtain ⟨hk12, hnames⟩ := small_spec k3
  have hn : n ≤ 20 := by rw [← HL.out]; exact hn20
  have hk : k ≤ 12 := by rw [← HZL.out]; exact hk12
  have HF := Lib.hid (fun w' hb => fieldsOk_any a n cap fs w' (HV.out.below hb) (by unfold maxLen; omega) hs)
  have HSm := Lib.hid (fun w' hb => small_any d k cap3 names w' (HZ.out.below hb))
  rw [k1] at HF
  rw [k3] at HSm
  have HX0 := Lib.hid (show ∀ f ∈ fs, f.1.size ≤ 1000 from fun f hf => by have := hfs f hf; omega)
  have HNS := Lib.hid (show ∀ s ∈ names, s.size ≤ 1000000000 from fun s hs => by have := hnames s hs; omega)
  clear hv hz hu hub hs k1 k3 hn20 hfs hk12 hnames
  obtain ⟨i0, hi, hz0, hz1, hz2⟩ := info_parts field_info
  have G1 := Lib.hid hi; have G2 := Lib.hid hz0; have G3 := Lib.hid hz1; have G4 := Lib.hid hz2
  clear hi hz0 hz1 hz2
  have HCL := Lib.hid (show (cells fs).length = n * 2 by rw [cells_length, HL.out])
  go_enter Tryd.func4, Tryd.ntmps4
  go_wp2_with (first
    | (go_at_call 7; with_reducible refine (known_any _).mono ?_; rintro e w1 ⟨rfl, hb⟩)
    | (go_at_call 20; with_reducible refine (HF.out _ hb).mono ?_; rintro e w2 ⟨rfl, hb2⟩; have hb3 := Base.below_step hb hb2)
    | (go_at_call 8; with_reducible refine (HSm.out _ hb3).mono ?_; rintro e w3 ⟨rfl, hw⟩; rw [hw]; clear hw)
    | (at_builtin; refine App.wpList_append_list _ rfl _ _ 31 rfl w2.heap.size 35 i0 (.agg #[.string ByteArray.empty, .string ByteArray.empty]) 2 32 Tryd.underlying31 G1.out G2.out G3.out G4.out rfl (by decide) _ 0 [] rfl (World.ownsRow_nil _ _ _ _) a n cap (cells fs) rfl HCL.out (cells_here (HV.out.below hb3)) (cells_one fs) (by unfold maxLen; omega) (by omega) (Nat.le_refl _) ?_
       intro v4 w4 hown4 hgr4 hnil4 hloc4
       have hb4 := Lib.hid (Base.below_step hb3 ((Below.refl w2.heap.size w2).grown hgr4 (Nat.le_refl _) (by intro k hk; cases hk)))
       have hO4 : Hid (w4.ownsRow w2.heap.size 35 2 v4 (n + 0) (cells (fs ++ extra name (zs.take 0)))) := Lib.hid (by simpa [extra] using hown4)
       have hB24 := Lib.hid ((Below.refl w2.heap.size w2).grown hgr4 (Nat.le_refl _) (by intro k hk; cases hk))
       clear hown4 hgr4 hnil4 hloc4))
  have hwB := hb3.size
  have hB4 := hB24.out.size
  clear hb hb2 hb3 HF HSm HCL hB24
  generalize w2.heap.size = B at *
  go_loopw [9, 10] (fun v i wr => ∃ j : Nat, j ≤ m ∧ i = .int .i64 j ∧ B ≤ wr.heap.size ∧ Hid (wr.ownsRow B 35 2 v (n + j) (cells (fs ++ extra name (zs.take j)))) ∧ Hid (Below w.heap.size w wr)) (fun _ i _ => m - (intOf i).toNat)
  case atStart => exact ⟨0, Nat.zero_le _, rfl, hB4, hO4, hb4⟩
  case round =>
    obtain ⟨j, hj, rfl, hBw, hO, hbr⟩ := hrel
    rcases Nat.lt_or_ge j m with hlt | hge
    · obtain ⟨bl, off, rfl, hbl, hc⟩ := (HU.out.below hbr.out).2 (by omega)
      have hck := hc j hlt
      have hjl : j < zs.length := by rw [HUL.out]; exact hlt
      have hin : 0 ≤ zs[j]?.getD 0 ∧ zs[j]?.getD 0 ≤ 255 := by
        rw [List.getElem?_eq_getElem hjl]
        exact HUB.out _ (List.getElem_mem _)
      have hsn := Lib.hid (extra_snoc name zs j hjl)
      clear hc hjl
      generalize zs[j]?.getD 0 = z at *
      obtain ⟨x0, x1⟩ := hin
      have e1 : z.tmod 5 = z % 5 := Int.tmod_eq_emod_of_nonneg x0
      have q0 : 0 ≤ z % 5 := by omega
      have q1 : z % 5 < 5 := by omega
      have hcq := fifth_cell wr 9 ⟨#[72, 111, 115, 116]⟩ ⟨#[104, 111, 115, 116]⟩ ⟨#[65]⟩ ⟨#[88]⟩ name (z % 5).toNat (by omega)
      have hna : fifth ⟨#[72, 111, 115, 116]⟩ ⟨#[104, 111, 115, 116]⟩ ⟨#[65]⟩ ⟨#[88]⟩ name (z % 5).toNat = nameAt name z := rfl
      rw [hna] at hcq
      have hck2 := Lib.cell?_alloc_some (.cells #[.string ⟨#[72, 111, 115, 116]⟩, .string ⟨#[104, 111, 115, 116]⟩, .string ⟨#[65]⟩, .string ⟨#[88]⟩, .string name] 9) hck
      generalize nameAt name z = y at *
      go_wp2_with (at_builtin; refine wpList_append_own _ rfl _ _ 31 rfl B 35 i0 (.agg #[.string ByteArray.empty, .string ByteArray.empty]) 2 32 Tryd.underlying31 G1.out G2.out G3.out G4.out rfl (by decide) _ _ _ rfl ((hO.out.alloc _).alloc _) ⟨wr.heap.size + 1, 0, none⟩ 1 1 [.string y, .string ⟨#[118]⟩] rfl rfl ?c1 ?c2 ?c3 ?c4 ?c5 ?_)
      case c1 => exact pair_news (wr.alloc _) _ (by simp) _ _ _
      case c2 => intro u hu; rcases (by simpa using hu : u = .string y ∨ u = .string ⟨#[118]⟩) with rfl | rfl <;> rfl
      case c3 => unfold maxLen; omega
      case c4 => omega
      case c5 => simp; omega
      intro v' w' hown' hgr _
      have H2 : Hid (w'.ownsRow B 35 2 v' (n + (j + 1)) (cells (fs ++ extra name (zs.take (j + 1))))) := Lib.hid (by
        rw [hsn.out, ← List.append_assoc, cells_snoc]
        simpa [Nat.add_assoc] using hown')
      have H3 := Lib.hid (((hbr.out.alloc hbr.out.size _).alloc (by have := hbr.out.size; simp; omega) _).grown hgr (by have := hbr.out.size; simp; omega) (fun q hq => Nat.le_trans hwB (own_base hO.out q hq)))
      have H4 : B ≤ w'.heap.size := by have := hgr.size; simp at this; omega
      clear hown' hgr hO
      go_wp2
      go_roundw
      case rel => exact ⟨j + 1, by omega, by go_num, H4, H2, H3⟩
      case measure => simp [intOf]; omega
    · obtain rfl : j = m := by omega
      have hO' := hO.out
      rw [List.take_of_length_le (by rw [HUL.out]; omega)] at hO'
      obtain ⟨A, c, rfl, hFl⟩ := Flds.of_own hO'
      have hXs : ∀ f ∈ fs ++ extra name zs, f.1.size ≤ 1000 := by
        intro f hf
        rcases List.mem_append.1 hf with h | h
        · exact HX0.out f h
        · exact extra_size name (by omega) zs f h
      have HXs := Lib.hid hXs
      have HFl := Lib.hid hFl
      clear hO hO' hFl hXs HX0 HUB
      generalize fs ++ extra name zs = X at *
      have hN : n + j ≤ 1000 := by omega
      generalize n + j = N at *
      go_wp2
      have hcell : Hid (∀ k, k < 3 → (wr.alloc (.cells #[.string name, .string ⟨#[72, 79, 83, 84]⟩, .string ⟨#[120]⟩] 9)).cell? ⟨wr.heap.size, k, none⟩ = some (.string (third name ⟨#[72, 79, 83, 84]⟩ ⟨#[120]⟩ k))) := Lib.hid fun k hk => third_cell wr _ _ _ _ k hk
      have hg : wr.heap.size < (wr.alloc (.cells #[.string name, .string ⟨#[72, 79, 83, 84]⟩, .string ⟨#[120]⟩] 9)).heap.size := by simp
      have hW := Lib.hid (show Below w.heap.size w (wr.alloc (.cells #[.string name, .string ⟨#[72, 79, 83, 84]⟩, .string ⟨#[120]⟩] 9)) from hbr.out.alloc hbr.out.size _)
      have HFW := Lib.hid (HFl.out.below ((Below.refl _ _).alloc (Nat.le_refl _) (.cells #[.string name, .string ⟨#[72, 79, 83, 84]⟩, .string ⟨#[120]⟩] 9)))
      have HY := Lib.hid (third_of (fun x : ByteArray => x.size ≤ 1000) name ⟨#[72, 79, 83, 84]⟩ ⟨#[120]⟩ (by omega) (by decide) (by decide))
      clear hbr HFl
      generalize wr.alloc (.cells #[.string name, .string ⟨#[72, 79, 83, 84]⟩, .string ⟨#[120]⟩] 9) = W at *
      generalize wr.heap.size = g at *
      go_loopw [57] (fun i wq => ∃ q : Nat, q ≤ 3 ∧ i = .int .i64 q ∧ Hid (Below W.heap.size W wq)) (fun i _ => 3 - (intOf i).toNat)
      case atStart => exact ⟨0, Nat.zero_le _, rfl, Lib.hid (Below.refl _ _)⟩
      case round =>
        obtain ⟨q, hq, rfl, hbq⟩ := hrel
        rcases Nat.lt_or_ge q 3 with hlt | hge
        · have hcq := (hbq.out.cell (p := ⟨g, q, none⟩) hg).trans (hcell.out q hlt)
          have hq3 : (q : Int) < 3 := by omega
          have HB := Lib.hid (bothF A N c X (third name ⟨#[72, 79, 83, 84]⟩ ⟨#[120]⟩ q) hN HXs.out (HY.out q))
          have hc := hbq.out
          generalize third name ⟨#[72, 79, 83, 84]⟩ ⟨#[120]⟩ q = y at *
          have F1 := Lib.hid HB.out.f1; have F2 := Lib.hid HB.out.f2; have G5 := Lib.hid HB.out.g1; have G6 := Lib.hid HB.out.g2
          have hfw := find_without X y
          rw [HFW.out.1] at hfw
          have hff := find_le X y
          rw [HFW.out.1] at hff
          clear HB hbq
          generalize find X y = fy at *
          generalize without X [y] = wy at *
          have hN9 : N ≤ 1000000000 := Nat.le_trans hN (by decide)
          have e3 : fy.length ≤ 1000000000 := Nat.le_trans hff hN9
          have e4 : wy.length ≤ 1000000000 := Nat.le_trans (Nat.le_trans (Nat.le_add_left _ _) (Nat.le_of_eq hfw)) hN9
          have e1 : (fy.length : Int) + (wy.length : Int) = (N : Int) := by rw [← hfw]; rfl
          have e2 : wrap64 (N : Int) = (N : Int) := by unfold wrap64; omega
          clear hfw hff
          go_wp2_with (first
            | (go_at_call 21; with_reducible refine (F1.out _ (HFW.out.below hc)).mono ?_; rintro e w5 ⟨b5, _, c5, rfl, rfl, hS5, hb5⟩; replace hc := Base.below_step hc hb5; clear hb5)
            | (go_at_call 22; with_reducible refine (F2.out _ (HFW.out.below hc)).mono ?_; rintro e w6 ⟨b6, _, c6, rfl, rfl, hS6, hb6⟩
               replace hc := Base.below_step hc hb6
               have hE := rstrings_any b5 _ c5 fy b6 _ c6 fy w6 (hS5.below hb6) hS6 e3 e3
               rw [decide_eq_true rfl] at hE
               clear hb6 hS5 hS6)
            | (go_at_call 17; with_reducible refine hE.mono ?_; rintro e w7 ⟨rfl, q7, rfl⟩; replace hc := Base.below_drewN hc q7; clear hE)
            | (go_at_call 24; with_reducible refine (G5.out _ _ (HFW.out.below (hc.alloc hc.size _)) ?_).mono ?_; exact Strs.one _ _ (by simp) _ _; rintro e w8 ⟨b8, _, c8, rfl, rfl, hS8, hb8⟩
               replace hc := Base.below_step (hc.alloc hc.size _) hb8
               clear hb8)
            | (go_at_call 25; with_reducible refine (G6.out _ _ (HFW.out.below (hc.alloc hc.size _)) ?_).mono ?_; exact Strs.one _ _ (by simp) _ _; rintro e w9 ⟨b9, _, c9, rfl, rfl, hS9, hb9⟩
               replace hc := Base.below_step (hc.alloc hc.size _) hb9
               have hE2 := rfields_any b8 _ c8 wy b9 _ c9 wy w9 ((hS8.below ((Below.refl _ _).alloc (Nat.le_refl _) _)).below hb9) hS9 e4 e4
               rw [decide_eq_true rfl] at hE2
               clear hb9 hS8 hS9)
            | (go_at_call 23; with_reducible refine hE2.mono ?_; rintro e w10 ⟨rfl, q10, rfl⟩; replace hc := Base.below_drewN hc q10; clear hE2))
          go_roundw
          case rel => exact ⟨q + 1, by omega, by go_num, Lib.hid hc⟩
          case measure => simp [intOf]; omega
        · have hq3 : ¬ (q : Int) < 3 := by omega
          have hc := hbq.out
          have hN9 : N ≤ 1000000000 := Nat.le_trans hN (by decide)
          have HX9 := Lib.hid (show ∀ f ∈ X, f.1.size ≤ 1000000000 from fun f hf => Nat.le_trans (HXs.out f hf) (by decide))
          have hk9 : k ≤ 1000000000 := Nat.le_trans hk (by decide)
          have hn9 : n ≤ 1000000000 := Nat.le_trans hn (by decide)
          have h1 := Lib.hid (without_any A N c X d k cap3 names wr (HFW.out.below hc) (HZ.out.below (Base.below_step hW.out hc)) hN9 hk9 HX9.out HNS.out)
          have hwl := List.length_filter_le (fun f : Fld => !one names f.1) X
          have e5 : (without X names).length ≤ 1000000000 := Nat.le_trans hwl (by rw [HFW.out.1]; exact hN9)
          generalize hr : decide (X = fs) = r
          have HA1 := Lib.hid (fun (w' : World) (hcw : Below W.heap.size W w') => fields_any A N c X a n cap fs w' (HFW.out.below hcw) (HV.out.below (Base.below_step hW.out hcw)) hN9 hn9)
          have HA2 := Lib.hid (fun (w' : World) (hcw : Below W.heap.size W w') => rfields_any A N c X a n cap fs w' (HFW.out.below hcw) (HV.out.below (Base.below_step hW.out hcw)) hN9 hn9)
          have HA3 := Lib.hid (fun (w' : World) (hcw : Below W.heap.size W w') => fields_any A N c X A N c X w' (HFW.out.below hcw) (HFW.out.below hcw) hN9 hN9)
          rw [hr] at HA1 HA2
          have HRr := Lib.hid hr
          clear hr hbq hcell hg hwl HXs HY
          go_wp2_with (first
            | (go_at_call 24; with_reducible refine h1.out.mono ?_; rintro e w8 ⟨b8, _, c8, rfl, rfl, hS8, hb8⟩
               replace hc := Base.below_step hc hb8
               have h2 := rwithout_any A N c X d k cap3 names w8 (HFW.out.below hc) (HZ.out.below (Base.below_step hW.out hc)) hN9 hk9 HX9.out HNS.out
               clear hb8)
            | (go_at_call 25; with_reducible refine h2.mono ?_; rintro e w9 ⟨b9, _, c9, rfl, rfl, hS9, hb9⟩
               replace hc := Base.below_step hc hb9
               have hE2 := rfields_any b8 _ c8 _ b9 _ c9 _ w9 (hS8.below hb9) hS9 e5 e5
               rw [decide_eq_true rfl] at hE2
               clear hb9 hS8 hS9 h2)
            | (go_at_call 23; with_reducible refine hE2.mono ?_; rintro e w10 ⟨rfl, q10, rfl⟩; clear hE2)
            | (go_at_call 26; with_reducible refine (HA1.out _ ?_).mono ?_; exact Base.below_drewN hc _; rintro e w11 ⟨rfl, q11, rfl⟩)
            | (go_at_call 23; with_reducible refine (HA2.out _ ?_).mono ?_; exact Base.below_drewN hc _; rintro e w12 ⟨rfl, q12, rfl⟩)
            | (go_at_call 26; with_reducible refine (HA3.out _ ?_).mono ?_; exact Base.below_drewN hc _; rintro e w13 ⟨rfl, q13, rfl⟩))
          go_ret
          exact ⟨by simp, Base.below_drewN (Base.below_step hW.out hc) _⟩

theorem textFields_law (a : Option Addr) (n cap : Nat) (fs : List Fld) (b : Option Addr) (m cap2 : Nat) (zs : List Int) (d : Option Addr) (k cap3 : Nat) (names : List ByteArray) (name : ByteArray) (w : World)
    (hv : Flds w a n fs) (hu : Nums .u8 w b m zs) (hub : ∀ z ∈ zs, 0 ≤ z ∧ z ≤ 255) (hz : Strs w d k names) (hn : n ≤ maxLen) (hs : ∀ f ∈ fs, f.1.size ≤ 140737488351232 ∧ f.2.size ≤ 140737488351232) (hm : m ≤ maxLen) (hk : name.size ≤ maxLen) :
    Calls Tryd.prog 4 #[.slice a n cap, .slice b m cap2, .slice d k cap3, .string name] w fun e w' => e = .returned (.bool true) ∧ Below w.heap.size w w' := by
  cases q1 : fieldsOk fs with
  | false => exact textFields_out a n cap fs b m cap2 d k cap3 names name w hv hz hn hs hm hk (.inl q1)
  | true =>
    rcases Nat.lt_or_ge 12 m with q2 | q2
    · exact textFields_out a n cap fs b m cap2 d k cap3 names name w hv hz hn hs hm hk (.inr (.inl q2))
    cases q3 : smallOf names with
    | false => exact textFields_out a n cap fs b m cap2 d k cap3 names name w hv hz hn hs hm hk (.inr (.inr (.inl q3)))
    | true =>
      rcases Nat.lt_or_ge 40 name.size with q4 | q4
      · exact textFields_out a n cap fs b m cap2 d k cap3 names name w hv hz hn hs hm hk (.inr (.inr (.inr q4)))
      exact textFields_in a n cap fs b m cap2 zs d k cap3 names name w hv hu hub hz hs q1 q2 q3 q4
end code
end Go.Proofs.YteldcpogoliioaaDoor.Txt
