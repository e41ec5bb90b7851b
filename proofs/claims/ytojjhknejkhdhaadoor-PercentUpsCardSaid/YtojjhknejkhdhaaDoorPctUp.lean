/-
  Layer 19 (percent): the law on dots that go up: PercentUps. (Printed by tools/gen_pctup.py.)
-/
import Derived.Test.YtojjhknejkhdhaaDoorPctK
import Derived.Deep.CutBlock
import Derived.Deep.DeepCutAuto
namespace Go.Proofs.YtojjhknejkhdhaaDoor.Pct
open Go.RowKit Base Txt

def upsL : List Value := [.string ⟨#[97]⟩, .string ⟨#[98]⟩, .string ⟨#[46, 46]⟩, .string ⟨#[46]⟩, .string ⟨#[99]⟩]
def upT (q : Nat) : List UInt8 := match q with | 0 => [97] | 1 => [98] | 2 => [46, 46] | 3 => [46] | _ => [99]
theorem upsL_at (q : Nat) (h : q < 5) (hh) : upsL[q]'hh = .string (ba (upT q)) := by
  match q, h with
  | 0, _ => rfl
  | 1, _ => rfl
  | 2, _ => rfl
  | 3, _ => rfl
  | 4, _ => rfl
def ups (bs : List UInt8) : List (List UInt8) := bs.map fun b => upT (b.toNat % 5)
theorem ups_snoc (bs : List UInt8) (k : Nat) (h : k < bs.length) : ups (bs.take (k + 1)) = ups (bs.take k) ++ [upT (bs[k].toNat % 5)] := by
  unfold ups
  rw [List.take_succ_eq_append_getElem h, List.map_append]; rfl
theorem ups_last (bs : List UInt8) (m : Nat) (h : bs.length = m + 1) : lastLeads (ups bs) = (decide (bs[m].toNat % 5 = 2) || decide (bs[m].toNat % 5 = 3)) := by
  have hm := ups_snoc bs m (by omega)
  rw [List.take_of_length_le (by omega)] at hm
  rw [hm]
  unfold lastLeads
  rw [List.getLast?_concat]
  simp only
  have hq : bs[m].toNat % 5 < 5 := Nat.mod_lt _ (by decide)
  generalize bs[m].toNat % 5 = q at *
  match q, hq with
  | 0, _ => decide +kernel
  | 1, _ => decide +kernel
  | 2, _ => decide +kernel
  | 3, _ => decide +kernel
  | 4, _ => decide +kernel
theorem dots_by_last (L : List (List UInt8)) : dots L = if lastLeads L = true then trod L ++ [[]] else trod L := by
  unfold dots
  by_cases hl : lastLeads L = true
  · rw [if_pos (.inr hl), if_pos hl]
  · rw [if_neg hl, if_neg]
    rw [not_or]
    refine ⟨?_, hl⟩
    rcases List.eq_nil_or_concat L with rfl | ⟨B, x, rfl⟩
    · exact absurd rfl hl
    · simp only [List.concat_eq_append] at *
      rw [trod_snoc]
      unfold lastLeads at hl
      rw [List.getLast?_concat] at hl
      unfold step
      rw [if_neg hl]
      simp

theorem own_kept {w w' : World} {row : Option Nat} {base : Nat} {e : TypeId} {size : Nat} {v : Value} {n : Nat} {xs : List Value} (h : w.ownsRow base e size v n xs) (hg : w.grownBy w' row) (hne : ∀ g, v.ownBlock = some g → row ≠ some g) : w'.ownsRow base e size v n xs := by
  refine h.kept hg ?_
  cases hb : v.ownBlock with
  | none => exact .inl rfl
  | some g => exact .inr fun e => hne g hb (by rw [← e])
/-- Two rows of the call's own, side by side. -/
def PR (w : World) (B : Nat) (wr : World) (v u : Value) (S A : List (List UInt8)) : Prop :=
  wr.ownsRow B 9 1 v S.length (textsOf S) ∧ wr.ownsRow B 9 1 u A.length (textsOf A) ∧ (∀ g, v.ownBlock = some g → u.ownBlock ≠ some g) ∧ Below B w wr ∧ B ≤ wr.heap.size
theorem PR.segs {w wr w' : World} {B : Nat} {v u v' : Value} {S A : List (List UInt8)} (h : PR w B wr v u S A) (x : List UInt8) (o1 o2 : Obj) (ho : w'.ownsRow B 9 1 v' (S.length + 1) (textsOf S ++ [.string (ba x)]))
    (hg : ((wr.alloc o1).alloc o2).grownBy w' v.ownBlock) (hl : v'.ownBlock = v.ownBlock ∨ v'.ownBlock = some ((wr.alloc o1).alloc o2).heap.size) : PR w B w' v' u (S ++ [x]) A := by
  obtain ⟨h1, h2, h3, h4, h5⟩ := h
  refine ⟨?_, own_kept ((h2.alloc o1).alloc o2) hg ?_, ?_, ((h4.alloc h5 o1).alloc (by simp; omega) o2).grown hg (by simp; omega) (own_base h1), ?_⟩
  · rw [List.length_append]
    have e : textsOf (S ++ [x]) = textsOf S ++ [.string (ba x)] := by simp [textsOf]
    rw [e]; exact ho
  · intro g hgu e
    exact h3 g e hgu
  · intro g hg' hgu
    have hlt := (h2.lt g hgu).2
    rcases hl with hl | hl
    · rw [hl] at hg'; exact h3 g hg' hgu
    · rw [hl] at hg'; cases hg'; simp at hlt; omega
  · have := hg.size; simp at this; omega
theorem PR.copy {w wr w2 : World} {B : Nat} {v u u2 : Value} {S A : List (List UInt8)} (h : PR w B wr v u S A) (ho : w2.ownsRow B 9 1 u2 A.length (textsOf A)) (hg : wr.grownBy w2 (Value.slice none 0 0).ownBlock)
    (hl : u2.ownBlock = (Value.slice none 0 0).ownBlock ∨ u2.ownBlock = some wr.heap.size) : PR w B w2 v u2 S A := by
  obtain ⟨h1, h2, h3, h4, h5⟩ := h
  refine ⟨own_kept h1 hg (by intro g _ e; cases e), ho, ?_, h4.grown hg h5 (by intro k hk; cases hk), Nat.le_trans h5 hg.size⟩
  intro g hgv hgu
  have hlt := (h1.lt g hgv).2
  rcases hl with hl | hl
  · rw [hl] at hgu; cases hgu
  · rw [hl] at hgu; cases hgu; omega
theorem PR.want {w wr w' : World} {B : Nat} {v u u' : Value} {S A : List (List UInt8)} (h : PR w B wr v u S A) (x : List UInt8) (o : Obj) (ho : w'.ownsRow B 9 1 u' (A.length + 1) (textsOf A ++ [.string (ba x)]))
    (hg : (wr.alloc o).grownBy w' u.ownBlock) (hl : u'.ownBlock = u.ownBlock ∨ u'.ownBlock = some (wr.alloc o).heap.size) : PR w B w' v u' S (A ++ [x]) := by
  obtain ⟨h1, h2, h3, h4, h5⟩ := h
  refine ⟨own_kept (h1.alloc o) hg (fun g hgv e => h3 g hgv e), ?_, ?_, (h4.alloc h5 o).grown hg (by simp; omega) (own_base h2), ?_⟩
  · rw [List.length_append]
    have e : textsOf (A ++ [x]) = textsOf A ++ [.string (ba x)] := by simp [textsOf]
    rw [e]; exact ho
  · intro g hgv hgu
    have hlt := (h1.lt g hgv).2
    rcases hl with hl | hl
    · rw [hl] at hgu; exact h3 g hgv hgu
    · rw [hl] at hgu; cases hgu; simp at hlt; omega
  · have := hg.size; simp at this; omega
theorem PR.pop {w wr : World} {B m c : Nat} {v : Value} {b : Option Addr} {S A : List (List UInt8)} (h : PR w B wr v (.slice b m c) S A) (hA : 0 < A.length) :
    m = A.length ∧ A.length ≤ c ∧ (∃ g, b = some ⟨g, 0, none⟩) ∧ PR w B wr v (.slice b (A.length - 1) c) S A.dropLast := by
  obtain ⟨h1, h2, h3, h4, h5⟩ := h
  obtain ⟨e1, e2, e3, e4⟩ := own_less h2 hA
  refine ⟨e1, e2, e3, h1, ?_, ?_, h4, h5⟩
  · rw [List.length_dropLast, textsOf_last]; exact e4
  · have e : (Value.slice b (A.length - 1) c).ownBlock = (Value.slice b m c).ownBlock := by cases b <;> rfl
    intro g hg; rw [e]; exact h3 g hg

section code
set_option maxHeartbeats 4000000
set_option maxRecDepth 100000
attribute [local go_sem] Base.some_undef
theorem percentUps_law (la : Option Addr) (ln lcap : Nat) (zs : List Int) (w : World) (hv : Nums .u8 w la ln zs) (hz : ∀ n ∈ zs, (Lit.int .u8 n).wf = true) (hln : ln ≤ maxLen) :
    Calls Tryd.prog 6 #[.slice la ln lcap] w fun e w' => e = .returned (.bool true) ∧ Below w.heap.size w w' := by
  obtain ⟨bs, rfl⟩ := bytes_of zs (fun n hn => (show IntKind.u8.min ≤ n ∧ n ≤ IntKind.u8.max by have := hz n hn; simpa [Lit.wf] using this))
  clear hz
  have HV := Lib.hid hv
  have HBL := Lib.hid (show bs.length = ln by have := hv.1; rwa [nums, List.length_map] at this)
  clear hv
  unfold maxLen at hln
  obtain ⟨i0, hi, hz0, hz1, hz2⟩ := info_parts text_info
  have G1 := Lib.hid hi; have G2 := Lib.hid hz0; have G3 := Lib.hid hz1; have G4 := Lib.hid hz2
  clear hi hz0 hz1 hz2
  have HK := Lib.hid (known_any w)
  by_cases ho : ln ≤ 12
  rotate_left
  · have t1 : 12 < (ln : Int) := by omega
    clear ho
    go_enter Tryd.func6, Tryd.ntmps6
    go_wp2_with (go_at_call 7; with_reducible refine HK.out.mono ?_; rintro e w1 ⟨rfl, hb1⟩)
    go_ret
    exact ⟨rfl, hb1⟩
  have t1 : ¬ 12 < (ln : Int) := by omega
  go_enter Tryd.func6, Tryd.ntmps6
  go_wp2_with (go_at_call 7; with_reducible refine HK.out.mono ?_; rintro e w1 ⟨rfl, hb1⟩
               have B1 := Lib.hid hb1
               clear hb1)
  go_loopw [3, 4, 5] (fun v u i wr => ∃ k : Nat, k ≤ ln ∧ i = .int .i64 k ∧ Hid (PR w w.heap.size wr v u (ups (bs.take k)) (trod (ups (bs.take k))))) (fun _ _ i _ => ln - (intOf i).toNat)
  case atStart => exact ⟨0, Nat.zero_le _, rfl, Lib.hid ⟨⟨rfl, .inl ⟨rfl, rfl⟩⟩, ⟨rfl, .inl ⟨rfl, rfl⟩⟩, by intro g hg; simp [Value.ownBlock] at hg, B1.out, B1.out.size⟩⟩
  case round =>
    obtain ⟨k, hk, rfl, hpr⟩ := hrel
    rcases Nat.lt_or_ge k ln with hlt | hge
    · obtain ⟨bl, off, rfl, hbl, hc⟩ := (HV.out.below hpr.out.2.2.2.1).2 (by omega)
      have hc0 := hc k hlt
      have hkl : k < bs.length := by rw [HBL.out]; exact hlt
      rw [nums_at bs k hkl] at hc0
      have hsn := ups_snoc bs k hkl
      generalize bs[k] = z at *
      have hrem : Int.tmod ((z.toNat : Nat) : Int) 5 = ((z.toNat % 5 : Nat) : Int) := rem_byte z 5
      have hq : z.toNat % 5 < 5 := Nat.mod_lt _ (by decide)
      have hx := upsL_at (z.toNat % 5) hq
      generalize hqe : z.toNat % 5 = q at *
      clear hqe
      unfold upsL at hx
      have q5 : (q : Int) < 5 := by omega
      have htr : trod (ups (bs.take (k + 1))) = step (trod (ups (bs.take k))) (upT q) := by rw [hsn, trod_snoc]
      have hal : (trod (ups (bs.take k))).length ≤ k := by
        have := trod_len (ups (bs.take k)) []
        unfold ups at this ⊢
        rw [List.length_map, List.length_take] at this
        unfold trod; simp at this ⊢; omega
      have hsl : (ups (bs.take k)).length ≤ k := by unfold ups; rw [List.length_map, List.length_take]; omega
      have HN1 : Hid (∀ (x : ByteArray) (j : Nat) (u : Value), [Value.string x][j]? = some u → ((wr.alloc (.cells #[.string ⟨#[97]⟩, .string ⟨#[98]⟩, .string ⟨#[46, 46]⟩, .string ⟨#[46]⟩, .string ⟨#[99]⟩] 9)).alloc (.cells #[.string x] 9)).cell? (Addr.add ⟨wr.heap.size + 1, 0, none⟩ j) = some u) := Lib.hid (fun x => by
        have e : (wr.alloc (.cells #[.string ⟨#[97]⟩, .string ⟨#[98]⟩, .string ⟨#[46, 46]⟩, .string ⟨#[46]⟩, .string ⟨#[99]⟩] 9)).heap.size = wr.heap.size + 1 := by simp
        rw [← e]; exact news_one _ _ _)
      clear hc hkl
      obtain ⟨ub, uc, rfl, hS⟩ := Strs.of_own (n := (trod (ups (bs.take k))).length) (ss := (trod (ups (bs.take k))).map ba) hpr.out.2.1
      clear hS
      have HSN := Lib.hid hsn
      generalize ups (bs.take k) = S at *
      generalize trod S = A at *
      clear hsn
      rcases lead_cases (ba (upT q)) with ⟨hld, hx2⟩ | ⟨hld, hx1, hx2⟩
      · rcases hx2 with hx2 | hx2
        · have hxe : upT q = [46, 46] := congrArg (fun s : ByteArray => s.data.toList) hx2
          rw [hxe] at hx htr HSN
          have hx3 : ∀ hh, ([.string ⟨#[97]⟩, .string ⟨#[98]⟩, .string ⟨#[46, 46]⟩, .string ⟨#[46]⟩, .string ⟨#[99]⟩] : List Value)[q]'hh = .string ⟨#[46, 46]⟩ := hx
          clear hx hx2 hxe hld
          rw [step, if_pos (by decide +kernel), if_pos (by decide +kernel)] at htr
          have HTR := Lib.hid htr
          clear htr
          by_cases hA : A.length = 0
          · have q0 : ¬ (0 : Int) < ((A.length : Nat) : Int) := by omega
            have hB : A.dropLast = A := by rw [List.length_eq_zero_iff.1 hA]; rfl
            rw [hB] at HTR
            clear hA hB
            go_wp2_with (first
              | (at_builtin; refine wpList_append_own_at _ rfl _ _ 23 rfl w.heap.size 9 i0 (.string ByteArray.empty) 1 16 Tryd.underlying23 G1.out G2.out G3.out G4.out rfl (by decide) _ _ _ rfl ((hpr.out.1.alloc _).alloc _) ⟨wr.heap.size + 1, 0, none⟩ 1 1 [.string ⟨#[46, 46]⟩] rfl rfl (HN1.out _) (texts_one [⟨#[46, 46]⟩]) (by unfold maxLen; omega) (by omega) (by have := hpr.out.2.2.2.2; simp; omega) ?_
                 intro v' w' hown' hgr _ hloc
                 have P1 := Lib.hid (hpr.out.segs ([46, 46]) _ _ hown' hgr hloc)
                 clear hown' hgr hloc))
            have P2 : Hid (PR w w.heap.size w' v' (.slice ub A.length uc) (ups (bs.take (k + 1))) (trod (ups (bs.take (k + 1))))) := Lib.hid (by rw [HTR.out, HSN.out]; exact P1.out)
            clear P1 HTR HSN hpr
            go_wp2
            go_roundw
            case rel => exact ⟨k + 1, by omega, by go_num, P2⟩
            case measure => simp [intOf]; omega
          · have hpop := fun (w' : World) (v' : Value) (S' : List (List UInt8)) (h : PR w w.heap.size w' v' (.slice ub A.length uc) S' A) => PR.pop h (by omega)
            obtain ⟨-, hcap, ⟨g, rfl⟩, -⟩ := hpop _ _ _ hpr.out
            have HPOP := Lib.hid hpop
            have hAl := Lib.hid (show 0 < A.length by omega)
            clear hpop
            have q0 : (0 : Int) < ((A.length : Nat) : Int) := by omega
            have q4 : IntKind.i64.wrap (((A.length : Nat) : Int) - 1) = ((A.length - 1 : Nat) : Int) := by rw [wrap_in _ (by omega) (by omega)]; omega
            have q6 : A.length - 1 ≤ uc := by omega
            go_wp2_with (first
              | (at_builtin; refine wpList_append_own_at _ rfl _ _ 23 rfl w.heap.size 9 i0 (.string ByteArray.empty) 1 16 Tryd.underlying23 G1.out G2.out G3.out G4.out rfl (by decide) _ _ _ rfl ((hpr.out.1.alloc _).alloc _) ⟨wr.heap.size + 1, 0, none⟩ 1 1 [.string ⟨#[46, 46]⟩] rfl rfl (HN1.out _) (texts_one [⟨#[46, 46]⟩]) (by unfold maxLen; omega) (by omega) (by have := hpr.out.2.2.2.2; simp; omega) ?_
                 intro v' w' hown' hgr _ hloc
                 have P1 := Lib.hid (hpr.out.segs ([46, 46]) _ _ hown' hgr hloc)
                 clear hown' hgr hloc))
            have P2 : Hid (PR w w.heap.size w' v' (.slice (some ⟨g, 0, none⟩) (A.length - 1) uc) (ups (bs.take (k + 1))) (trod (ups (bs.take (k + 1))))) := Lib.hid (by rw [HTR.out, HSN.out]; exact (HPOP.out _ _ _ P1.out).2.2.2)
            clear P1 HTR HSN hpr HPOP
            go_wp2
            go_roundw
            case rel => exact ⟨k + 1, by omega, by go_num, P2⟩
            case measure => simp [intOf]; omega
        · have hxe : upT q = [46] := congrArg (fun s : ByteArray => s.data.toList) hx2
          rw [hxe] at hx htr HSN
          have hx3 : ∀ hh, ([.string ⟨#[97]⟩, .string ⟨#[98]⟩, .string ⟨#[46, 46]⟩, .string ⟨#[46]⟩, .string ⟨#[99]⟩] : List Value)[q]'hh = .string ⟨#[46]⟩ := hx
          clear hx hx2 hxe hld
          rw [step, if_pos (by decide +kernel), if_neg (by decide +kernel)] at htr
          have HTR := Lib.hid htr
          clear htr
          go_wp2_with (first
              | (at_builtin; refine wpList_append_own_at _ rfl _ _ 23 rfl w.heap.size 9 i0 (.string ByteArray.empty) 1 16 Tryd.underlying23 G1.out G2.out G3.out G4.out rfl (by decide) _ _ _ rfl ((hpr.out.1.alloc _).alloc _) ⟨wr.heap.size + 1, 0, none⟩ 1 1 [.string ⟨#[46]⟩] rfl rfl (HN1.out _) (texts_one [⟨#[46]⟩]) (by unfold maxLen; omega) (by omega) (by have := hpr.out.2.2.2.2; simp; omega) ?_
                 intro v' w' hown' hgr _ hloc
                 have P1 := Lib.hid (hpr.out.segs ([46]) _ _ hown' hgr hloc)
                 clear hown' hgr hloc))
          have P2 : Hid (PR w w.heap.size w' v' (.slice ub A.length uc) (ups (bs.take (k + 1))) (trod (ups (bs.take (k + 1))))) := Lib.hid (by rw [HTR.out, HSN.out]; exact P1.out)
          clear P1 HTR HSN hpr
          go_wp2
          go_roundw
          case rel => exact ⟨k + 1, by omega, by go_num, P2⟩
          case measure => simp [intOf]; omega
      · have n2 := up_ne hx1
        have n3 := dot_ne hx2
        have n4 : ((ba (upT q)).toList == [46, 46]) = false := beq_eq_false_iff_ne.2 n2
        have n5 : ((ba (upT q)).toList == [46]) = false := beq_eq_false_iff_ne.2 n3
        have hl2 : lead (upT q) = false := hld
        rw [step, if_neg (by rw [hl2]; simp)] at htr
        have HTR := Lib.hid htr
        have HM : Hid ((textsOf A).length = A.length * 1) := Lib.hid (by rw [textsOf, List.length_map, List.length_map, Nat.mul_one])
        have hx3 : ∀ hh, ([.string ⟨#[97]⟩, .string ⟨#[98]⟩, .string ⟨#[46, 46]⟩, .string ⟨#[46]⟩, .string ⟨#[99]⟩] : List Value)[q]'hh = .string (ba (upT q)) := hx
        clear htr hx hld hl2 hx1 hx2
        generalize upT q = xl at *
        go_wp2_with (first
          | (at_builtin; refine App.wpList_append_list _ rfl _ _ 23 rfl w.heap.size 9 i0 (.string ByteArray.empty) 1 16 Tryd.underlying23 G1.out G2.out G3.out G4.out rfl (by decide) _ A.length (textsOf A) rfl (P3.out.2.1.alloc (.cells #[.string (ba xl)] 9)) (some ⟨w3.heap.size, 0, none⟩) 1 1 [.string (ba xl)] rfl rfl (strs_here (Strs.one w3 w3.heap.size rfl 9 (ba xl))) (texts_one [ba xl]) (by unfold maxLen; omega) (by omega) (by have := P3.out.2.2.2.2; simp; omega) ?_
             intro v4 w4 ho4 hg4 _ hl4
             have P4 := Lib.hid (P3.out.want xl _ ho4 hg4 hl4)
             clear ho4 hg4 hl4)
          | (at_builtin; refine App.wpList_append_list _ rfl _ _ 23 rfl w.heap.size 9 i0 (.string ByteArray.empty) 1 16 Tryd.underlying23 G1.out G2.out G3.out G4.out rfl (by decide) _ 0 [] rfl (World.ownsRow_nil _ _ _ _) ub A.length uc (textsOf A) rfl HM.out (strs_here HS1.out) (texts_one _) (by unfold maxLen; omega) (by omega) P1.out.2.2.2.2 ?_
             intro v3 w3 ho3 hg3 _ hl3
             rw [Nat.zero_add, List.nil_append] at ho3
             have P3 := Lib.hid (P1.out.copy ho3 hg3 hl3)
             clear ho3 hg3 hl3)
          | (at_builtin; refine wpList_append_own_at _ rfl _ _ 23 rfl w.heap.size 9 i0 (.string ByteArray.empty) 1 16 Tryd.underlying23 G1.out G2.out G3.out G4.out rfl (by decide) _ _ _ rfl ((hpr.out.1.alloc _).alloc _) ⟨wr.heap.size + 1, 0, none⟩ 1 1 [.string (ba xl)] rfl rfl (HN1.out _) (texts_one [(ba xl)]) (by unfold maxLen; omega) (by omega) (by have := hpr.out.2.2.2.2; simp; omega) ?_
             intro v' w' hown' hgr _ hloc
             have P1 := Lib.hid (hpr.out.segs (xl) _ _ hown' hgr hloc)
             have HS1 : Hid (Strs w' ub A.length (A.map ba)) := Lib.hid (by
               obtain ⟨b9, c9, e9, h9⟩ := Strs.of_own (ss := A.map ba) P1.out.2.1
               cases e9; exact h9)
             clear hown' hgr hloc))
        have P5 : Hid (PR w w.heap.size w4 v' v4 (ups (bs.take (k + 1))) (trod (ups (bs.take (k + 1))))) := Lib.hid (by rw [HTR.out, HSN.out]; exact P4.out)
        clear P1 P3 P4 HTR HSN hpr
        go_roundw
        case rel => exact ⟨k + 1, by omega, by go_num, P5⟩
        case measure => simp [intOf]; omega
    · obtain rfl : k = ln := by omega
      have hput : bs.take k = bs := List.take_of_length_le (by rw [HBL.out]; exact Nat.le_refl _)
      rw [hput] at hpr
      clear hput
      have HBr := Lib.hid hpr.out.2.2.2.1
      obtain ⟨vb, vc, rfl, hVS⟩ := Strs.of_own (n := (ups bs).length) (ss := (ups bs).map ba) hpr.out.1
      obtain ⟨ub, uc, rfl, hUS⟩ := Strs.of_own (n := (trod (ups bs)).length) (ss := (trod (ups bs)).map ba) hpr.out.2.1
      have HUS := Lib.hid hUS
      have hsl : (ups bs).length = k := by unfold ups; rw [List.length_map, HBL.out]
      have hal : (trod (ups bs)).length ≤ k := by
        have := trod_len (ups bs) []
        rw [hsl] at this; unfold trod; simpa using this
      have hds := dots_any vb (ups bs).length vc ((ups bs).map ba) wr hVS (by omega)
      have hdb : dotsB ((ups bs).map ba) = (dots (ups bs)).map ba := by unfold dotsB; rw [listL_map]
      rw [hdb, dots_by_last] at hds
      have HM : Hid ((textsOf (trod (ups bs))).length = (trod (ups bs)).length * 1) := Lib.hid (by rw [textsOf, List.length_map, List.length_map, Nat.mul_one])
      clear hVS hUS hpr hdb
      rcases Nat.eq_zero_or_pos k with h0 | hpos
      · have hb0 : bs = [] := List.length_eq_zero_iff.1 (by rw [HBL.out]; exact h0)
        have hlz : lastLeads (ups bs) = true := by rw [hb0]; rfl
        rw [if_pos hlz, List.map_append] at hds
        have HDs := Lib.hid hds
        have k0 : (k : Int) = 0 := by omega
        generalize (ups bs).length = SL at *
        generalize trod (ups bs) = A at *
        obtain ⟨AL, hAL⟩ : ∃ AL, A.length = AL := ⟨_, rfl⟩
        rw [hAL] at HUS HM hal ⊢
        have HAL := Lib.hid hAL
        clear hds hb0 hlz hAL HBL HV hsl h0
        go_wp2_with (first
          | (go_at_call 16; with_reducible refine HDs.out.mono ?_; rintro e w2 ⟨xb, n3, c3, rfl, hn3, hX, hb⟩
             have HX := Lib.hid hX
             have HB := Lib.hid (Base.below_step HBr.out hb)
             have HU2 := Lib.hid (HUS.out.below hb)
             obtain rfl : n3 = AL + 1 := by rw [hn3, List.length_append, List.length_map, HAL.out]; rfl
             clear hX hb hn3)
          | (at_builtin; refine App.wpList_append_list _ rfl _ _ 23 rfl w2.heap.size 9 i0 (.string ByteArray.empty) 1 16 Tryd.underlying23 G1.out G2.out G3.out G4.out rfl (by decide) _ AL (textsOf A) rfl (HO5.out.alloc (.cells #[.string ⟨#[]⟩] 9)) (some ⟨w5.heap.size, 0, none⟩) 1 1 [.string ⟨#[]⟩] rfl rfl (strs_here (Strs.one w5 w5.heap.size rfl 9 ⟨#[]⟩)) (texts_one [⟨#[]⟩]) (by unfold maxLen; omega) (by omega) (by have := HB5.out.size; simp; omega) ?_
             intro v6 w6 ho6 hg6 _ _
             have HB6 := Lib.hid ((HB5.out.alloc HB5.out.size (.cells #[.string ⟨#[]⟩] 9)).grown hg6 (by have := HB5.out.size; simp; omega) (fun k hk => (HO5.out.lt k hk).1))
             have HX6 := Lib.hid (HX.out.below HB6.out)
             have HBB := Lib.hid (Base.below_step HB.out HB6.out)
             obtain ⟨yb, yc, rfl, hY⟩ := Strs.of_own (ss := A.map ba ++ [⟨#[]⟩]) (by rw [List.map_append]; exact ho6)
             have HY := Lib.hid hY
             clear ho6 hg6 hY)
          | (at_builtin; refine App.wpList_append_list _ rfl _ _ 23 rfl w2.heap.size 9 i0 (.string ByteArray.empty) 1 16 Tryd.underlying23 G1.out G2.out G3.out G4.out rfl (by decide) _ 0 [] rfl (World.ownsRow_nil _ _ _ _) ub AL uc (textsOf A) rfl HM.out (strs_here HU2.out) (texts_one _) (by unfold maxLen; omega) (by omega) (Nat.le_refl _) ?_
             intro v5 w5 ho5 hg5 _ _
             have HB5 := Lib.hid ((Below.refl w2.heap.size w2).grown hg5 (Nat.le_refl _) (by intro k hk; cases hk))
             rw [Nat.zero_add, List.nil_append] at ho5
             have HO5 := Lib.hid ho5
             clear ho5 hg5))
        have HY : Hid (Strs w6 yb (AL + 1) (A.map ba ++ List.map ba [[]])) := HY
        have hdz : True := trivial
        generalize (A.map ba ++ List.map ba [[]]) = D at *
        clear HO5 HB5 HB6 HUS HU2 HM HAL
        have HDZ := Lib.hid hdz
        clear hdz
        go_loopw [8] (fun i wq => ∃ j : Nat, j ≤ AL + 1 ∧ i = .int .i64 j ∧ Hid (Strs wq xb (AL + 1) D) ∧ Hid (Strs wq yb (AL + 1) D) ∧ Hid (Below w.heap.size w wq)) (fun i _ => AL + 1 - (intOf i).toNat)
        case atStart => exact ⟨0, Nat.zero_le _, rfl, HX6, HY, HBB⟩
        case round =>
          obtain ⟨j, hj, rfl, hxs, hys, hbq⟩ := hrel
          rcases Nat.lt_or_ge j (AL + 1) with hlt2 | hge2
          · obtain ⟨b1, o1, rfl, -, hc1⟩ := hxs.out.2 (by omega)
            obtain ⟨b2, o2, rfl, -, hc2⟩ := hys.out.2 (by omega)
            have hd1 := hc1 j hlt2
            have hd2 := hc2 j hlt2
            clear hc1 hc2
            generalize D[j]?.getD ByteArray.empty = f at *
            go_upto_region 25 with fail
            go_quiet (fail)
            have HX2 : Hid (Strs (wr.drewN nq) (some ⟨b1, o1, none⟩) (AL + 1) D) := Lib.hid hxs.out
            have HY2 : Hid (Strs (wr.drewN nq) (some ⟨b2, o2, none⟩) (AL + 1) D) := Lib.hid hys.out
            have HB2 := Lib.hid (Base.below_drewN hbq.out nq)
            go_wp2
            go_roundw
            case rel => exact ⟨j + 1, by omega, by go_num, HX2, HY2, HB2⟩
            case measure => simp [intOf]; omega
          · obtain rfl : j = AL + 1 := by omega
            go_wp2
            go_ret
            exact ⟨rfl, hbq.out⟩
      · obtain ⟨m, rfl⟩ : ∃ m, k = m + 1 := ⟨k - 1, by omega⟩
        have hll := ups_last bs m HBL.out
        have hbm : m < bs.length := by rw [HBL.out]; omega
        obtain ⟨bl, off, rfl, hbl, hc⟩ := HV.out.2 (by omega)
        have hc0 := hc m (by omega)
        rw [nums_at bs m hbm] at hc0
        generalize bs[m] = z at *
        have hrem : Int.tmod ((z.toNat : Nat) : Int) 5 = ((z.toNat % 5 : Nat) : Int) := rem_byte z 5
        have hq : z.toNat % 5 < 5 := Nat.mod_lt _ (by decide)
        generalize z.toNat % 5 = q at *
        have k0 : ¬ ((m + 1 : Nat) : Int) = 0 := by omega
        have k1 : IntKind.i64.wrap (((m + 1 : Nat) : Int) - 1) = (m : Int) := by rw [wrap_in _ (by omega) (by omega)]; omega
        rw [hll] at hds
        generalize (ups bs).length = SL at *
        generalize trod (ups bs) = A at *
        obtain ⟨AL, hAL⟩ : ∃ AL, A.length = AL := ⟨_, rfl⟩
        rw [hAL] at HUS HM hal ⊢
        have HAL := Lib.hid hAL
        clear hc hll hsl hAL hbm HBL HV
        by_cases hlq : q = 2 ∨ q = 3
        · rw [if_pos (by rcases hlq with rfl | rfl <;> decide), List.map_append] at hds
          have HDs := Lib.hid hds
          clear hds
          rcases hlq with rfl | rfl
          · have hrem2 : Int.tmod ((z.toNat : Nat) : Int) 5 = 2 := hrem
            clear hrem hq
            go_wp2_with (first
              | (go_at_call 16; with_reducible refine HDs.out.mono ?_; rintro e w2 ⟨xb, n3, c3, rfl, hn3, hX, hb⟩
                 have HX := Lib.hid hX
                 have HB := Lib.hid (Base.below_step HBr.out hb)
                 have HU2 := Lib.hid (HUS.out.below hb)
                 obtain rfl : n3 = AL + 1 := by rw [hn3, List.length_append, List.length_map, HAL.out]; rfl
                 have hc2 := (HB.out.cell (p := ⟨bl, off + m, none⟩) hbl).trans hc0
                 clear hX hb hn3)
              | (at_builtin; refine App.wpList_append_list _ rfl _ _ 23 rfl w2.heap.size 9 i0 (.string ByteArray.empty) 1 16 Tryd.underlying23 G1.out G2.out G3.out G4.out rfl (by decide) _ AL (textsOf A) rfl (HO5.out.alloc (.cells #[.string ⟨#[]⟩] 9)) (some ⟨w5.heap.size, 0, none⟩) 1 1 [.string ⟨#[]⟩] rfl rfl (strs_here (Strs.one w5 w5.heap.size rfl 9 ⟨#[]⟩)) (texts_one [⟨#[]⟩]) (by unfold maxLen; omega) (by omega) (by have := HB5.out.size; simp; omega) ?_
                 intro v6 w6 ho6 hg6 _ _
                 have HB6 := Lib.hid ((HB5.out.alloc HB5.out.size (.cells #[.string ⟨#[]⟩] 9)).grown hg6 (by have := HB5.out.size; simp; omega) (fun k hk => (HO5.out.lt k hk).1))
                 have HX6 := Lib.hid (HX.out.below HB6.out)
                 have HBB := Lib.hid (Base.below_step HB.out HB6.out)
                 obtain ⟨yb, yc, rfl, hY⟩ := Strs.of_own (ss := A.map ba ++ [⟨#[]⟩]) (by rw [List.map_append]; exact ho6)
                 have HY := Lib.hid hY
                 clear ho6 hg6 hY)
              | (at_builtin; refine App.wpList_append_list _ rfl _ _ 23 rfl w2.heap.size 9 i0 (.string ByteArray.empty) 1 16 Tryd.underlying23 G1.out G2.out G3.out G4.out rfl (by decide) _ 0 [] rfl (World.ownsRow_nil _ _ _ _) ub AL uc (textsOf A) rfl HM.out (strs_here HU2.out) (texts_one _) (by unfold maxLen; omega) (by omega) (Nat.le_refl _) ?_
                 intro v5 w5 ho5 hg5 _ _
                 have HB5 := Lib.hid ((Below.refl w2.heap.size w2).grown hg5 (Nat.le_refl _) (by intro k hk; cases hk))
                 rw [Nat.zero_add, List.nil_append] at ho5
                 have HO5 := Lib.hid ho5
                 clear ho5 hg5))
            have HY : Hid (Strs w6 yb (AL + 1) (A.map ba ++ List.map ba [[]])) := HY
            have hdz : True := trivial
            generalize (A.map ba ++ List.map ba [[]]) = D at *
            clear HO5 HB5 HB6 HUS HU2 HM HAL hrem2 k0 k1
            have HDZ := Lib.hid hdz
            clear hdz
            go_loopw [8] (fun i wq => ∃ j : Nat, j ≤ AL + 1 ∧ i = .int .i64 j ∧ Hid (Strs wq xb (AL + 1) D) ∧ Hid (Strs wq yb (AL + 1) D) ∧ Hid (Below w.heap.size w wq)) (fun i _ => AL + 1 - (intOf i).toNat)
            case atStart => exact ⟨0, Nat.zero_le _, rfl, HX6, HY, HBB⟩
            case round =>
              obtain ⟨j, hj, rfl, hxs, hys, hbq⟩ := hrel
              rcases Nat.lt_or_ge j (AL + 1) with hlt2 | hge2
              · obtain ⟨b1, o1, rfl, -, hc1⟩ := hxs.out.2 (by omega)
                obtain ⟨b2, o2, rfl, -, hc2⟩ := hys.out.2 (by omega)
                have hd1 := hc1 j hlt2
                have hd2 := hc2 j hlt2
                clear hc1 hc2
                generalize D[j]?.getD ByteArray.empty = f at *
                go_upto_region 25 with fail
                go_quiet (fail)
                have HX2 : Hid (Strs (wr.drewN nq) (some ⟨b1, o1, none⟩) (AL + 1) D) := Lib.hid hxs.out
                have HY2 : Hid (Strs (wr.drewN nq) (some ⟨b2, o2, none⟩) (AL + 1) D) := Lib.hid hys.out
                have HB2 := Lib.hid (Base.below_drewN hbq.out nq)
                go_wp2
                go_roundw
                case rel => exact ⟨j + 1, by omega, by go_num, HX2, HY2, HB2⟩
                case measure => simp [intOf]; omega
              · obtain rfl : j = AL + 1 := by omega
                go_wp2
                go_ret
                exact ⟨rfl, hbq.out⟩
          · have hrem2 : Int.tmod ((z.toNat : Nat) : Int) 5 = 3 := hrem
            clear hrem hq
            go_wp2_with (first
              | (go_at_call 16; with_reducible refine HDs.out.mono ?_; rintro e w2 ⟨xb, n3, c3, rfl, hn3, hX, hb⟩
                 have HX := Lib.hid hX
                 have HB := Lib.hid (Base.below_step HBr.out hb)
                 have HU2 := Lib.hid (HUS.out.below hb)
                 obtain rfl : n3 = AL + 1 := by rw [hn3, List.length_append, List.length_map, HAL.out]; rfl
                 have hc2 := (HB.out.cell (p := ⟨bl, off + m, none⟩) hbl).trans hc0
                 clear hX hb hn3)
              | (at_builtin; refine App.wpList_append_list _ rfl _ _ 23 rfl w2.heap.size 9 i0 (.string ByteArray.empty) 1 16 Tryd.underlying23 G1.out G2.out G3.out G4.out rfl (by decide) _ AL (textsOf A) rfl (HO5.out.alloc (.cells #[.string ⟨#[]⟩] 9)) (some ⟨w5.heap.size, 0, none⟩) 1 1 [.string ⟨#[]⟩] rfl rfl (strs_here (Strs.one w5 w5.heap.size rfl 9 ⟨#[]⟩)) (texts_one [⟨#[]⟩]) (by unfold maxLen; omega) (by omega) (by have := HB5.out.size; simp; omega) ?_
                 intro v6 w6 ho6 hg6 _ _
                 have HB6 := Lib.hid ((HB5.out.alloc HB5.out.size (.cells #[.string ⟨#[]⟩] 9)).grown hg6 (by have := HB5.out.size; simp; omega) (fun k hk => (HO5.out.lt k hk).1))
                 have HX6 := Lib.hid (HX.out.below HB6.out)
                 have HBB := Lib.hid (Base.below_step HB.out HB6.out)
                 obtain ⟨yb, yc, rfl, hY⟩ := Strs.of_own (ss := A.map ba ++ [⟨#[]⟩]) (by rw [List.map_append]; exact ho6)
                 have HY := Lib.hid hY
                 clear ho6 hg6 hY)
              | (at_builtin; refine App.wpList_append_list _ rfl _ _ 23 rfl w2.heap.size 9 i0 (.string ByteArray.empty) 1 16 Tryd.underlying23 G1.out G2.out G3.out G4.out rfl (by decide) _ 0 [] rfl (World.ownsRow_nil _ _ _ _) ub AL uc (textsOf A) rfl HM.out (strs_here HU2.out) (texts_one _) (by unfold maxLen; omega) (by omega) (Nat.le_refl _) ?_
                 intro v5 w5 ho5 hg5 _ _
                 have HB5 := Lib.hid ((Below.refl w2.heap.size w2).grown hg5 (Nat.le_refl _) (by intro k hk; cases hk))
                 rw [Nat.zero_add, List.nil_append] at ho5
                 have HO5 := Lib.hid ho5
                 clear ho5 hg5))
            have HY : Hid (Strs w6 yb (AL + 1) (A.map ba ++ List.map ba [[]])) := HY
            have hdz : True := trivial
            generalize (A.map ba ++ List.map ba [[]]) = D at *
            clear HO5 HB5 HB6 HUS HU2 HM HAL hrem2 k0 k1
            have HDZ := Lib.hid hdz
            clear hdz
            go_loopw [8] (fun i wq => ∃ j : Nat, j ≤ AL + 1 ∧ i = .int .i64 j ∧ Hid (Strs wq xb (AL + 1) D) ∧ Hid (Strs wq yb (AL + 1) D) ∧ Hid (Below w.heap.size w wq)) (fun i _ => AL + 1 - (intOf i).toNat)
            case atStart => exact ⟨0, Nat.zero_le _, rfl, HX6, HY, HBB⟩
            case round =>
              obtain ⟨j, hj, rfl, hxs, hys, hbq⟩ := hrel
              rcases Nat.lt_or_ge j (AL + 1) with hlt2 | hge2
              · obtain ⟨b1, o1, rfl, -, hc1⟩ := hxs.out.2 (by omega)
                obtain ⟨b2, o2, rfl, -, hc2⟩ := hys.out.2 (by omega)
                have hd1 := hc1 j hlt2
                have hd2 := hc2 j hlt2
                clear hc1 hc2
                generalize D[j]?.getD ByteArray.empty = f at *
                go_upto_region 25 with fail
                go_quiet (fail)
                have HX2 : Hid (Strs (wr.drewN nq) (some ⟨b1, o1, none⟩) (AL + 1) D) := Lib.hid hxs.out
                have HY2 : Hid (Strs (wr.drewN nq) (some ⟨b2, o2, none⟩) (AL + 1) D) := Lib.hid hys.out
                have HB2 := Lib.hid (Base.below_drewN hbq.out nq)
                go_wp2
                go_roundw
                case rel => exact ⟨j + 1, by omega, by go_num, HX2, HY2, HB2⟩
                case measure => simp [intOf]; omega
              · obtain rfl : j = AL + 1 := by omega
                go_wp2
                go_ret
                exact ⟨rfl, hbq.out⟩
        · rw [if_neg (by simp only [Bool.or_eq_true, decide_eq_true_eq]; exact hlq)] at hds
          have HDs := Lib.hid hds
          have q2 : ¬ q = 2 := fun e => hlq (.inl e)
          have q3 : ¬ q = 3 := fun e => hlq (.inr e)
          have r2 : ¬ (q : Int) = 2 := by omega
          have r3 : ¬ (q : Int) = 3 := by omega
          have s2 : ((q : Int) == 2) = false := beq_eq_false_iff_ne.2 r2
          have s3 : ((q : Int) == 3) = false := beq_eq_false_iff_ne.2 r3
          clear hds hlq
          go_wp2_with (first
            | (go_at_call 16; with_reducible refine HDs.out.mono ?_; rintro e w2 ⟨xb, n3, c3, rfl, hn3, hX, hb⟩
               have HX := Lib.hid hX
               have HB := Lib.hid (Base.below_step HBr.out hb)
               have HU2 := Lib.hid (HUS.out.below hb)
               obtain rfl : n3 = AL := by rw [hn3, List.length_map, HAL.out]
               have hc2 := (HB.out.cell (p := ⟨bl, off + m, none⟩) hbl).trans hc0
               clear hX hb hn3))
          have hdz : True := trivial
          generalize A.map ba = D at *
          generalize ub = yb at *
          clear HUS HM HAL hrem k0 k1 hc0 hc2 q2 q3 r2 r3 s2 s3
          have HDZ := Lib.hid hdz
          clear hdz
          go_loopw [8] (fun i wq => ∃ j : Nat, j ≤ n3 ∧ i = .int .i64 j ∧ Hid (Strs wq xb (n3) D) ∧ Hid (Strs wq yb (n3) D) ∧ Hid (Below w.heap.size w wq)) (fun i _ => n3 - (intOf i).toNat)
          case atStart => exact ⟨0, Nat.zero_le _, rfl, HX, HU2, HB⟩
          case round =>
            obtain ⟨j, hj, rfl, hxs, hys, hbq⟩ := hrel
            rcases Nat.lt_or_ge j (n3) with hlt2 | hge2
            · obtain ⟨b1, o1, rfl, -, hc1⟩ := hxs.out.2 (by omega)
              obtain ⟨b2, o2, rfl, -, hc2⟩ := hys.out.2 (by omega)
              have hd1 := hc1 j hlt2
              have hd2 := hc2 j hlt2
              clear hc1 hc2
              generalize D[j]?.getD ByteArray.empty = f at *
              go_upto_region 25 with fail
              go_quiet (fail)
              have HX2 : Hid (Strs (wr.drewN nq) (some ⟨b1, o1, none⟩) (n3) D) := Lib.hid hxs.out
              have HY2 : Hid (Strs (wr.drewN nq) (some ⟨b2, o2, none⟩) (n3) D) := Lib.hid hys.out
              have HB2 := Lib.hid (Base.below_drewN hbq.out nq)
              go_wp2
              go_roundw
              case rel => exact ⟨j + 1, by omega, by go_num, HX2, HY2, HB2⟩
              case measure => simp [intOf]; omega
            · obtain rfl : j = n3 := by omega
              go_wp2
              go_ret
              exact ⟨rfl, hbq.out⟩
end code
end Go.Proofs.YtojjhknejkhdhaaDoor.Pct
