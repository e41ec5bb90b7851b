/-
  Layer 18 (hop): the contracts of package hop, and of the document's hops: Names, Strip, Via, From.
-/
import Derived.Test.YtoackhbkngfhkaaDoorHopW
import Derived.Test.YtoackhbkngfhkaaDoorHopD
import Derived.Test.YtoackhbkngfhkaaDoorTextFind
import Derived.Test.YtoackhbkngfhkaaDoorTextRef2
namespace Go.Proofs.YtoackhbkngfhkaaDoor.Hop
open Go.RowKit Base Txt Oct

section code
set_option maxHeartbeats 4000000
set_option maxRecDepth 100000
attribute [local go_sem] Base.some_undef
theorem names_any (w : World) : Calls Tryd.prog 16 #[] w fun e w' => e = .returned (.slice (some ⟨w.heap.size, 0, none⟩) 9 9) ∧ w'.ownsRow w.heap.size 9 1 (.slice (some ⟨w.heap.size, 0, none⟩) 9 9) 9 (names.map Value.string) ∧ Below w.heap.size w w' ∧ w'.heap.size = w.heap.size + 1 := by
  go_enter Tryd.func16, Tryd.ntmps16
  go_wp2
  go_ret
  exact ⟨rfl, World.ownsRow_lit (size := 1) w _ 9 (Nat.le_refl _) (by decide) rfl, (Below.refl _ _).alloc (Nat.le_refl _) _, by simp⟩
theorem rnames_any (w : World) : Calls Tryd.prog 17 #[] w fun e w' => e = .returned (.slice (some ⟨w.heap.size, 0, none⟩) 9 9) ∧ w'.ownsRow w.heap.size 9 1 (.slice (some ⟨w.heap.size, 0, none⟩) 9 9) 9 (names.map Value.string) ∧ Below w.heap.size w w' ∧ w'.heap.size = w.heap.size + 1 := by
  go_enter Tryd.func17, Tryd.ntmps17
  go_wp2
  go_ret
  exact ⟨rfl, World.ownsRow_lit (size := 1) w _ 9 (Nat.le_refl _) (by decide) rfl, (Below.refl _ _).alloc (Nat.le_refl _) _, by simp⟩
theorem stays_any (s : ByteArray) (w : World) (hs : s.size ≤ 1000000000) : Calls Tryd.prog 24 #[.string s] w fun e w' => e = .returned (.bool (stays s)) ∧ Below w.heap.size w w' := by
  have h1 := Lib.hid (fun w => same_any s ⟨#[72, 111, 115, 116]⟩ w (by unfold maxLen; omega))
  have h2 := Lib.hid (fun w => same_any s ⟨#[67, 111, 110, 116, 101, 110, 116, 45, 76, 101, 110, 103, 116, 104]⟩ w (by unfold maxLen; omega))
  have hst : stays s = (same s ⟨#[72, 111, 115, 116]⟩ || same s ⟨#[67, 111, 110, 116, 101, 110, 116, 45, 76, 101, 110, 103, 116, 104]⟩) := rfl
  rw [hst]
  clear hst
  generalize same s ⟨#[72, 111, 115, 116]⟩ = x at *
  generalize same s ⟨#[67, 111, 110, 116, 101, 110, 116, 45, 76, 101, 110, 103, 116, 104]⟩ = y at *
  cases x
  · go_enter Tryd.func24, Tryd.ntmps24
    go_wp2_with (first
      | (go_at_call 34; with_reducible refine (h2.out _).mono ?_; rintro e w2 ⟨rfl, hb2⟩)
      | (go_at_call 34; with_reducible refine (h1.out _).mono ?_; rintro e w1 ⟨rfl, hb1⟩))
    go_ret
    exact ⟨rfl, Base.below_step hb1 hb2⟩
  · go_enter Tryd.func24, Tryd.ntmps24
    go_wp2_with (first
      | (go_at_call 34; with_reducible refine (h1.out _).mono ?_; rintro e w1 ⟨rfl, hb1⟩))
    go_ret
    exact ⟨rfl, hb1⟩

theorem texts_here {w : World} {v : Value} {B n : Nat} {ss : List ByteArray} (h : w.ownsRow B 9 1 v n (ss.map Value.string)) : ∃ a c, v = .slice a n c ∧ (0 < n → ∃ b off, a = some ⟨b, off, none⟩ ∧ ∀ j u, (ss.map Value.string)[j]? = some u → w.cell? ⟨b, off + j, none⟩ = some u) := by
  obtain ⟨a, c, rfl, hS⟩ := Strs.of_own h
  refine ⟨a, c, rfl, fun hn => ?_⟩
  obtain ⟨b, off, e, _, hc⟩ := hS.2 hn
  refine ⟨b, off, e, fun j u hj => ?_⟩
  have hlt : j < ss.length := by
    rcases Nat.lt_or_ge j ss.length with h | h
    · exact h
    · rw [List.getElem?_eq_none (by rw [List.length_map]; exact h)] at hj; cases hj
  rw [hc j (by have := hS.1; omega), ← hj, map_at ss j hlt]
theorem texts_one (ss : List ByteArray) : ∀ u ∈ ss.map Value.string, u.oneCell' = true := by
  intro u hu
  obtain ⟨s, _, rfl⟩ := List.mem_map.1 hu
  rfl

/-- What Strip does with the names: Without of them. -/
theorem strip_any (a : Option Addr) (n cap : Nat) (fs : List Fld) (w : World) (hv : Flds w a n fs) (hn : n ≤ 1000000000) (hs : ∀ f ∈ fs, f.1.size ≤ 1000000000) (hr : room (find fs conN) ≤ 900000000) :
    Calls Tryd.prog 8 #[.slice a n cap] w fun e w' => ∃ d c, e = .returned (.slice d (strip fs).length c) ∧ Flds w' d (strip fs).length (strip fs) ∧ Below w.heap.size w w' ∧ w'.ownsRow w.heap.size 28 2 (.slice d (strip fs).length c) (strip fs).length (cells (strip fs)) := by
  have eg : ∀ args w, (callFunc 24 args).run Tryd.prog w = .ok (.enter 24 args) w := enters_of Tryd.func24 (by kernel_rfl) rfl
  have HF := Lib.hid (show Calls Tryd.prog 21 #[.slice a n cap, .string ⟨#[67, 111, 110, 110, 101, 99, 116, 105, 111, 110]⟩] w _ from find_any a n cap fs conN w hv hn (fun f hf => Nat.le_trans (hs f hf) (by unfold maxLen; omega)))
  have HNS := Lib.hid (namesOf_size fs hr)
  have hnl := namesOf_len fs
  have hll := list_le (find fs conN)
  have hstr : strip fs = without fs (namesOf fs) := rfl
  have hno : namesOf fs = names ++ (list (find fs conN)).filter (fun s => !stays s) := rfl
  have hls := Lib.hid (list_size (find fs conN))
  obtain ⟨L, hL⟩ : ∃ L, list (find fs conN) = L := ⟨_, rfl⟩
  have HLI := Lib.hid (fun (w' : World) (b : Option Addr) (c : Nat) (h : Strs w' b (find fs conN).length (find fs conN)) => list_own b _ c (find fs conN) w' h (by omega))
  rw [hL] at HLI hno hls hll
  have HST : Hid (AsksS 24 #[] stays L) := Lib.hid fun W x hx => stays_any x W (by have := hls.out x hx; omega)
  have HDE := Lib.hid (fun (w' : World) (v : Value) (B : Nat) (h : w'.ownsRow B 9 1 v L.length (L.map Value.string)) => deleteS_own 24 #[] eg stays v B L w' HST.out h (by omega))
  clear HST eg hls hL
  have hKl := List.length_filter_le (fun s => !stays s) L
  generalize L.filter (fun s => !stays s) = K at *
  have HWO := Lib.hid (fun (w' : World) (b : Option Addr) (c : Nat) (hb : Below w.heap.size w w') (h : Strs w' b (namesOf fs).length (namesOf fs)) => without_own a n cap fs b _ c (namesOf fs) w' (hv.below hb) h hn (by omega) hs HNS.out)
  rw [← hstr] at HWO
  have hNK : (namesOf fs).length = 9 + K.length := by rw [hno, List.length_append]; rfl
  have HNO := Lib.hid hno
  obtain ⟨N, hN⟩ : ∃ N, namesOf fs = N := ⟨_, rfl⟩
  rw [hN] at HWO hNK HNO
  generalize strip fs = S at *
  generalize find fs conN = F at *
  obtain ⟨i0, hi, hz0, hz1, hz2⟩ := info_parts text_info
  have G1 := Lib.hid hi; have G2 := Lib.hid hz0; have G3 := Lib.hid hz1; have G4 := Lib.hid hz2
  clear hi hz0 hz1 hz2 hnl hno hN HNS hstr hs hv
  have hK9 : K.length ≤ 900000000 := by omega
  have HNK := Lib.hid hNK
  clear hKl hll hr hNK
  go_enter Tryd.func8, Tryd.ntmps8
  go_wp2_with (first
    | (go_at_call 22; with_reducible refine (HWO.out _ _ _ HB5.out HS5.out).mono ?_; rintro e w6 ⟨d, k, c6, rfl, rfl, hF6, hb6, ho6⟩)
    | (at_builtin; refine App.wpList_append_list _ rfl _ _ 26 rfl w2.heap.size 9 i0 (.string ByteArray.empty) 1 16 Tryd.underlying26 G1.out G2.out G3.out G4.out rfl (by decide) _ 9 (names.map Value.string) rfl HO4.out _ K.length c4 (K.map Value.string) rfl (by rw [List.length_map, Nat.mul_one]) HK4.out (texts_one K) (by unfold maxLen; omega) (by omega) (by have := HG4.out.size; have := HB3.out.size; omega) ?_
       intro v5 w5 ho5 hg5 _ _
       rw [← List.map_append, ← HNO.out, ← HNK.out] at ho5
       obtain ⟨b5, c5, rfl, hS5⟩ := Strs.of_own ho5
       have HS5 := Lib.hid hS5
       have HB5 := Lib.hid (HB4.out.grown hg5 (by have := HB4.out.size; omega) (fun k hk => by have h9 : w2.heap.size = k := Option.some.inj hk; have := HB2.out.size; omega))
       clear ho5 hg5 hS5)
    | (go_at_call 23; with_reducible refine (HDE.out _ _ _ HO3.out).mono ?_; rintro e w4 ⟨v4, rfl, hg4, ho4⟩
       have HG4 := Lib.hid hg4
       have HO4 := Lib.hid (HN3.out.kept hg4 (by
         rcases hq : v2.ownBlock with _ | k
         · exact .inr (by simp [Value.ownBlock])
         · have := (HO2.out.lt k hq).2
           exact .inr (by simp [Value.ownBlock]; omega)))
       have HB4 := Lib.hid ((Base.below_step HB2.out HB3.out).grown hg4 (by have := HB2.out.size; have := HB3.out.size; omega) (fun k hk => (HO2.out.lt k hk).1))
       obtain ⟨a4, c4, rfl, hK4⟩ := texts_here ho4
       have HK4 := Lib.hid hK4
       clear hg4 ho4 hK4)
    | (go_at_call 16; with_reducible refine (names_any _).mono ?_; rintro e w3 ⟨rfl, hn3, hb3, _⟩
       have HN3 := Lib.hid hn3
       have HB3 := Lib.hid hb3
       have HO3 := Lib.hid (own_below HO2.out hb3)
       clear hn3 hb3)
    | (go_at_call 20; with_reducible refine (HLI.out _ _ _ HS1.out).mono ?_; rintro e w2 ⟨v2, rfl, ho2, hb2⟩
       have HB2 := Lib.hid (Base.below_step HB1.out hb2)
       have HO2 := Lib.hid (own_lower ho2 HB1.out.size)
       clear hb2 ho2)
    | (go_at_call 21; with_reducible refine HF.out.mono ?_; rintro e w1 ⟨b1, m1, c1, rfl, rfl, hS1, hb1⟩
       have HS1 := Lib.hid hS1
       have HB1 := Lib.hid hb1
       clear hS1 hb1))
  go_ret
  exact ⟨d, c6, rfl, hF6, Base.below_step HB5.out hb6, own_lower ho6 HB5.out.size⟩

/-- The document's: the names one by one. -/
theorem rstrip_any (a : Option Addr) (n cap : Nat) (fs : List Fld) (w : World) (hv : Flds w a n fs) (hn : n ≤ 1000000000) (hs : ∀ f ∈ fs, f.1.size ≤ 1000000000) (hr : room (find fs conN) ≤ 900000000) :
    Calls Tryd.prog 10 #[.slice a n cap] w fun e w' => ∃ d c, e = .returned (.slice d (strip fs).length c) ∧ Flds w' d (strip fs).length (strip fs) ∧ Below w.heap.size w w' ∧ w'.ownsRow w.heap.size 28 2 (.slice d (strip fs).length c) (strip fs).length (cells (strip fs)) := by
  have HF := Lib.hid (fun (w' : World) (hb : Below w.heap.size w w') => show Calls Tryd.prog 26 #[.slice a n cap, .string ⟨#[67, 111, 110, 110, 101, 99, 116, 105, 111, 110]⟩] w' _ from rfind_any a n cap fs conN w' (hv.below hb) hn hs (by decide))
  have HNS := Lib.hid (namesOf_size fs hr)
  have hnl := namesOf_len fs
  have hll := list_le (find fs conN)
  have hstr : strip fs = without fs (namesOf fs) := rfl
  have hno : namesOf fs = names ++ (list (find fs conN)).filter (fun s => !stays s) := rfl
  have hls := Lib.hid (list_size (find fs conN))
  obtain ⟨L, hL⟩ : ∃ L, list (find fs conN) = L := ⟨_, rfl⟩
  have HLI := Lib.hid (fun (w' : World) (b : Option Addr) (c : Nat) (h : Strs w' b (find fs conN).length (find fs conN)) => rlist_own b _ c (find fs conN) w' h (by omega))
  rw [hL] at HLI hno hls hll
  have HLS : Hid (∀ s ∈ L, s.size ≤ 900000000) := Lib.hid fun s h => by have := hls.out s h; omega
  clear hls hL
  have HWO := Lib.hid (fun (w' : World) (b : Option Addr) (c : Nat) (hb : Below w.heap.size w w') (h : Strs w' b (namesOf fs).length (namesOf fs)) => rwithout_own a n cap fs b _ c (namesOf fs) w' (hv.below hb) h hn (by omega) hs HNS.out)
  rw [← hstr, hno] at HWO
  generalize strip fs = S at *
  generalize find fs conN = F at *
  obtain ⟨i0, hi, hz0, hz1, hz2⟩ := info_parts text_info
  have G1 := Lib.hid hi; have G2 := Lib.hid hz0; have G3 := Lib.hid hz1; have G4 := Lib.hid hz2
  have hL9 : L.length ≤ 900000000 := by omega
  clear hi hz0 hz1 hz2 hnl hno HNS hstr hs hv hll hr
  go_enter Tryd.func10, Tryd.ntmps10
  go_upto_region 3 with (first
    | (go_at_call 25; with_reducible refine (HLI.out _ _ _ HS2.out).mono ?_; rintro e w3 ⟨v3, rfl, hv3, hb3⟩
       have HV3 := Lib.hid hv3
       have HN3 := Lib.hid (show v3.ownBlock = none ∨ v3.ownBlock ≠ some w.heap.size from by
         rcases hq : v3.ownBlock with _ | g
         · exact .inl rfl
         · have h7 := (hv3.lt g hq).1
           have h8 := (HO2.out.lt w.heap.size rfl).2
           exact .inr (by simp; omega))
       obtain ⟨b3, c3, rfl, hS3⟩ := Strs.of_own hv3
       have HB3 := Lib.hid (Base.below_step HB2.out hb3)
       have HO3 := Lib.hid (own_below HO2.out hb3)
       clear hv3 hb3 hS3)
    | (go_at_call 26; with_reducible refine (HF.out _ HB1.out).mono ?_; rintro e w2 ⟨b2, m2, c2, rfl, rfl, hS2, hb2⟩
       have HS2 := Lib.hid hS2
       have HB2 := Lib.hid (Base.below_step HB1.out hb2)
       have HO2 := Lib.hid (own_below HO1.out hb2)
       clear hS2 hb2)
    | (go_at_call 17; with_reducible refine (rnames_any _).mono ?_; rintro e w1 ⟨rfl, hn1, hb1, _⟩
       have HO1 := Lib.hid hn1
       have HB1 := Lib.hid hb1
       clear hn1 hb1))
  have hLen : L.length = L.length := rfl
  generalize w2.heap.size = B3 at HV3
  go_wp2
  go_loopw [3, 5] (fun v i wr => ∃ (k : Nat), k ≤ L.length ∧ i = .int .i64 k ∧ Hid (wr.ownsRow w.heap.size 9 1 v (9 + ((L.take k).filter (fun s => !stays s)).length) ((names ++ (L.take k).filter (fun s => !stays s)).map Value.string)) ∧ Hid (Below w.heap.size w wr) ∧
    Hid (wr.ownsRow B3 9 1 (.slice b3 L.length c3) L.length (L.map Value.string)) ∧ Hid ((Value.slice b3 L.length c3).ownBlock = none ∨ (Value.slice b3 L.length c3).ownBlock ≠ v.ownBlock)) (fun _ i _ => L.length - (intOf i).toNat)
  case atStart => exact ⟨0, Nat.zero_le _, rfl, HO3, HB3, HV3, HN3⟩
  case round =>
    obtain ⟨k, hk, rfl, hown, hbr, hv3, hne⟩ := hrel
    rcases Nat.lt_or_ge k L.length with hlt | hge
    · obtain ⟨a9, c9, e9, hS9⟩ := Strs.of_own hv3.out
      obtain ⟨rfl, rfl⟩ : b3 = a9 ∧ c3 = c9 := by simpa using e9
      obtain ⟨bl, off, rfl, hbl, hc⟩ := hS9.2 (by omega)
      have hck := hc k hlt
      have hsn := Lib.hid (sfilter_snoc stays L k hlt)
      have hmem : L[k]?.getD ByteArray.empty ∈ L := by rw [List.getElem?_eq_getElem hlt]; exact List.getElem_mem _
      have hxs := HLS.out _ hmem
      have htl : ((L.take k).filter (fun s => !stays s)).length ≤ k := Nat.le_trans (List.length_filter_le _ _) (List.length_take_le _ _)
      clear hc hmem e9 hS9
      generalize L[k]?.getD ByteArray.empty = x at *
      have h1 := Lib.hid (fun w => rsame_any x ⟨#[72, 111, 115, 116]⟩ w (by omega) (by decide))
      have h2 := Lib.hid (fun w => rsame_any x ⟨#[67, 111, 110, 116, 101, 110, 116, 45, 76, 101, 110, 103, 116, 104]⟩ w (by omega) (by decide))
      have hst : stays x = (same x ⟨#[72, 111, 115, 116]⟩ || same x ⟨#[67, 111, 110, 116, 101, 110, 116, 45, 76, 101, 110, 103, 116, 104]⟩) := rfl
      rw [hst] at hsn
      clear hst
      generalize same x ⟨#[72, 111, 115, 116]⟩ = p at *
      generalize same x ⟨#[67, 111, 110, 116, 101, 110, 116, 45, 76, 101, 110, 103, 116, 104]⟩ = q at *
      generalize (L.take k).filter (fun s => !stays s) = T at *
      cases p
      · cases q
        · rw [show (false || false) = false from rfl, if_neg (by decide)] at hsn
          go_wp2_with (first
            | (at_builtin; (refine wpList_append_own_at _ rfl _ _ 26 rfl w.heap.size 9 i0 (.string ByteArray.empty) 1 16 Tryd.underlying26 G1.out G2.out G3.out G4.out rfl (by decide) _ _ _ rfl (HO5.out.alloc _) ⟨w5.heap.size, 0, none⟩ 1 1 [.string x] rfl rfl ?c1 ?c2 ?c3 ?c4 ?c5 ?_))
            | (go_at_call 27; with_reducible refine (h2.out _).mono ?_; rintro e w5 ⟨rfl, hb5⟩
               have hck5 := (hb5.cell (p := ⟨bl, off + k, none⟩) (by have := hb4.size; show bl < _; omega)).trans hck4
               have HO5 := Lib.hid (own_below (own_below hown.out hb4) hb5)
               have HV5 := Lib.hid (own_below (own_below hv3.out hb4) hb5)
               have HB5 := Lib.hid (Base.below_step (Base.below_step hbr.out hb4) hb5)
               clear hck4 hb4 hb5)
            | (go_at_call 27; with_reducible refine (h1.out _).mono ?_; rintro e w4 ⟨rfl, hb4⟩
               have hck4 := (hb4.cell (p := ⟨bl, off + k, none⟩) hbl).trans hck
               clear hck))
          case c1 => exact news_one _ _ _
          case c2 => intro u hu; obtain rfl : u = .string x := by simpa using hu
                     rfl
          case c3 => unfold maxLen; omega
          case c4 => omega
          case c5 => have := HB5.out.size; simp; omega
          intro v' w' hown' hgr _ hloc
          have H1 : Hid (w'.ownsRow w.heap.size 9 1 v' (9 + (T ++ [x]).length) ((names ++ (T ++ [x])).map Value.string)) := Lib.hid (by
            rw [← List.append_assoc, List.map_append, List.length_append]; exact hown')
          have hv6 := HV5.out.alloc (.cells #[.string x] 9)
          have H2 := Lib.hid (hv6.kept hgr hne.out)
          have H3 := Lib.hid ((HB5.out.alloc HB5.out.size (.cells #[.string x] 9)).grown hgr (by have := HB5.out.size; simp; omega) (own_base hown.out))
          have H4 : Hid ((Value.slice (some ⟨bl, off, none⟩) L.length c3).ownBlock = none ∨ (Value.slice (some ⟨bl, off, none⟩) L.length c3).ownBlock ≠ v'.ownBlock) := Lib.hid (by
            rcases hloc with h | h
            · rw [h]; exact hne.out
            · rw [h]
              have := (hv6.lt bl rfl).2
              exact .inr (by simp [Value.ownBlock]; simp at this; omega))
          rw [← hsn.out] at H1
          clear hown' hgr hloc hv6
          go_wp2
          go_roundw
          case rel => exact ⟨k + 1, by omega, by go_num, H1, H3, H2, H4⟩
          case measure => simp [intOf]; omega
        · rw [show (false || true) = true from rfl, if_pos rfl, List.append_nil] at hsn
          go_wp2_with (first
            | (go_at_call 27; with_reducible refine (h2.out _).mono ?_; rintro e w5 ⟨rfl, hb5⟩
               have HO5 := Lib.hid (own_below (own_below hown.out hb4) hb5)
               have HV5 := Lib.hid (own_below (own_below hv3.out hb4) hb5)
               have HB5 := Lib.hid (Base.below_step (Base.below_step hbr.out hb4) hb5)
               clear hck4 hb4 hb5)
            | (go_at_call 27; with_reducible refine (h1.out _).mono ?_; rintro e w4 ⟨rfl, hb4⟩
               have hck4 := (hb4.cell (p := ⟨bl, off + k, none⟩) hbl).trans hck
               clear hck))
          rw [← hsn.out] at HO5
          go_roundw
          case rel => exact ⟨k + 1, by omega, by go_num, HO5, HB5, HV5, hne⟩
          case measure => simp [intOf]; omega
      · rw [show (true || q) = true from rfl, if_pos rfl, List.append_nil] at hsn
        go_wp2_with (first
          | (go_at_call 27; with_reducible refine (h1.out _).mono ?_; rintro e w4 ⟨rfl, hb4⟩
             have HO5 := Lib.hid (own_below hown.out hb4)
             have HV5 := Lib.hid (own_below hv3.out hb4)
             have HB5 := Lib.hid (Base.below_step hbr.out hb4)
             clear hck hb4))
        rw [← hsn.out] at HO5
        go_roundw
        case rel => exact ⟨k + 1, by omega, by go_num, HO5, HB5, HV5, hne⟩
        case measure => simp [intOf]; omega
    · obtain rfl : k = L.length := by omega
      have ho := hown.out
      rw [List.take_of_length_le (Nat.le_refl _)] at ho
      obtain ⟨a5, c5, rfl, hS5⟩ := Strs.of_own ho
      have HS5 : Hid (Strs wr a5 (names ++ L.filter (fun s => !stays s)).length (names ++ L.filter (fun s => !stays s))) := Lib.hid (by rw [List.length_append]; exact hS5)
      have HW5 := Lib.hid (HWO.out wr a5 c5 hbr.out HS5.out)
      rw [List.length_append, show names.length = 9 from rfl] at HW5
      clear ho hown hS5
      go_wp2_with (first
        | (go_at_call 28; with_reducible refine HW5.out.mono ?_; rintro e w6 ⟨d, k6, c6, rfl, rfl, hF6, hb6, ho6⟩))
      go_ret
      exact ⟨d, c6, rfl, hF6, Base.below_step hbr.out hb6, own_lower ho6 hbr.out.size⟩

/-- Fields behind fields, copied. -/
theorem behind_any (a : Option Addr) (n cap : Nat) (fs : List Fld) (b : Option Addr) (m cap2 : Nat) (gs : List Fld) (w : World) (hv : Flds w a n fs) (hu : Flds w b m gs) (hn : n ≤ 1000000000) (hm : m ≤ 1000000000) :
    Calls Tryd.prog 29 #[.slice a n cap, .slice b m cap2] w fun e w' => ∃ d c, e = .returned (.slice d (n + m) c) ∧ Flds w' d (n + m) (fs ++ gs) ∧ Below w.heap.size w w' ∧ w'.ownsRow w.heap.size 28 2 (.slice d (n + m) c) (n + m) (cells (fs ++ gs)) := by
  have HV := Lib.hid hv; have HU := Lib.hid hu
  have HL := Lib.hid (show (cells fs).length = n * 2 by rw [cells_length, hv.1])
  have HM := Lib.hid (show (cells gs).length = m * 2 by rw [cells_length, hu.1])
  clear hv hu
  obtain ⟨i0, hi, hz0, hz1, hz2⟩ := info_parts field_info
  have G1 := Lib.hid hi; have G2 := Lib.hid hz0; have G3 := Lib.hid hz1; have G4 := Lib.hid hz2
  clear hi hz0 hz1 hz2
  go_enter Tryd.func29, Tryd.ntmps29
  go_wp2_with (first
    | (at_builtin; refine App.wpList_append_list _ rfl _ _ 22 rfl w.heap.size 28 i0 (.agg #[.string ByteArray.empty, .string ByteArray.empty]) 2 32 Tryd.underlying22 G1.out G2.out G3.out G4.out rfl (by decide) _ n (cells fs) rfl HO1.out b m cap2 (cells gs) rfl HM.out (cells_here (HU.out.below HB1.out)) (cells_one gs) (by unfold maxLen; omega) (by omega) HB1.out.size ?_
       intro v2 w2 ho2 hg2 _ _
       have HB2 := Lib.hid (HB1.out.grown hg2 HB1.out.size (fun k hk => (HO1.out.lt k hk).1))
       rw [← cells_append] at ho2
       have HO2 := Lib.hid ho2
       obtain ⟨d, c, rfl, hF⟩ := Flds.of_own ho2
       have HF := Lib.hid hF
       clear ho2 hg2 hF)
    | (at_builtin; refine App.wpList_append_list _ rfl _ _ 22 rfl w.heap.size 28 i0 (.agg #[.string ByteArray.empty, .string ByteArray.empty]) 2 32 Tryd.underlying22 G1.out G2.out G3.out G4.out rfl (by decide) _ 0 [] rfl (World.ownsRow_nil _ _ _ _) a n cap (cells fs) rfl HL.out (cells_here HV.out) (cells_one fs) (by unfold maxLen; omega) (by omega) (Nat.le_refl _) ?_
       intro v1 w1 ho1 hg1 _ _
       have HB1 := Lib.hid ((Below.refl w.heap.size w).grown hg1 (Nat.le_refl _) (by intro k hk; cases hk))
       rw [Nat.zero_add, List.nil_append] at ho1
       have HO1 := Lib.hid ho1
       clear ho1 hg1))
  go_ret
  exact ⟨d, c, rfl, HF.out, HB2.out, HO2.out⟩
theorem flds_one (w : World) (t : TypeId) (n v : ByteArray) : Flds (w.alloc (.cells #[.string n, .string v] t)) (some ⟨w.heap.size, 0, none⟩) 1 [(n, v)] := by
  refine Flds.of_cells rfl (by simp) fun j hj => ?_
  rw [cell_of_row _ _ j _ t (0, 0) (heap_alloc_new w _)]
  rcases (by omega : j = 0 ∨ j = 1) with rfl | rfl <;> rfl
theorem via_any (a : Option Addr) (n cap : Nat) (fs : List Fld) (name : ByteArray) (w : World) (hv : Flds w a n fs) (hn : n ≤ 1000000000) (hs : name.size ≤ 1000000000) :
    Calls Tryd.prog 11 #[.slice a n cap, .string name] w fun e w' => ∃ d c, e = .returned (.slice d (n + 1) c) ∧ Flds w' d (n + 1) (via fs name) ∧ Below w.heap.size w w' ∧ w'.ownsRow w.heap.size 28 2 (.slice d (n + 1) c) (n + 1) (cells (via fs name)) := by
  have hz : ¬ 9223372036854775807 < (⟨#[49, 46, 49, 32]⟩ : ByteArray).size + name.size := by show ¬ _ < 4 + name.size; omega
  obtain ⟨x, hx⟩ : ∃ x, (⟨#[49, 46, 49, 32]⟩ : ByteArray) ++ name = x := ⟨_, rfl⟩
  have hvi : via fs name = fs ++ [(⟨#[86, 105, 97]⟩, x)] := by rw [← hx]; rfl
  rw [hvi]
  have HB := Lib.hid (fun (w' : World) (t : TypeId) (hb : w' = w.alloc (.cells #[.string ⟨#[86, 105, 97]⟩, .string x] t)) => behind_any a n cap fs (some ⟨w.heap.size, 0, none⟩) 1 1 [(⟨#[86, 105, 97]⟩, x)] w' (hv.below (by rw [hb]; exact (Below.refl _ _).alloc (Nat.le_refl _) _)) (by rw [hb]; exact flds_one _ _ _ _) hn (by decide))
  clear hv hvi
  go_enter Tryd.func11, Tryd.ntmps11
  go_wp2_with (first
    | (go_at_call 29; with_reducible refine (HB.out _ _ rfl).mono ?_; rintro e w2 ⟨d, c, rfl, hF, hb, ho⟩))
  go_ret
  have hb0 : Below w.heap.size w (w.alloc (.cells #[.string ⟨#[86, 105, 97]⟩, .string x] 28)) := (Below.refl _ _).alloc (Nat.le_refl _) _
  exact ⟨d, c, rfl, hF, Base.below_step hb0 hb, own_lower ho hb0.size⟩
theorem from_any (a : Option Addr) (n cap : Nat) (fs : List Fld) (ip : ByteArray) (w : World) (hv : Flds w a n fs) (hn : n ≤ 1000000000) :
    Calls Tryd.prog 13 #[.slice a n cap, .string ip] w fun e w' => ∃ d c, e = .returned (.slice d (n + 1) c) ∧ Flds w' d (n + 1) (fro fs ip) ∧ Below w.heap.size w w' ∧ w'.ownsRow w.heap.size 28 2 (.slice d (n + 1) c) (n + 1) (cells (fro fs ip)) := by
  have hvi : fro fs ip = fs ++ [(⟨#[88, 45, 70, 111, 114, 119, 97, 114, 100, 101, 100, 45, 70, 111, 114]⟩, ip)] := rfl
  rw [hvi]
  have HB := Lib.hid (fun (w' : World) (t : TypeId) (hb : w' = w.alloc (.cells #[.string ⟨#[88, 45, 70, 111, 114, 119, 97, 114, 100, 101, 100, 45, 70, 111, 114]⟩, .string ip] t)) => behind_any a n cap fs (some ⟨w.heap.size, 0, none⟩) 1 1 [(⟨#[88, 45, 70, 111, 114, 119, 97, 114, 100, 101, 100, 45, 70, 111, 114]⟩, ip)] w' (hv.below (by rw [hb]; exact (Below.refl _ _).alloc (Nat.le_refl _) _)) (by rw [hb]; exact flds_one _ _ _ _) hn (by decide))
  clear hv hvi
  go_enter Tryd.func13, Tryd.ntmps13
  go_wp2_with (first
    | (go_at_call 29; with_reducible refine (HB.out _ _ rfl).mono ?_; rintro e w2 ⟨d, c, rfl, hF, hb, ho⟩))
  go_ret
  have hb0 : Below w.heap.size w (w.alloc (.cells #[.string ⟨#[88, 45, 70, 111, 114, 119, 97, 114, 100, 101, 100, 45, 70, 111, 114]⟩, .string ip] 28)) := (Below.refl _ _).alloc (Nat.le_refl _) _
  exact ⟨d, c, rfl, hF, Base.below_step hb0 hb, own_lower ho hb0.size⟩
theorem with_any (a : Option Addr) (n cap : Nat) (fs : List Fld) (x y : ByteArray) (w : World) (hv : Flds w a n fs) (hn : n ≤ 1000000000) :
    Calls Tryd.prog 30 #[.slice a n cap, .string x, .string y] w fun e w' => ∃ d c, e = .returned (.slice d (n + 1) c) ∧ Flds w' d (n + 1) (fs ++ [(x, y)]) ∧ Below w.heap.size w w' ∧ w'.ownsRow w.heap.size 28 2 (.slice d (n + 1) c) (n + 1) (cells (fs ++ [(x, y)])) := by
  have HV := Lib.hid hv
  have HL := Lib.hid (show (cells fs).length = n * 2 by rw [cells_length, hv.1])
  clear hv
  obtain ⟨i0, hi, hz0, hz1, hz2⟩ := info_parts field_info
  have G1 := Lib.hid hi; have G2 := Lib.hid hz0; have G3 := Lib.hid hz1; have G4 := Lib.hid hz2
  clear hi hz0 hz1 hz2
  go_enter Tryd.func30, Tryd.ntmps30
  go_wp2_with (first
    | (at_builtin; refine App.wpList_append_list _ rfl _ _ 22 rfl w.heap.size 28 i0 (.agg #[.string ByteArray.empty, .string ByteArray.empty]) 2 32 Tryd.underlying22 G1.out G2.out G3.out G4.out rfl (by decide) _ n (cells fs) rfl (HO1.out.alloc (.cells #[.string x, .string y] 28)) (some ⟨w1.heap.size, 0, none⟩) 1 1 (cells [(x, y)]) rfl rfl (cells_here (flds_one w1 28 x y)) (cells_one _) (by unfold maxLen; omega) (by omega) (by have := HB1.out.size; simp; omega) ?_
       intro v2 w2 ho2 hg2 _ _
       have HB2 := Lib.hid ((HB1.out.alloc HB1.out.size (.cells #[.string x, .string y] 28)).grown hg2 (by have := HB1.out.size; simp; omega) (fun k hk => (HO1.out.lt k hk).1))
       rw [← cells_append] at ho2
       have HO2 := Lib.hid ho2
       obtain ⟨d, c, rfl, hF⟩ := Flds.of_own ho2
       have HF := Lib.hid hF
       clear ho2 hg2 hF)
    | (at_builtin; refine App.wpList_append_list _ rfl _ _ 22 rfl w.heap.size 28 i0 (.agg #[.string ByteArray.empty, .string ByteArray.empty]) 2 32 Tryd.underlying22 G1.out G2.out G3.out G4.out rfl (by decide) _ 0 [] rfl (World.ownsRow_nil _ _ _ _) a n cap (cells fs) rfl HL.out (cells_here HV.out) (cells_one fs) (by unfold maxLen; omega) (by omega) (Nat.le_refl _) ?_
       intro v1 w1 ho1 hg1 _ _
       have HB1 := Lib.hid ((Below.refl w.heap.size w).grown hg1 (Nat.le_refl _) (by intro k hk; cases hk))
       rw [Nat.zero_add, List.nil_append] at ho1
       have HO1 := Lib.hid ho1
       clear ho1 hg1))
  go_ret
  exact ⟨d, c, rfl, HF.out, HB2.out, HO2.out⟩
theorem rvia_any (a : Option Addr) (n cap : Nat) (fs : List Fld) (name : ByteArray) (w : World) (hv : Flds w a n fs) (hn : n ≤ 1000000000) (hs : name.size ≤ 1000000000) :
    Calls Tryd.prog 12 #[.slice a n cap, .string name] w fun e w' => ∃ d c, e = .returned (.slice d (n + 1) c) ∧ Flds w' d (n + 1) (via fs name) ∧ Below w.heap.size w w' := by
  have hz : ¬ 9223372036854775807 < (⟨#[49, 46, 49, 32]⟩ : ByteArray).size + name.size := by show ¬ _ < 4 + name.size; omega
  obtain ⟨x, hx⟩ : ∃ x, (⟨#[49, 46, 49, 32]⟩ : ByteArray) ++ name = x := ⟨_, rfl⟩
  have hvi : via fs name = fs ++ [(⟨#[86, 105, 97]⟩, x)] := by rw [← hx]; rfl
  rw [hvi]
  have HB := Lib.hid (with_any a n cap fs ⟨#[86, 105, 97]⟩ x w hv hn)
  clear hv hvi
  go_enter Tryd.func12, Tryd.ntmps12
  go_wp2_with (first
    | (go_at_call 30; with_reducible refine HB.out.mono ?_; rintro e w2 ⟨d, c, rfl, hF, hb, ho⟩))
  go_ret
  exact ⟨d, c, rfl, hF, hb⟩
theorem rfrom_any (a : Option Addr) (n cap : Nat) (fs : List Fld) (ip : ByteArray) (w : World) (hv : Flds w a n fs) (hn : n ≤ 1000000000) :
    Calls Tryd.prog 14 #[.slice a n cap, .string ip] w fun e w' => ∃ d c, e = .returned (.slice d (n + 1) c) ∧ Flds w' d (n + 1) (fro fs ip) ∧ Below w.heap.size w w' := by
  have hvi : fro fs ip = fs ++ [(⟨#[88, 45, 70, 111, 114, 119, 97, 114, 100, 101, 100, 45, 70, 111, 114]⟩, ip)] := rfl
  rw [hvi]
  have HB := Lib.hid (with_any a n cap fs ⟨#[88, 45, 70, 111, 114, 119, 97, 114, 100, 101, 100, 45, 70, 111, 114]⟩ ip w hv hn)
  clear hv hvi
  go_enter Tryd.func14, Tryd.ntmps14
  go_wp2_with (first
    | (go_at_call 30; with_reducible refine HB.out.mono ?_; rintro e w2 ⟨d, c, rfl, hF, hb, ho⟩))
  go_ret
  exact ⟨d, c, rfl, hF, hb⟩
end code
end Go.Proofs.YtoackhbkngfhkaaDoor.Hop
