/-
  Layer 18 (hop): the laws' known; and the law on what is added behind: HopAdds.
-/
import Derived.Test.YtoackhbkngfhkaaDoorHop
import Derived.Test.YtoackhbkngfhkaaDoorHelpFields
namespace Go.Proofs.YtoackhbkngfhkaaDoor.Hop
open Go.RowKit Base Txt Oct

theorem Flds.made (w : World) (t : TypeId) (fs : List Fld) (n : Nat) (hn : fs.length = n) (cs : Array Value) (hc : cs = (cells fs).toArray) (g : Nat) (hg : g = w.heap.size) : Flds (w.alloc (.cells cs t)) (some ⟨g, 0, none⟩) n fs := by
  subst hc hg
  refine Flds.of_cells hn (by simp) fun j hj => ?_
  rw [cell_of_row _ _ _ _ t (0, 0) (heap_alloc_new w _)]
  simp
/-- The first n of a slice of fields. -/
theorem Flds.front {w : World} {a : Option Addr} {n m : Nat} {fs gs : List Fld} (h : Flds w a (n + m) (fs ++ gs)) (hn : fs.length = n) : Flds w a n fs := by
  refine ⟨hn, fun hp => ?_⟩
  obtain ⟨b, off, e, hb, hc⟩ := h.2 (by omega)
  refine ⟨b, off, e, hb, fun k hk => ?_⟩
  have := hc k (by omega)
  rwa [List.getElem?_append_left (by omega)] at this
/-- The one behind them. -/
theorem Flds.last {w : World} {a : Option Addr} {n : Nat} {fs : List Fld} {x y : ByteArray} (h : Flds w a (n + 1) (fs ++ [(x, y)])) (hn : fs.length = n) :
    ∃ b off, a = some ⟨b, off, none⟩ ∧ w.cell? ⟨b, off + n * 2, none⟩ = some (.string x) ∧ w.cell? ⟨b, off + n * 2 + 1, none⟩ = some (.string y) := by
  obtain ⟨b, off, e, hb, hc⟩ := h.2 (by omega)
  have := hc n (by omega)
  rw [List.getElem?_append_right (by omega), show n - fs.length = 0 by omega] at this
  exact ⟨b, off, e, this.1, this.2⟩
theorem own_cap {w : World} {B n c : Nat} {a : Option Addr} {e : TypeId} {size : Nat} {xs : List Value} (h : w.ownsRow B e size (.slice a n c) n xs) : n ≤ c := by
  rcases h.2 with ⟨h, rfl⟩ | ⟨_, c', _, h, _, _, hh, _⟩
  · exact Nat.zero_le _
  · cases h; exact hh

def hopF0 : List Fld := [(conN, ⟨#[120, 44, 32, 104, 111, 115, 116]⟩), (⟨#[88]⟩, ⟨#[49]⟩), (hostN, ⟨#[97]⟩), (⟨#[116, 101]⟩, ⟨#[98]⟩), (⟨#[65]⟩, ⟨#[99]⟩)]
def hopF1 : List Fld := [(hostN, ⟨#[97]⟩), (⟨#[65]⟩, ⟨#[99]⟩)]
theorem strip0 : strip hopF0 = hopF1 := by decide +kernel

section code
set_option maxHeartbeats 4000000
set_option maxRecDepth 100000
attribute [local go_sem] Base.some_undef
theorem known_any (w : World) : Calls Tryd.prog 6 #[] w fun e w' => e = .returned (.bool true) ∧ Below w.heap.size w w' := by
  have HS : Hid (∀ t, Calls Tryd.prog 8 #[.slice (some ⟨w.heap.size, 0, none⟩) 5 5] (w.alloc (.cells #[.string ⟨#[67, 111, 110, 110, 101, 99, 116, 105, 111, 110]⟩, .string ⟨#[120, 44, 32, 104, 111, 115, 116]⟩, .string ⟨#[88]⟩, .string ⟨#[49]⟩, .string ⟨#[72, 111, 115, 116]⟩, .string ⟨#[97]⟩, .string ⟨#[116, 101]⟩, .string ⟨#[98]⟩, .string ⟨#[65]⟩, .string ⟨#[99]⟩] t)) fun e w' => ∃ d c, e = .returned (.slice d 2 c) ∧ Flds w' d 2 hopF1 ∧ Below (w.alloc (.cells #[.string ⟨#[67, 111, 110, 110, 101, 99, 116, 105, 111, 110]⟩, .string ⟨#[120, 44, 32, 104, 111, 115, 116]⟩, .string ⟨#[88]⟩, .string ⟨#[49]⟩, .string ⟨#[72, 111, 115, 116]⟩, .string ⟨#[97]⟩, .string ⟨#[116, 101]⟩, .string ⟨#[98]⟩, .string ⟨#[65]⟩, .string ⟨#[99]⟩] t)).heap.size (w.alloc (.cells #[.string ⟨#[67, 111, 110, 110, 101, 99, 116, 105, 111, 110]⟩, .string ⟨#[120, 44, 32, 104, 111, 115, 116]⟩, .string ⟨#[88]⟩, .string ⟨#[49]⟩, .string ⟨#[72, 111, 115, 116]⟩, .string ⟨#[97]⟩, .string ⟨#[116, 101]⟩, .string ⟨#[98]⟩, .string ⟨#[65]⟩, .string ⟨#[99]⟩] t)) w') := Lib.hid fun t =>
    (strip_any (some ⟨w.heap.size, 0, none⟩) 5 5 hopF0 (w.alloc (.cells #[.string ⟨#[67, 111, 110, 110, 101, 99, 116, 105, 111, 110]⟩, .string ⟨#[120, 44, 32, 104, 111, 115, 116]⟩, .string ⟨#[88]⟩, .string ⟨#[49]⟩, .string ⟨#[72, 111, 115, 116]⟩, .string ⟨#[97]⟩, .string ⟨#[116, 101]⟩, .string ⟨#[98]⟩, .string ⟨#[65]⟩, .string ⟨#[99]⟩] t)) (Flds.made w t hopF0 5 rfl _ rfl _ rfl) (by decide) (by decide) (by decide)).mono (by rintro e w' ⟨d, c, h1, h2, h3, -⟩; rw [strip0] at h1 h2; exact ⟨d, c, h1, h2, h3⟩)
  have HV := Lib.hid (fun (w' : World) (b : Option Addr) (c : Nat) (h : Flds w' b 2 hopF1) => show Calls Tryd.prog 11 #[.slice b 2 c, .string ⟨#[103, 119]⟩] w' fun e w'' => ∃ d c, e = .returned (.slice d 3 c) ∧ Flds w'' d 3 [(hostN, ⟨#[97]⟩), (⟨#[65]⟩, ⟨#[99]⟩), (⟨#[86, 105, 97]⟩, ⟨#[49, 46, 49, 32, 103, 119]⟩)] ∧ Below w'.heap.size w' w'' from
    (via_any b 2 c hopF1 ⟨#[103, 119]⟩ w' h (by decide) (by decide)).mono (by rintro e w'' ⟨d, c, h1, h2, h3, -⟩; exact ⟨d, c, h1, h2, h3⟩))
  have HR := Lib.hid (fun (w' : World) (b : Option Addr) (c : Nat) (h : Flds w' b 2 hopF1) => show Calls Tryd.prog 13 #[.slice b 2 c, .string ⟨#[49, 46, 50, 46, 51, 46, 52]⟩] w' fun e w'' => ∃ d c, e = .returned (.slice d 3 c) ∧ Flds w'' d 3 [(hostN, ⟨#[97]⟩), (⟨#[65]⟩, ⟨#[99]⟩), (⟨#[88, 45, 70, 111, 114, 119, 97, 114, 100, 101, 100, 45, 70, 111, 114]⟩, ⟨#[49, 46, 50, 46, 51, 46, 52]⟩)] ∧ Below w'.heap.size w' w'' from
    (from_any b 2 c hopF1 ⟨#[49, 46, 50, 46, 51, 46, 52]⟩ w' h (by decide)).mono (by rintro e w'' ⟨d, c, h1, h2, h3, -⟩; exact ⟨d, c, h1, h2, h3⟩))
  go_enter Tryd.func6, Tryd.ntmps6
  go_wp2_with (first
    | (go_at_call 16; with_reducible refine (names_any _).mono ?_; rintro e w4 ⟨rfl, -, hb4, -⟩)
    | (go_at_call 13; with_reducible refine (HR.out _ _ _ HF2.out).mono ?_; rintro e w3 ⟨d3, c3, rfl, hF3, hb3⟩
       obtain ⟨y1, y2, rfl, -, hc1⟩ := (HF1.out.below (Base.below_step hb2 hb3)).2 (by decide)
       obtain ⟨z1, z2, rfl, -, hc2⟩ := (HG2.out.below hb3).2 (by decide)
       obtain ⟨u1, u2, rfl, -, hc3⟩ := hF3.2 (by decide)
       have q1 : w3.cell? ⟨y1, y2, none⟩ = some (.string ⟨#[72, 111, 115, 116]⟩) := (hc1 0 (by decide)).1
       have q2 : w3.cell? ⟨z1, z2 + 2 * 2 + 1, none⟩ = some (.string ⟨#[49, 46, 49, 32, 103, 119]⟩) := (hc2 2 (by decide)).2
       have q3 : w3.cell? ⟨u1, u2 + 2 * 2, none⟩ = some (.string ⟨#[88, 45, 70, 111, 114, 119, 97, 114, 100, 101, 100, 45, 70, 111, 114]⟩) := (hc3 2 (by decide)).1
       have HB3 := Lib.hid (Base.below_step HB2.out hb3)
       clear hc1 hc2 hc3 hb2 hb3 hF3)
    | (go_at_call 11; with_reducible refine (HV.out _ _ _ HF1.out).mono ?_; rintro e w2 ⟨d2, c2, rfl, hF2, hb2⟩
       have HG2 := Lib.hid hF2
       have HF2 := Lib.hid (HF1.out.below hb2)
       have HB2 := Lib.hid (Base.below_step HB1.out hb2)
       clear hF2)
    | (go_at_call 8; with_reducible refine (HS.out _).mono ?_; rintro e w1 ⟨d1, c1, rfl, hF1, hb1⟩
       have HF1 := Lib.hid hF1
       have HB1 := Lib.hid (Base.below_step ((Below.refl w.heap.size w).alloc (Nat.le_refl _) _) hb1)
       clear hF1 hb1))
  go_ret
  exact ⟨rfl, Base.below_step HB3.out hb4⟩

theorem hopAdds_law (la : Option Addr) (ln cap : Nat) (fs : List Fld) (a b : ByteArray) (w : World) (hv : Flds w la ln fs) (hn : ln ≤ maxLen) (hz : ∀ f ∈ fs, f.1.size ≤ 140737488351232 ∧ f.2.size ≤ 140737488351232) (ha : a.size ≤ 140737488351232) (hb : b.size ≤ 140737488351232) :
    Calls Tryd.prog 5 #[.slice la ln cap, .string a, .string b] w fun e w' => e = .returned (.bool true) ∧ Below w.heap.size w w' := by
  have HV := Lib.hid hv
  have hfl := hv.1
  have HFO := Lib.hid (fun (w' : World) (h : Below w.heap.size w w') => Hp.fields_any la ln cap fs w' (hv.below h) hn hz)
  clear hz
  have e1 : wrap64 ((a.size : Int) + (b.size : Int)) = (a.size : Int) + (b.size : Int) := by unfold wrap64; omega
  by_cases hf : Hp.fieldsOk fs = true
  rotate_left
  · rw [Bool.not_eq_true] at hf
    rw [hf] at HFO
    clear hv hn e1 hf hfl
    go_enter Tryd.func5, Tryd.ntmps5
    go_wp2_with (first
      | (go_at_call 7; with_reducible refine (HFO.out _ HB1.out).mono ?_; rintro e w2 ⟨rfl, m, rfl⟩)
      | (go_at_call 6; with_reducible refine (known_any _).mono ?_; rintro e w1 ⟨rfl, hb1⟩
         have HB1 := Lib.hid hb1
         clear hb1))
    go_ret
    exact ⟨rfl, Base.below_drewN HB1.out m⟩
  have hok := Hp.fieldsOk_at hf
  rw [hf] at HFO
  rw [hv.1] at hok
  have hn20 := hok.1
  clear hn hf hok
  by_cases hs : 60 < a.size + b.size
  · have t1 : (60 : Int) < (a.size : Int) + (b.size : Int) := by omega
    clear hv hs
    go_enter Tryd.func5, Tryd.ntmps5
    go_wp2_with (first
      | (go_at_call 7; with_reducible refine (HFO.out _ HB1.out).mono ?_; rintro e w2 ⟨rfl, m, rfl⟩)
      | (go_at_call 6; with_reducible refine (known_any _).mono ?_; rintro e w1 ⟨rfl, hb1⟩
         have HB1 := Lib.hid hb1
         clear hb1))
    go_ret
    exact ⟨rfl, Base.below_drewN HB1.out m⟩
  have t1 : ¬ (60 : Int) < (a.size : Int) + (b.size : Int) := by omega
  have hz4 : ¬ 9223372036854775807 < (⟨#[49, 46, 49, 32]⟩ : ByteArray).size + a.size := by show ¬ _ < 4 + a.size; omega
  have e2 : wrap64 ((ln : Int) + 1) = (ln : Int) + 1 := by unfold wrap64; omega
  have HVI := Lib.hid (fun (w' : World) (h : Below w.heap.size w w') => via_any la ln cap fs a w' (hv.below h) (by omega) (by omega))
  have HFR := Lib.hid (fun (w' : World) (h : Below w.heap.size w w') => from_any la ln cap fs b w' (hv.below h) (by omega))
  obtain ⟨x, hx⟩ : ∃ x, (⟨#[49, 46, 49, 32]⟩ : ByteArray) ++ a = x := ⟨_, rfl⟩
  have hvi : via fs a = fs ++ [(⟨#[86, 105, 97]⟩, x)] := by rw [← hx]; rfl
  have hfr : fro fs b = fs ++ [(⟨#[88, 45, 70, 111, 114, 119, 97, 114, 100, 101, 100, 45, 70, 111, 114]⟩, b)] := rfl
  rw [hvi] at HVI
  rw [hfr] at HFR
  have HEQ := Lib.hid (fun (w' : World) (d : Option Addr) (c : Nat) (hd : Flds w' d ln fs) (h : Below w.heap.size w w') => rfields_any d ln c fs la ln cap fs w' hd (hv.below h) (by omega) (by omega))
  rw [decide_eq_true rfl] at HEQ
  have HFL := Lib.hid hfl
  clear hv hs hvi hfr hfl ha hb
  go_enter Tryd.func5, Tryd.ntmps5
  go_wp2_with (first
    | (go_at_call 9; with_reducible refine (HEQ.out _ _ _ HG6.out HB5.out).mono ?_; rintro e w6 ⟨rfl, m6, rfl⟩)
    | (go_at_call 9; with_reducible refine (HEQ.out _ _ _ HG5.out HB4.out).mono ?_; rintro e w5 ⟨rfl, m5, rfl⟩
       have HB5 := Lib.hid (Base.below_drewN HB4.out m5)
       have HG6 := Lib.hid (HF4.out.below (Base.below_drewN (Below.refl _ _) m5)))
    | (go_at_call 13; with_reducible refine (HFR.out _ HB3.out).mono ?_; rintro e w4 ⟨d4, c4, rfl, hF4, hb4, ho4⟩
       have HB4 := Lib.hid (Base.below_step HB3.out hb4)
       have HF3b := HF3.out.below hb4
       obtain ⟨b3, o3, rfl, q1, q2⟩ := Flds.last HF3b HFL.out
       obtain ⟨b4, o4, rfl, q3, q4⟩ := Flds.last hF4 HFL.out
       have HG5 := Lib.hid (Flds.front HF3b HFL.out)
       have HF4 := Lib.hid (Flds.front hF4 HFL.out)
       have k4 := own_cap ho4
       have k1 : (ln : Int) ≤ (c3 : Int) := by omega
       have k2 : (ln : Int) ≤ (c4 : Int) := by omega
       have k5 : (ln : Int) < (ln : Int) + 1 := by omega
       clear hF4 hb4 ho4 HF3b)
    | (go_at_call 11; with_reducible refine (HVI.out _ HB2.out).mono ?_; rintro e w3 ⟨d3, c3, rfl, hF3, hb3, ho3⟩
       have HB3 := Lib.hid (Base.below_step HB2.out hb3)
       have HF3 := Lib.hid hF3
       have k3 := own_cap ho3
       clear hF3 hb3 ho3)
    | (go_at_call 7; with_reducible refine (HFO.out _ HB1.out).mono ?_; rintro e w2 ⟨rfl, m2, rfl⟩
       have HB2 := Lib.hid (Base.below_drewN HB1.out m2))
    | (go_at_call 6; with_reducible refine (known_any _).mono ?_; rintro e w1 ⟨rfl, hb1⟩
       have HB1 := Lib.hid hb1
       clear hb1))
  go_ret
  exact ⟨rfl, Base.below_drewN HB4.out _⟩
end code
end Go.Proofs.YtoackhbkngfhkaaDoor.Hop
