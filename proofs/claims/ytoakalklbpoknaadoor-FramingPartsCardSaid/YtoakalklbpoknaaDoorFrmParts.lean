/-
  Layer 10 (framing): the walk of FramingParts: it returns true, and writes nothing that was there. (Printed by tools/gen_frmparts.py.)
-/
import Derived.Test.YtoakalklbpoknaaDoorFrmTells
import Derived.Test.YtoakalklbpoknaaDoorHelpSmall
import Derived.Maps.AppendAt
namespace Go.Proofs.YtoakalklbpoknaaDoor.Frm
open Go.RowKit Base Txt

theorem te_at (r : Nat) (hr : r < 8) : ∃ X : ByteArray, X.size ≤ 20 ∧ ∀ w : World, (w.alloc (.cells #[.string ⟨#[99, 104, 117, 110, 107, 101, 100]⟩, .string ⟨#[67, 72, 85, 78, 75, 69, 68]⟩, .string ⟨#[103, 122, 105, 112]⟩, .string ⟨#[32, 99, 104, 117, 110, 107, 101, 100, 32]⟩, .string ⟨#[11, 99, 104, 117, 110, 107, 101, 100, 12]⟩, .string ⟨#[103, 122, 105, 112, 44, 99, 104, 117, 110, 107, 101, 100]⟩, .string ⟨#[]⟩, .string ⟨#[105, 100, 101, 110, 116, 105, 116, 121, 32, 44, 32, 99, 104, 117, 110, 107, 101, 100]⟩] 9)).cell? ⟨w.heap.size, r, none⟩ = some (.string X) := by
  rcases (by omega : r = 0 ∨ r = 1 ∨ r = 2 ∨ r = 3 ∨ r = 4 ∨ r = 5 ∨ r = 6 ∨ r = 7) with rfl | rfl | rfl | rfl | rfl | rfl | rfl | rfl
  all_goals
    refine ⟨_, ?_, fun w => (cell_of_row (w.alloc _) w.heap.size _ _ _ (0, 0) (heap_alloc_new w _)).trans rfl⟩
    decide
theorem cl_at (r : Nat) (hr : r < 10) : ∃ X : ByteArray, X.size ≤ 20 ∧ ∀ w : World, (w.alloc (.cells #[.string ⟨#[53]⟩, .string ⟨#[48, 53]⟩, .string ⟨#[54]⟩, .string ⟨#[43, 53]⟩, .string ⟨#[43, 43, 53]⟩, .string ⟨#[53, 44, 53]⟩, .string ⟨#[53, 32, 44, 32, 53]⟩, .string ⟨#[]⟩, .string ⟨#[45, 49]⟩, .string ⟨#[120]⟩] 9)).cell? ⟨w.heap.size, r, none⟩ = some (.string X) := by
  rcases (by omega : r = 0 ∨ r = 1 ∨ r = 2 ∨ r = 3 ∨ r = 4 ∨ r = 5 ∨ r = 6 ∨ r = 7 ∨ r = 8 ∨ r = 9) with rfl | rfl | rfl | rfl | rfl | rfl | rfl | rfl | rfl | rfl
  all_goals
    refine ⟨_, ?_, fun w => (cell_of_row (w.alloc _) w.heap.size _ _ _ (0, 0) (heap_alloc_new w _)).trans rfl⟩
    decide
theorem own_grown {w w' : World} {row : Option Nat} {base : Nat} {e : TypeId} {size : Nat} {v : Value} {n : Nat} {xs : List Value} (h : w.ownsRow base e size v n xs) (hg : w.grownBy w' row) (hne : ∀ g, v.ownBlock = some g → row ≠ some g) : w'.ownsRow base e size v n xs := by
  refine ⟨h.1, ?_⟩
  rcases h.2 with h0 | ⟨g, cap, cur, rfl, hb, hh, h1, h2, h3, h4⟩
  · exact .inl h0
  · refine .inr ⟨g, cap, cur, rfl, hb, ?_, h1, h2, h3, h4⟩
    have hlt : g < w.heap.size := by
      rcases Nat.lt_or_ge g w.heap.size with hlt | hge
      · exact hlt
      · rw [Array.getElem?_eq_none hge] at hh; cases hh
    rw [hg.block g hlt (fun e => hne g rfl e.symm)]
    exact hh
theorem own_lt {w : World} {base : Nat} {e : TypeId} {size : Nat} {v : Value} {n : Nat} {xs : List Value} (h : w.ownsRow base e size v n xs) (g : Nat) (hg : v.ownBlock = some g) : g < w.heap.size := by
  rcases h.2 with ⟨rfl, _⟩ | ⟨g', cap, cur, rfl, hb, hh, _⟩
  · simp [Value.ownBlock] at hg
  · simp [Value.ownBlock] at hg
    subst hg
    rcases Nat.lt_or_ge g' w.heap.size with hlt | hge
    · exact hlt
    · rw [Array.getElem?_eq_none hge] at hh; cases hh
theorem news_two (w : World) (o : Obj) (v : Value) (t : TypeId) : ∀ (j : Nat) (u : Value), [v][j]? = some u → ((w.alloc o).alloc (.cells #[v] t)).cell? (Addr.add ⟨w.heap.size + 1, 0, none⟩ j) = some u := by
  have h := news_one (w.alloc o) v t
  have e : (w.alloc o).heap.size = w.heap.size + 1 := by simp
  rw [e] at h
  exact h
theorem text_one (X : ByteArray) : ∀ u ∈ [Value.string X], u.oneCell' = true := by
  intro u hu
  obtain rfl : u = .string X := by simpa using hu
  rfl

section code
set_option maxHeartbeats 8000000
set_option maxRecDepth 100000
attribute [local go_sem] Base.some_undef
theorem framingParts_any (a0 : Option Addr) (n0 cap0 : Nat) (vals : List ByteArray) (a1 : Option Addr) (n1 cap1 : Nat) (bs : List UInt8) (a k : Nat) (most : Int) (w : World)
    (hv0 : Strs w a0 n0 vals) (hv1 : Nums .u8 w a1 n1 (nums bs)) (ha : a < 4294967296) (hk : k < 256) (hmost : most ≤ 9223372036854775807) :
    Calls Tryd.prog 4 #[.slice a0 n0 cap0, .slice a1 n1 cap1, .int .u32 a, .int .u8 k, .int .i64 most] w fun e w' => e = .returned (.bool true) ∧ Below w.heap.size w w' := by
  have HV0 := Lib.hid hv0
  have HV1 := Lib.hid hv1
  have HSm := Lib.hid (fun w' hb => small_any a0 n0 cap0 vals w' (HV0.out.below (w' := w') hb))
  have hF := small_spec (ss := vals)
  have HL0 := Lib.hid hv0.1
  have HL1 := Lib.hid (show bs.length = n1 by have := hv1.1; rwa [nums, List.length_map] at this)
  clear hv0 hv1
  generalize smallOf vals = ok at *
  cases ok with
  | false =>
    clear hF
    go_enter Tryd.func4, Tryd.ntmps4
    go_wp2_with (first
      | (go_at_call 18; (with_reducible refine (HSm.out _ HB1.out).mono ?_); rintro e w2 ⟨rfl, hw⟩; rw [hw]; clear hw)
      | (go_at_call 8; (with_reducible refine (known_any _).mono ?_); rintro e w1 ⟨rfl, hb⟩
         have HB1 := Lib.hid hb
         clear hb))
    go_ret
    exact ⟨rfl, HB1.out⟩
  | true =>
  obtain ⟨hF1, hF2⟩ := hF rfl
  rcases Nat.lt_or_ge 6 n1 with c1 | c1
  · have d1 : (6 : Int) < (n1 : Int) := by omega
    clear hF1 hF2 c1
    go_enter Tryd.func4, Tryd.ntmps4
    go_wp2_with (first
      | (go_at_call 18; (with_reducible refine (HSm.out _ HB1.out).mono ?_); rintro e w2 ⟨rfl, hw⟩; rw [hw]; clear hw)
      | (go_at_call 8; (with_reducible refine (known_any _).mono ?_); rintro e w1 ⟨rfl, hb⟩
         have HB1 := Lib.hid hb
         clear hb))
    go_ret
    exact ⟨rfl, HB1.out⟩
  have d1 : ¬ (6 : Int) < (n1 : Int) := by omega
  rw [HL0.out] at hF1
  have HRM := Lib.hid (show room vals ≤ 1000000000 by
    have h1 := room_le vals 60 hF2
    rw [HL0.out] at h1
    have h2 : n0 * (60 + 1) ≤ 12 * 61 := Nat.mul_le_mul (by omega) (by omega)
    omega)
  have HPr := Lib.hid (fun w => Seat.profile_any a k ha hk w)
  have hp1 := Seat.seatP_lt a k
  generalize Seat.seatP a k = P1 at *
  have HO2 := Lib.hid (fun w b (hi : Ints w b 2 [24, 23]) => Qk.rof_any b 2 2 [24, 23] w hi (by decide))
  have HO3 := Lib.hid (fun w b (hi : Ints w b 1 [25]) => Qk.rof_any b 1 1 [25] w hi (by decide))
  have HO4 := Lib.hid (fun w b (hi : Ints w b 2 [26, 24]) => Qk.rof_any b 2 2 [26, 24] w hi (by decide))
  have HO5 := Lib.hid (fun w b (hi : Ints w b 2 [18, 17]) => Qk.rof_any b 2 2 [18, 17] w hi (by decide))
  have hp2 := Qk.ofL_lt [24, 23]
  have hp3 := Qk.ofL_lt [25]
  have hp4 := Qk.ofL_lt [26, 24]
  have hp5 := Qk.ofL_lt [18, 17]
  generalize Qk.ofL [24, 23] = P2 at *
  generalize Qk.ofL [25] = P3 at *
  generalize Qk.ofL [26, 24] = P4 at *
  generalize Qk.ofL [18, 17] = P5 at *
  have HQ : Hid (∀ j, j < 6 → ([0, P1, P2, P3, P4, P5][j]?.getD 0) < 4294967296) := Lib.hid fun j hj => by
    rcases (by omega : j = 0 ∨ j = 1 ∨ j = 2 ∨ j = 3 ∨ j = 4 ∨ j = 5) with rfl | rfl | rfl | rfl | rfl | rfl
    · show 0 < 4294967296; decide
    · show P1 < 4294967296; omega
    · show P2 < 4294967296; omega
    · show P3 < 4294967296; omega
    · show P4 < 4294967296; omega
    · show P5 < 4294967296; omega
  have HMM : Hid (∀ j, j < 3 → ([most, 5, 100][j]?.getD 0) ≤ 9223372036854775807) := Lib.hid fun j hj => by
    rcases (by omega : j = 0 ∨ j = 1 ∨ j = 2) with rfl | rfl | rfl
    · exact hmost
    · show (5 : Int) ≤ 9223372036854775807; decide
    · show (100 : Int) ≤ 9223372036854775807; decide
  obtain ⟨i0, hi, hz0, hz1, hz2⟩ := info_parts text_info
  have G1 := Lib.hid hi; have G2 := Lib.hid hz0; have G3 := Lib.hid hz1; have G4 := Lib.hid hz2
  clear hi hz0 hz1 hz2 hF1 hF2 ha hk hp1 hp2 hp3 hp4 hp5 hmost
  go_enter Tryd.func4, Tryd.ntmps4
  go_wp2_with (first
    | (go_at_call 18; (with_reducible refine (HSm.out _ HB1.out).mono ?_); rintro e w2 ⟨rfl, hw⟩; rw [hw]; clear hw)
    | (go_at_call 8; (with_reducible refine (known_any _).mono ?_); rintro e w1 ⟨rfl, hb⟩
       have HB1 := Lib.hid hb
       clear hb))
  clear HSm
  go_loopw [11, 12, 13] (fun v u i wr => ∃ (j : Nat) (Ls Ms : List ByteArray), j ≤ n1 ∧ i = .int .i64 j ∧ Hid (Ls.length = j ∧ Ms.length = j) ∧ Hid ((∀ x ∈ Ls, x.size ≤ 20) ∧ ∀ x ∈ Ms, x.size ≤ 20)
    ∧ Hid (wr.ownsRow w.heap.size 9 1 v j (Ls.map Value.string)) ∧ Hid (wr.ownsRow w.heap.size 9 1 u j (Ms.map Value.string)) ∧ Hid (∀ g, v.ownBlock = some g → u.ownBlock ≠ some g) ∧ Hid (Below w.heap.size w wr)) (fun _ _ i _ => n1 - (intOf i).toNat)
  case atStart => exact ⟨0, [], [], Nat.zero_le _, rfl, Lib.hid ⟨rfl, rfl⟩, Lib.hid ⟨fun _ h => absurd h List.not_mem_nil, fun _ h => absurd h List.not_mem_nil⟩, Lib.hid ⟨rfl, .inl ⟨rfl, rfl⟩⟩, Lib.hid ⟨rfl, .inl ⟨rfl, rfl⟩⟩, Lib.hid (fun g h => by simp [Value.ownBlock] at h), HB1⟩
  case round =>
    obtain ⟨j, Ls, Ms, hj, rfl, HLn, HLz, hown1, hown2, hap, hbr⟩ := hrel
    rcases Nat.lt_or_ge j n1 with hlt | hge
    · have hkl : j < bs.length := by rw [HL1.out]; exact hlt
      obtain ⟨bl, off, rfl, hbl, hc⟩ := HV1.out.2 (by omega)
      have hck := hc j hlt
      rw [nums_at bs j hkl] at hck
      generalize bs[j] = x at *
      have HCk := Lib.hid (fun w' (hb : Below w.heap.size w w') => (hb.cell (p := ⟨bl, off + j, none⟩) hbl).trans hck)
      have t1 : (j : Int) < (n1 : Int) := by omega
      have hj1 : j + 1 ≤ n1 := by omega
      have hr8 : x.toNat % 8 < 8 := Nat.mod_lt _ (by decide)
      have hr10 : x.toNat % 10 < 10 := Nat.mod_lt _ (by decide)
      have him8 : Int.tmod ((x.toNat : Nat) : Int) 8 = ((x.toNat % 8 : Nat) : Int) := by rw [Int.tmod_eq_emod_of_nonneg (by omega)]; omega
      have him10 : Int.tmod ((x.toNat : Nat) : Int) 10 = ((x.toNat % 10 : Nat) : Int) := by rw [Int.tmod_eq_emod_of_nonneg (by omega)]; omega
      obtain ⟨X1, s1, h1⟩ := te_at (x.toNat % 8) hr8
      obtain ⟨X2, s2, h2⟩ := cl_at (x.toNat % 10) hr10
      obtain ⟨r1, hrr1⟩ : ∃ r, x.toNat % 8 = r := ⟨_, rfl⟩
      obtain ⟨r2, hrr2⟩ : ∃ r, x.toNat % 10 = r := ⟨_, rfl⟩
      rw [hrr1] at hr8 him8 h1
      rw [hrr2] at hr10 him10 h2
      have HH2 := Lib.hid h2
      have i8 : (r1 : Int) < 8 := by omega
      have i10 : (r2 : Int) < 10 := by omega
      have HLn2 := Lib.hid (show (Ls ++ [X1]).length = j + 1 ∧ (Ms ++ [X2]).length = j + 1 from ⟨by rw [List.length_append, HLn.out.1]; rfl, by rw [List.length_append, HLn.out.2]; rfl⟩)
      have HLz2 := Lib.hid (show (∀ y ∈ Ls ++ [X1], y.size ≤ 20) ∧ ∀ y ∈ Ms ++ [X2], y.size ≤ 20 from ⟨fun y hy => by
        rcases List.mem_append.1 hy with h | h
        · exact HLz.out.1 y h
        · obtain rfl : y = X1 := by simpa using h
          exact s1, fun y hy => by
        rcases List.mem_append.1 hy with h | h
        · exact HLz.out.2 y h
        · obtain rfl : y = X2 := by simpa using h
          exact s2⟩)
      have hcA := fun o => HCk.out _ (hbr.out.alloc hbr.out.size o)
      have hpA := h1 wr
      have HN1 := Lib.hid (news_two wr (.cells #[.string ⟨#[99, 104, 117, 110, 107, 101, 100]⟩, .string ⟨#[67, 72, 85, 78, 75, 69, 68]⟩, .string ⟨#[103, 122, 105, 112]⟩, .string ⟨#[32, 99, 104, 117, 110, 107, 101, 100, 32]⟩, .string ⟨#[11, 99, 104, 117, 110, 107, 101, 100, 12]⟩, .string ⟨#[103, 122, 105, 112, 44, 99, 104, 117, 110, 107, 101, 100]⟩, .string ⟨#[]⟩, .string ⟨#[105, 100, 101, 110, 116, 105, 116, 121, 32, 44, 32, 99, 104, 117, 110, 107, 101, 100]⟩] 9) (.string X1) 9)
      have HS1 := Lib.hid (text_one X1)
      have HS2 := Lib.hid (text_one X2)
      clear hc hkl hck hrr1 hrr2 h1 h2 s1 s2
      go_wp2_with (first
        | (at_builtin; refine wpList_append_own_at _ rfl _ _ 49 rfl w.heap.size 9 i0 (.string ByteArray.empty) 1 16 Tryd.underlying49 G1.out G2.out G3.out G4.out rfl (by decide) _ _ _ rfl ((HU5.out.alloc _).alloc _) ⟨w5.heap.size + 1, 0, none⟩ 1 1 [.string X2] rfl rfl HN2.out HS2.out (by unfold maxLen; omega) (by omega) (by have := HB5.out.size; simp; omega) ?_
           intro u' w6 hown6 hgr6 _ hloc6
           have HT6 := Lib.hid (own_grown ((HT5.out.alloc (.cells #[.string ⟨#[53]⟩, .string ⟨#[48, 53]⟩, .string ⟨#[54]⟩, .string ⟨#[43, 53]⟩, .string ⟨#[43, 43, 53]⟩, .string ⟨#[53, 44, 53]⟩, .string ⟨#[53, 32, 44, 32, 53]⟩, .string ⟨#[]⟩, .string ⟨#[45, 49]⟩, .string ⟨#[120]⟩] 9)).alloc (.cells #[.string X2] 9)) hgr6 (fun g hg => hap5.out g hg))
           have HU6 : Hid (w6.ownsRow w.heap.size 9 1 u' (j + 1) ((Ms ++ [X2]).map Value.string)) := Lib.hid (by simpa using hown6)
           have HB6 := Lib.hid (((HB5.out.alloc HB5.out.size (.cells #[.string ⟨#[53]⟩, .string ⟨#[48, 53]⟩, .string ⟨#[54]⟩, .string ⟨#[43, 53]⟩, .string ⟨#[43, 43, 53]⟩, .string ⟨#[53, 44, 53]⟩, .string ⟨#[53, 32, 44, 32, 53]⟩, .string ⟨#[]⟩, .string ⟨#[45, 49]⟩, .string ⟨#[120]⟩] 9)).alloc (by have := HB5.out.size; simp; omega) (.cells #[.string X2] 9)).grown hgr6 (by have := HB5.out.size; simp; omega) (own_base HU5.out))
           have hap6 : Hid (∀ g, v5.ownBlock = some g → u'.ownBlock ≠ some g) := Lib.hid fun g hg e => by
             rcases hloc6 with h | h
             · exact hap5.out g hg (h ▸ e)
             · have hl := own_lt HT5.out g hg
               rw [h] at e
               simp at e
               omega
           clear hown6 hgr6 hloc6)
        | (at_builtin; refine wpList_append_own_at _ rfl _ _ 49 rfl w.heap.size 9 i0 (.string ByteArray.empty) 1 16 Tryd.underlying49 G1.out G2.out G3.out G4.out rfl (by decide) _ _ _ rfl ((hown1.out.alloc _).alloc _) ⟨wr.heap.size + 1, 0, none⟩ 1 1 [.string X1] rfl rfl HN1.out HS1.out (by unfold maxLen; omega) (by omega) (by have := hbr.out.size; simp; omega) ?_
           intro v5 w5 hown5 hgr5 _ hloc5
           have HU5 := Lib.hid (own_grown ((hown2.out.alloc (.cells #[.string ⟨#[99, 104, 117, 110, 107, 101, 100]⟩, .string ⟨#[67, 72, 85, 78, 75, 69, 68]⟩, .string ⟨#[103, 122, 105, 112]⟩, .string ⟨#[32, 99, 104, 117, 110, 107, 101, 100, 32]⟩, .string ⟨#[11, 99, 104, 117, 110, 107, 101, 100, 12]⟩, .string ⟨#[103, 122, 105, 112, 44, 99, 104, 117, 110, 107, 101, 100]⟩, .string ⟨#[]⟩, .string ⟨#[105, 100, 101, 110, 116, 105, 116, 121, 32, 44, 32, 99, 104, 117, 110, 107, 101, 100]⟩] 9)).alloc (.cells #[.string X1] 9)) hgr5 (fun g hg e => hap.out g e hg))
           have HT5 : Hid (w5.ownsRow w.heap.size 9 1 v5 (j + 1) ((Ls ++ [X1]).map Value.string)) := Lib.hid (by simpa using hown5)
           have HB5 := Lib.hid (((hbr.out.alloc hbr.out.size (.cells #[.string ⟨#[99, 104, 117, 110, 107, 101, 100]⟩, .string ⟨#[67, 72, 85, 78, 75, 69, 68]⟩, .string ⟨#[103, 122, 105, 112]⟩, .string ⟨#[32, 99, 104, 117, 110, 107, 101, 100, 32]⟩, .string ⟨#[11, 99, 104, 117, 110, 107, 101, 100, 12]⟩, .string ⟨#[103, 122, 105, 112, 44, 99, 104, 117, 110, 107, 101, 100]⟩, .string ⟨#[]⟩, .string ⟨#[105, 100, 101, 110, 116, 105, 116, 121, 32, 44, 32, 99, 104, 117, 110, 107, 101, 100]⟩] 9)).alloc (by have := hbr.out.size; simp; omega) (.cells #[.string X1] 9)).grown hgr5 (by have := hbr.out.size; simp; omega) (own_base hown1.out))
           have hap5 : Hid (∀ g, v5.ownBlock = some g → u12.ownBlock ≠ some g) := Lib.hid fun g hg e => by
             rcases hloc5 with h | h
             · exact hap.out g (h ▸ hg) e
             · have hl := own_lt hown2.out g e
               rw [h] at hg
               simp at hg
               omega
           have hcB := fun o => HCk.out _ (HB5.out.alloc HB5.out.size o)
           have hpB := HH2.out w5
           have HN2 := Lib.hid (news_two w5 (.cells #[.string ⟨#[53]⟩, .string ⟨#[48, 53]⟩, .string ⟨#[54]⟩, .string ⟨#[43, 53]⟩, .string ⟨#[43, 43, 53]⟩, .string ⟨#[53, 44, 53]⟩, .string ⟨#[53, 32, 44, 32, 53]⟩, .string ⟨#[]⟩, .string ⟨#[45, 49]⟩, .string ⟨#[120]⟩] 9) (.string X2) 9)
           clear hcA hpA hown5 hgr5 hloc5))
      go_roundw
      case rel => exact ⟨j + 1, _, _, hj1, by go_num, HLn2, HLz2, HT6, HU6, hap6, HB6⟩
      case measure => simp [intOf]; omega
    · obtain rfl : j = n1 := by omega
      have HS2 := Lib.hid (Strs.of_own hown1.out)
      obtain ⟨A2, c2, rfl, hA2⟩ := HS2.out
      obtain ⟨A3, c3, rfl, hA3⟩ := Strs.of_own hown2.out
      have HA2 := Lib.hid hA2
      have HA3 := Lib.hid hA3
      have HR2 := Lib.hid (show room Ls ≤ 1000000000 by
        have h1 := Frm.room_le Ls 20 HLz.out.1
        rw [HLn.out.1] at h1
        have h2 : j * (20 + 1) ≤ 6 * 21 := Nat.mul_le_mul (by omega) (by omega)
        omega)
      have HR3 := Lib.hid (show room Ms ≤ 1000000000 by
        have h1 := Frm.room_le Ms 20 HLz.out.2
        rw [HLn.out.2] at h1
        have h2 : j * (20 + 1) ≤ 6 * 21 := Nat.mul_le_mul (by omega) (by omega)
        omega)
      clear hA2 hA3 HS2 hown1 hown2 hap HLn HLz G1 G2 G3 G4 HV1 HL1 HB1
      go_upto_region 12 with (first
        | (go_at_call 19; (with_reducible refine (HO5.out _ _ (Ints.two _ _ ?_ _ _ _)).mono ?_); (· simp); rintro e w8 ⟨rfl, hw⟩; rw [hw]; clear hw)
        | (go_at_call 19; (with_reducible refine (HO4.out _ _ (Ints.two _ _ ?_ _ _ _)).mono ?_); (· simp); rintro e w8 ⟨rfl, hw⟩; rw [hw]; clear hw)
        | (go_at_call 19; (with_reducible refine (HO3.out _ _ (Ints.one _ _ ?_ _ _)).mono ?_); (· simp); rintro e w8 ⟨rfl, hw⟩; rw [hw]; clear hw)
        | (go_at_call 19; (with_reducible refine (HO2.out _ _ (Ints.two _ _ rfl _ _ _)).mono ?_); rintro e w8 ⟨rfl, hw⟩; rw [hw]; clear hw)
        | (go_at_call 10; (with_reducible refine (HPr.out _).mono ?_); rintro e w3 ⟨rfl, hb⟩
           have HB3 := Lib.hid (Base.below_step hbr.out hb)
           have HA23 := Lib.hid (HA2.out.below hb)
           have HA33 := Lib.hid (HA3.out.below hb)
           clear hb))
      have HWP : Hid (Below w3.heap.size w3 ((((w3.alloc (.cells #[.int .i64 24, .int .i64 23] 3)).alloc (.cells #[.int .i64 25] 3)).alloc (.cells #[.int .i64 26, .int .i64 24] 3)).alloc (.cells #[.int .i64 18, .int .i64 17] 3))) := Lib.hid (((((Below.refl w3.heap.size w3).alloc (Nat.le_refl _) (.cells #[.int .i64 24, .int .i64 23] 3)).alloc (by simp) (.cells #[.int .i64 25] 3)).alloc (by simp; omega) (.cells #[.int .i64 26, .int .i64 24] 3)).alloc (by simp; omega) (.cells #[.int .i64 18, .int .i64 17] 3))
      have hsz : (((((w3.alloc (.cells #[.int .i64 24, .int .i64 23] 3)).alloc (.cells #[.int .i64 25] 3)).alloc (.cells #[.int .i64 26, .int .i64 24] 3)).alloc (.cells #[.int .i64 18, .int .i64 17] 3))).heap.size = w3.heap.size + 1 + 1 + 1 + 1 := by simp
      have hps : Hid (∀ j, j < 6 → (((((w3.alloc (.cells #[.int .i64 24, .int .i64 23] 3)).alloc (.cells #[.int .i64 25] 3)).alloc (.cells #[.int .i64 26, .int .i64 24] 3)).alloc (.cells #[.int .i64 18, .int .i64 17] 3)).alloc (.cells #[.int .u32 0, .int .u32 (P1 : Nat), .int .u32 (P2 : Nat), .int .u32 (P3 : Nat), .int .u32 (P4 : Nat), .int .u32 (P5 : Nat)] 27)).cell? ⟨w3.heap.size + 1 + 1 + 1 + 1, j, none⟩ = some (.int .u32 (([0, P1, P2, P3, P4, P5][j]?.getD 0 : Nat) : Int))) := Lib.hid fun j hj => by
        have h := u32s_at ((((w3.alloc (.cells #[.int .i64 24, .int .i64 23] 3)).alloc (.cells #[.int .i64 25] 3)).alloc (.cells #[.int .i64 26, .int .i64 24] 3)).alloc (.cells #[.int .i64 18, .int .i64 17] 3)) 27 [0, P1, P2, P3, P4, P5] j hj
        rw [hsz] at h; exact h
      have hgp : w3.heap.size + 1 + 1 + 1 + 1 < ((((((w3.alloc (.cells #[.int .i64 24, .int .i64 23] 3)).alloc (.cells #[.int .i64 25] 3)).alloc (.cells #[.int .i64 26, .int .i64 24] 3)).alloc (.cells #[.int .i64 18, .int .i64 17] 3)).alloc (.cells #[.int .u32 0, .int .u32 (P1 : Nat), .int .u32 (P2 : Nat), .int .u32 (P3 : Nat), .int .u32 (P4 : Nat), .int .u32 (P5 : Nat)] 27))).heap.size := by simp
      have HWQ : Hid (Below w3.heap.size w3 (((((w3.alloc (.cells #[.int .i64 24, .int .i64 23] 3)).alloc (.cells #[.int .i64 25] 3)).alloc (.cells #[.int .i64 26, .int .i64 24] 3)).alloc (.cells #[.int .i64 18, .int .i64 17] 3)).alloc (.cells #[.int .u32 0, .int .u32 (P1 : Nat), .int .u32 (P2 : Nat), .int .u32 (P3 : Nat), .int .u32 (P4 : Nat), .int .u32 (P5 : Nat)] 27))) := Lib.hid (HWP.out.alloc HWP.out.size _)
      have HBJ := Lib.hid (Base.below_step HB3.out HWQ.out)
      have HA2J := Lib.hid (HA23.out.below HWQ.out)
      have HA3J := Lib.hid (HA33.out.below HWQ.out)
      clear HWP HWQ HB3 HA23 HA33 HA2 HA3 hsz hbr HO2 HO3 HO4 HO5 HPr
      generalize (((((w3.alloc (.cells #[.int .i64 24, .int .i64 23] 3)).alloc (.cells #[.int .i64 25] 3)).alloc (.cells #[.int .i64 26, .int .i64 24] 3)).alloc (.cells #[.int .i64 18, .int .i64 17] 3)).alloc (.cells #[.int .u32 0, .int .u32 (P1 : Nat), .int .u32 (P2 : Nat), .int .u32 (P3 : Nat), .int .u32 (P4 : Nat), .int .u32 (P5 : Nat)] 27)) = W at *
      generalize w3.heap.size + 1 + 1 + 1 + 1 = gp at *
      go_loopw [75] (fun i wq => ∃ r : Nat, r ≤ 6 ∧ i = .int .i64 r ∧ Hid (Below W.heap.size W wq)) (fun i _ => 6 - (intOf i).toNat)
      case atStart => exact ⟨0, Nat.zero_le _, rfl, Lib.hid (Below.refl _ _)⟩
      case round =>
        obtain ⟨r, hr, rfl, hbr⟩ := hrel
        rcases Nat.lt_or_ge r 6 with hlr | hgr
        · have hcr := (hbr.out.cell (p := ⟨gp, r, none⟩) hgp).trans (hps.out r hlr)
          have hpr := HQ.out r hlr
          have hr4 : (r : Int) < 6 := by omega
          have hr5 : r + 1 ≤ 6 := by omega
          clear hlr
          generalize [0, P1, P2, P3, P4, P5][r]?.getD 0 = Q at *
          go_upto_region 15 with fail
          have HZ : Hid (∀ q, q < 3 → ∃ (az : Option Addr) (nz cz : Nat) (Z : List ByteArray), (wr.alloc (.cells #[.slice a0 n0 cap0, .slice A2 j c2, .slice A3 j c3] 49)).cell? ⟨wr.heap.size, q, none⟩ = some (.slice az nz cz) ∧ Strs (wr.alloc (.cells #[.slice a0 n0 cap0, .slice A2 j c2, .slice A3 j c3] 49)) az nz Z ∧ room Z ≤ 1000000000) := Lib.hid fun q hq => by
            have hb := (Below.refl wr.heap.size wr).alloc (Nat.le_refl _) (.cells #[.slice a0 n0 cap0, .slice A2 j c2, .slice A3 j c3] 49)
            have hv := vals_at wr 49 [.slice a0 n0 cap0, .slice A2 j c2, .slice A3 j c3] q hq
            rcases (by omega : q = 0 ∨ q = 1 ∨ q = 2) with rfl | rfl | rfl
            · exact ⟨a0, n0, cap0, vals, hv, (HV0.out.below (Base.below_step HBJ.out hbr.out)).below hb, HRM.out⟩
            · exact ⟨A2, j, c2, Ls, hv, (HA2J.out.below hbr.out).below hb, HR2.out⟩
            · exact ⟨A3, j, c3, Ms, hv, (HA3J.out.below hbr.out).below hb, HR3.out⟩
          have hgz : wr.heap.size < (wr.alloc (.cells #[.slice a0 n0 cap0, .slice A2 j c2, .slice A3 j c3] 49)).heap.size := by simp
          have HB8 := Lib.hid (hbr.out.alloc hbr.out.size (.cells #[.slice a0 n0 cap0, .slice A2 j c2, .slice A3 j c3] 49))
          clear hbr hcr
          generalize wr.alloc (.cells #[.slice a0 n0 cap0, .slice A2 j c2, .slice A3 j c3] 49) = W8 at *
          generalize wr.heap.size = gz at *
          go_loopw [84] (fun i wq => ∃ q : Nat, q ≤ 3 ∧ i = .int .i64 q ∧ Hid (Below W8.heap.size W8 wq)) (fun i _ => 3 - (intOf i).toNat)
          case atStart => exact ⟨0, Nat.zero_le _, rfl, Lib.hid (Below.refl _ _)⟩
          case round =>
            obtain ⟨q, hq, rfl, hbq⟩ := hrel
            rcases Nat.lt_or_ge q 3 with hlq | hgq
            · obtain ⟨az, nz, cz, Z, hcz, hfz, hrz⟩ := HZ.out q hlq
              have hcq := (hbq.out.cell (p := ⟨gz, q, none⟩) hgz).trans hcz
              have HFz := Lib.hid hfz
              have HRz := Lib.hid hrz
              have hq2 : (q : Int) < 3 := by omega
              have hq3 : q + 1 ≤ 3 := by omega
              clear hcz hfz hrz hlq
              have C1 := Lib.hid (fun w' hb => coding_any Q hpr az nz cz Z w' (HFz.out.below (w' := w') hb) HRz.out)
              have C2 := Lib.hid (fun w' hb => rcoding_any Q hpr az nz cz Z w' (HFz.out.below (w' := w') hb) HRz.out)
              have T1 := Lib.hid (fun ms (hms : ms ≤ 9223372036854775807) w' hb => length_any Q hpr ms hms az nz cz Z w' (HFz.out.below (w' := w') hb) HRz.out)
              have T2 := Lib.hid (fun ms (hms : ms ≤ 9223372036854775807) w' hb => rlength_any Q hpr ms hms az nz cz Z w' (HFz.out.below (w' := w') hb) HRz.out)
              generalize coding (Qk.has Q 17) (Qk.has Q 18) Z = CD at *
              go_upto_region 20 with (first
                | (go_at_call 21; (with_reducible refine (C2.out _ HBc.out).mono ?_); rintro e w10 ⟨rfl, hb⟩
                   have HBd := Lib.hid (Base.below_step HBc.out hb)
                   clear hb)
                | (go_at_call 20; (with_reducible refine (C1.out _ hbq.out).mono ?_); rintro e w9 ⟨rfl, hb⟩
                   have HBc := Lib.hid (Base.below_step hbq.out hb)
                   clear hb))
              have hms : Hid (∀ j, j < 3 → (w10.alloc (.cells #[.int .i64 most, .int .i64 5, .int .i64 100] 3)).cell? ⟨w10.heap.size, j, none⟩ = some (.int .i64 ([most, 5, 100][j]?.getD 0))) := Lib.hid fun j hj => by
                have h := vals_at w10 3 [.int .i64 most, .int .i64 5, .int .i64 100] j hj
                rcases (by omega : j = 0 ∨ j = 1 ∨ j = 2) with rfl | rfl | rfl <;> exact h
              have hgm : w10.heap.size < (w10.alloc (.cells #[.int .i64 most, .int .i64 5, .int .i64 100] 3)).heap.size := by simp
              have HBe := Lib.hid (HBd.out.alloc HBd.out.size (.cells #[.int .i64 most, .int .i64 5, .int .i64 100] 3))
              clear HBd HBc hbq hcq C1 C2
              generalize w10.alloc (.cells #[.int .i64 most, .int .i64 5, .int .i64 100] 3) = W9 at *
              generalize w10.heap.size = gm at *
              go_loopw [98] (fun i wq => ∃ s : Nat, s ≤ 3 ∧ i = .int .i64 s ∧ Hid (Below W9.heap.size W9 wq)) (fun i _ => 3 - (intOf i).toNat)
              case atStart => exact ⟨0, Nat.zero_le _, rfl, Lib.hid (Below.refl _ _)⟩
              case round =>
                obtain ⟨s, hs, rfl, hbs⟩ := hrel
                rcases Nat.lt_or_ge s 3 with hls | hgs
                · have hcs := (hbs.out.cell (p := ⟨gm, s, none⟩) hgm).trans (hms.out s hls)
                  have hmm := HMM.out s hls
                  have hs3 : (s : Int) < 3 := by omega
                  have hs4 : s + 1 ≤ 3 := by omega
                  clear hls
                  generalize [most, 5, 100][s]?.getD 0 = ms at *
                  have U1 := Lib.hid (T1.out ms hmm)
                  have U2 := Lib.hid (T2.out ms hmm)
                  generalize lengthV (Qk.has Q 23) (Qk.has Q 24) (Qk.has Q 25) (Qk.has Q 26) ms Z = LV at *
                  obtain ⟨L1, L2⟩ := LV
                  simp only at U1 U2
                  have HBr := Lib.hid (Base.below_step HBe.out hbs.out)
                  clear hmm
                  go_wp2_with (first
                    | (go_at_call 23; (with_reducible refine (U2.out _ HBr.out).mono ?_); rintro e w12 ⟨rfl, hb⟩
                       replace hbs := Lib.hid (Base.below_step hbs.out hb)
                       clear hb)
                    | (go_at_call 22; (with_reducible refine (U1.out _ HBr.out).mono ?_); rintro e w11 ⟨rfl, hb⟩
                       replace hbs := Lib.hid (Base.below_step hbs.out hb)
                       replace HBr := Lib.hid (Base.below_step HBr.out hb)
                       clear hb))
                  go_roundw
                  case rel => exact ⟨s + 1, hs4, by go_num, hbs⟩
                  case measure => simp [intOf]; omega
                · obtain rfl : s = 3 := by omega
                  have H9 := Lib.hid (Base.below_step HBe.out hbs.out)
                  clear HBe hbs hms
                  go_wp2_with fail
                  go_roundw
                  case rel => exact ⟨q + 1, hq3, by go_num, H9⟩
                  case measure => simp [intOf]; omega
            · obtain rfl : q = 3 := by omega
              have H9 := Lib.hid (Base.below_step HB8.out hbq.out)
              clear hbq HB8 HZ
              go_wp2_with fail
              go_roundw
              case rel => exact ⟨r + 1, hr5, by go_num, H9⟩
              case measure => simp [intOf]; omega
        · obtain rfl : r = 6 := by omega
          have H9 := Lib.hid (Base.below_step HBJ.out hbr.out)
          clear hbr hps
          go_wp2_with fail
          go_ret
          exact ⟨rfl, H9.out⟩
end code
end Go.Proofs.YtoakalklbpoknaaDoor.Frm
