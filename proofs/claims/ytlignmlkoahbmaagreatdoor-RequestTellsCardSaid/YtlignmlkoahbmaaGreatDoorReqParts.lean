/-
  Layer 8 (request): what parts answers: the method, the target, the version of any line as they stand.
-/
import Derived.Test.YtlignmlkoahbmaaGreatDoorReqSplit
namespace Go.Proofs.YtlignmlkoahbmaaGreatDoor.Rq
open Go.RowKit Base Txt

theorem pcs_le {p : UInt8 → Bool} {st : Bool} : ∀ (t : List UInt8) (i a : Nat) (sp : List (Nat × Nat)), pcs p st t i a = some sp → sp.length ≤ t.length + 1
  | [], i, a, sp, h => by
    simp only [pcs] at h
    split at h
    · split at h
      · cases h
      · cases h; simp
    · cases h; simp
  | x :: t, i, a, sp, h => by
    simp only [pcs] at h
    split at h
    · split at h
      · split at h
        · cases h
        · have := pcs_le t _ _ sp h; simp; omega
      · cases hq : pcs p st t (i + 1) (i + 1) with
        | none => rw [hq] at h; cases h
        | some r =>
          rw [hq] at h
          cases h
          have := pcs_le t _ _ r hq; simp; omega
    · have := pcs_le t _ _ sp h; simp; omega
theorem words_le (bl : Bool) (l : List UInt8) : (words bl l).length ≤ l.length + 1 := by
  cases bl with
  | false => exact parts_le 32 l
  | true =>
    rw [words, if_pos rfl, List.length_map]
    cases h : spans true l with
    | none => simp
    | some sp => exact pcs_le l 0 0 sp h
theorem ba_inj {a b : List UInt8} (h : ba a = ba b) : a = b := by
  have := congrArg (fun x : ByteArray => x.data.toList) h
  simpa [ba] using this
theorem mem_ba (W : List (List UInt8)) : ByteArray.empty ∈ W.map ba ↔ [] ∈ W := by
  rw [List.mem_map]
  constructor
  · rintro ⟨x, hx, e⟩
    have : x = [] := ba_inj (b := []) e
    rwa [← this]
  · intro h
    exact ⟨[], h, rfl⟩
theorem ba_getD (W : List (List UInt8)) (k : Nat) : (W.map ba)[k]?.getD ByteArray.empty = ba (W[k]?.getD []) := by
  rw [List.getElem?_map]
  cases W[k]? <;> rfl

/-- The parts out of the words: three or more. -/
theorem pick_three {c : Cl} {l : List UInt8} (h0 : [] ∉ words c.bl l) (h : ((words c.bl l).length == 3 || (decide (3 < (words c.bl l).length) && c.sp)) = true) :
    pick c l = some ((words c.bl l)[0]?.getD [], between c.bl l ((words c.bl l)[0]?.getD []) ((words c.bl l)[(words c.bl l).length - 1]?.getD []), (words c.bl l)[(words c.bl l).length - 1]?.getD []) ∧
    fits c.bl l ((words c.bl l)[0]?.getD []) ((words c.bl l)[(words c.bl l).length - 1]?.getD []) := by
  rcases words_spans c.bl l with ⟨_, h1⟩ | ⟨sp, h1, h2, _⟩
  · exact absurd h1 h0
  · rw [h2, List.length_map] at h ⊢
    have hn : 3 ≤ sp.length := by
      simp only [Bool.or_eq_true, beq_iff_eq, Bool.and_eq_true, decide_eq_true_eq] at h
      omega
    have e0 : (sp.map (ext l))[0]?.getD [] = ext l sp[0] := by rw [List.getElem?_map, List.getElem?_eq_getElem (by omega)]; rfl
    have e1 : (sp.map (ext l))[sp.length - 1]?.getD [] = ext l sp[sp.length - 1] := by rw [List.getElem?_map, List.getElem?_eq_getElem (by omega)]; rfl
    obtain ⟨m1, m2, _, _⟩ := between_mid h1 hn
    rw [e0, e1, m1]
    refine ⟨?_, m2⟩
    unfold pick
    rw [h1]
    dsimp only
    rw [if_pos h, getD_at sp 0 (by omega), getD_at sp 1 (by omega), getD_at sp _ (by omega), getD_at sp _ (by omega)]
theorem pick_two {c : Cl} {l : List UInt8} (h0 : [] ∉ words c.bl l) (h : ((words c.bl l).length == 2 && c.nv) = true) :
    pick c l = some ((words c.bl l)[0]?.getD [], (words c.bl l)[1]?.getD [], []) := by
  rcases words_spans c.bl l with ⟨_, h1⟩ | ⟨sp, h1, h2, _⟩
  · exact absurd h1 h0
  · rw [h2, List.length_map] at h
    rw [h2]
    have hn : sp.length = 2 := by
      simp only [beq_iff_eq, Bool.and_eq_true] at h
      exact h.1
    have e0 : (sp.map (ext l))[0]?.getD [] = ext l sp[0] := by rw [List.getElem?_map, List.getElem?_eq_getElem (by omega)]; rfl
    have e1 : (sp.map (ext l))[1]?.getD [] = ext l sp[1] := by rw [List.getElem?_map, List.getElem?_eq_getElem (by omega)]; rfl
    rw [e0, e1]
    unfold pick
    rw [h1]
    dsimp only
    rw [if_neg (by rw [hn]; simp), if_pos h, getD_at sp 0 (by omega), getD_at sp 1 (by omega)]
theorem pick_not {c : Cl} {l : List UInt8} (h : [] ∈ words c.bl l ∨ ((words c.bl l).length == 3 || (decide (3 < (words c.bl l).length) && c.sp)) = false ∧ ((words c.bl l).length == 2 && c.nv) = false) : pick c l = none := by
  rcases words_spans c.bl l with ⟨h1, _⟩ | ⟨sp, h1, h2, h3⟩
  · unfold pick; rw [h1]
  · rcases h with h | ⟨g1, g2⟩
    · exact absurd h h3
    · rw [h2, List.length_map] at g1 g2
      unfold pick
      rw [h1]
      dsimp only
      rw [if_neg (by rw [g1]; decide), if_neg (by rw [g2]; decide)]

/-- The parts as the program answers them. -/
def pv : Option (List UInt8 × List UInt8 × List UInt8) → Value
  | none => .tuple #[.string ⟨#[]⟩, .string ⟨#[]⟩, .string ⟨#[]⟩, .bool false]
  | some (m, t, v) => .tuple #[.string (ba m), .string (ba t), .string (ba v), .bool true]

section code
set_option maxHeartbeats 1000000
attribute [local go_sem] Base.some_undef
theorem between_ba (s : ByteArray) (x y : List UInt8) (p : Nat) (hp : p < 4294967296) (w : World) (hs : s.size ≤ 1000000000) (hf : fits (Qk.has p 3) s.data.toList x y) :
    Calls Tryz.prog 28 #[.string s, .string (ba x), .string (ba y), .int .u32 (p : Nat)] w fun e w' => e = .returned (.string (ba (between (Qk.has p 3) s.data.toList x y))) ∧ w' = w :=
  between_any s (ba x) (ba y) p hp w hs hf
set_option maxRecDepth 10000 in
theorem parts_any (s : ByteArray) (p : Nat) (hp : p < 4294967296) (w : World) (hs : s.size ≤ 900000000) : Calls Tryz.prog 15 #[.string s, .int .u32 (p : Nat)] w fun e w' =>
    e = .returned (pv (pick (clOf p) s.data.toList)) ∧ Below w.heap.size w w' := by
  have HS := Lib.hid (fun w => split_any s p hp w (by omega))
  have H7 := Lib.hid (fun w => Qk.has_any p hp 7 w)
  have H6 := Lib.hid (fun w => Qk.has_any p hp 6 w)
  have hwl := words_le (Qk.has p 3) s.data.toList
  rw [len] at hwl
  have hC : ∀ r : Bool, (r = true ↔ [] ∈ words (Qk.has p 3) s.data.toList) → Hid (∀ w a n c, Strs w a n ((words (Qk.has p 3) s.data.toList).map ba) → n ≤ 900000001 → Calls Tryz.prog 26 #[.slice a n c, .string ⟨#[]⟩] w fun e w' => e = .returned (.bool r) ∧ w' = w) :=
    fun r hr => Lib.hid fun w a n c hv hn => contains_any a n c _ ByteArray.empty r (by rw [mem_ba]; exact hr) w hv (by unfold maxLen; omega)
  by_cases h0 : [] ∈ words (Qk.has p 3) s.data.toList
  · rw [pick_not (c := clOf p) (.inl h0)]
    have HC := hC true ⟨fun _ => h0, fun _ => rfl⟩
    clear hC h0 H7 H6
    generalize words (Qk.has p 3) s.data.toList = W at *
    go_enter Tryz.func15, Tryz.ntmps15
    go_wp2_with (first
      | (go_at_call 25; with_reducible refine (HS.out _).mono ?_; rintro e w1 ⟨a, n, c, rfl, rfl, hO, hb⟩)
      | (go_at_call 26; with_reducible refine (HC.out _ _ _ _ hO (by omega)).mono ?_; rintro e w2 ⟨rfl, hw⟩; rw [hw]; clear hw))
    exact bodyPost_ret (v := .tuple #[.string ⟨#[]⟩, .string ⟨#[]⟩, .string ⟨#[]⟩, .bool false]) (by simp [results, Tryz.results15, go_sem]) rfl ⟨rfl, hb⟩
  · have HC := hC false ⟨fun h => by (cases h), fun h => absurd h h0⟩
    clear hC
    by_cases h3 : ((words (Qk.has p 3) s.data.toList).length == 3 || (decide (3 < (words (Qk.has p 3) s.data.toList).length) && Qk.has p 7)) = true
    · obtain ⟨hpk, hf⟩ := pick_three (c := clOf p) h0 h3
      have hpk' : pick (clOf p) s.data.toList = some ((words (Qk.has p 3) s.data.toList)[0]?.getD [], between (Qk.has p 3) s.data.toList ((words (Qk.has p 3) s.data.toList)[0]?.getD []) ((words (Qk.has p 3) s.data.toList)[(words (Qk.has p 3) s.data.toList).length - 1]?.getD []), (words (Qk.has p 3) s.data.toList)[(words (Qk.has p 3) s.data.toList).length - 1]?.getD []) := hpk
      rw [hpk']
      clear hpk hpk'
      have HB := Lib.hid (fun w => between_ba s ((words (Qk.has p 3) s.data.toList)[0]?.getD []) ((words (Qk.has p 3) s.data.toList)[(words (Qk.has p 3) s.data.toList).length - 1]?.getD []) p hp w (by omega) hf)
      have hX : Hid (∀ w a n, Strs w a n ((words (Qk.has p 3) s.data.toList).map ba) → 0 < n → ∃ b off, a = some ⟨b, off, none⟩ ∧ w.cell? ⟨b, off, none⟩ = some (.string (ba ((words (Qk.has p 3) s.data.toList)[0]?.getD []))) ∧ w.cell? ⟨b, off + (n - 1), none⟩ = some (.string (ba ((words (Qk.has p 3) s.data.toList)[(words (Qk.has p 3) s.data.toList).length - 1]?.getD [])))) := Lib.hid fun w a n hv hn => by
        obtain ⟨b, off, e, _, hc⟩ := hv.2 hn
        have hl := hv.1
        rw [List.length_map] at hl
        have c0 := hc 0 hn
        have c1 := hc (n - 1) (by omega)
        rw [ba_getD] at c0 c1
        rw [hl]
        exact ⟨b, off, e, c0, c1⟩
      clear hf h0
      generalize between (Qk.has p 3) s.data.toList ((words (Qk.has p 3) s.data.toList)[0]?.getD []) ((words (Qk.has p 3) s.data.toList)[(words (Qk.has p 3) s.data.toList).length - 1]?.getD []) = T at *
      obtain ⟨x0, hx0⟩ : ∃ x0, (words (Qk.has p 3) s.data.toList)[0]?.getD [] = x0 := ⟨_, rfl⟩
      obtain ⟨x1, hx1⟩ : ∃ x1, (words (Qk.has p 3) s.data.toList)[(words (Qk.has p 3) s.data.toList).length - 1]?.getD [] = x1 := ⟨_, rfl⟩
      rw [hx0, hx1] at hX HB ⊢
      clear hx0 hx1
      generalize words (Qk.has p 3) s.data.toList = W at *
      obtain ⟨n, hn⟩ : ∃ n, W.length = n := ⟨_, rfl⟩
      rw [hn] at h3 hwl HS
      clear hn
      have h3' : n = 3 ∨ (¬ (n : Int) = 3 ∧ (3 : Int) < (n : Int) ∧ Qk.has p 7 = true) := by
        simp only [Bool.or_eq_true, beq_iff_eq, Bool.and_eq_true, decide_eq_true_eq] at h3
        rcases h3 with h | ⟨h1, h2⟩
        · exact .inl h
        · exact .inr ⟨by omega, by omega, h2⟩
      clear h3
      rcases h3' with rfl | ⟨g1, g2, g3⟩
      · have i0 : 0 < 3 := by omega
        have i1 : IntKind.i64.wrap ((3 : Int) - 1) = 2 := by decide
        go_enter Tryz.func15, Tryz.ntmps15
        go_wp2_with (first
          | (go_at_call 25; with_reducible refine (HS.out _).mono ?_; rintro e w1 ⟨a, m, c, rfl, rfl, hO, hb⟩; obtain ⟨b, off, rfl, c0, c1⟩ := hX.out _ _ _ hO (by omega))
          | (go_at_call 26; with_reducible refine (HC.out _ _ _ _ hO (by omega)).mono ?_; rintro e w2 ⟨rfl, hw⟩; rw [hw]; clear hw))
        go_quiet (first | (go_at_call 28; exact Calls.quiet_of_same (HB.out _)))
        rename_i nq
        go_wp2
        exact bodyPost_ret (v := .tuple #[.string (ba x0), .string (ba T), .string (ba x1), .bool true]) (by simp [results, Tryz.results15, go_sem]) rfl ⟨rfl, Base.below_drewN hb nq⟩
      · rw [g3] at H7
        clear g3
        have i0 : 0 < n := by omega
        obtain ⟨k, hk⟩ : ∃ k, n - 1 = k := ⟨_, rfl⟩
        have i1 : IntKind.i64.wrap ((n : Int) - 1) = (k : Int) := by rw [wrap_in _ (by omega) (by omega)]; omega
        have i2 : (k : Int) < (n : Int) := by omega
        have i3 : k < n := by omega
        have HK := Lib.hid hk
        clear hk
        go_enter Tryz.func15, Tryz.ntmps15
        go_wp2_with (first
          | (go_at_call 25; with_reducible refine (HS.out _).mono ?_; rintro e w1 ⟨a, m, c, rfl, rfl, hO, hb⟩; obtain ⟨b, off, rfl, c0, c1⟩ := hX.out _ _ _ hO (by omega); rw [HK.out] at c1)
          | (go_at_call 26; with_reducible refine (HC.out _ _ _ _ hO (by omega)).mono ?_; rintro e w2 ⟨rfl, hw⟩; rw [hw]; clear hw)
          | (go_at_call 27; with_reducible refine (H7.out _).mono ?_; rintro e w2 ⟨rfl, hw⟩; rw [hw]; clear hw))
        go_quiet (first | (go_at_call 28; exact Calls.quiet_of_same (HB.out _)))
        rename_i nq
        go_wp2
        exact bodyPost_ret (v := .tuple #[.string (ba x0), .string (ba T), .string (ba x1), .bool true]) (by simp [results, Tryz.results15, go_sem]) rfl ⟨rfl, Base.below_drewN hb nq⟩
    · have h3f : ((words (Qk.has p 3) s.data.toList).length == 3 || (decide (3 < (words (Qk.has p 3) s.data.toList).length) && Qk.has p 7)) = false := by simpa using h3
      clear h3
      by_cases h2 : ((words (Qk.has p 3) s.data.toList).length == 2 && Qk.has p 6) = true
      · have hpk := pick_two (c := clOf p) h0 h2
        have hpk' : pick (clOf p) s.data.toList = some ((words (Qk.has p 3) s.data.toList)[0]?.getD [], (words (Qk.has p 3) s.data.toList)[1]?.getD [], []) := hpk
        rw [hpk']
        clear hpk hpk' h3f H7 h0
        simp only [Bool.and_eq_true, beq_iff_eq] at h2
        have hX : Hid (∀ w a n, Strs w a n ((words (Qk.has p 3) s.data.toList).map ba) → 1 < n → ∃ b off, a = some ⟨b, off, none⟩ ∧ w.cell? ⟨b, off, none⟩ = some (.string (ba ((words (Qk.has p 3) s.data.toList)[0]?.getD []))) ∧ w.cell? ⟨b, off + 1, none⟩ = some (.string (ba ((words (Qk.has p 3) s.data.toList)[1]?.getD [])))) := Lib.hid fun w a n hv hn => by
          obtain ⟨b, off, e, _, hc⟩ := hv.2 (by omega)
          have c0 := hc 0 (by omega)
          have c1 := hc 1 hn
          rw [ba_getD] at c0 c1
          exact ⟨b, off, e, c0, c1⟩
        obtain ⟨x0, hx0⟩ : ∃ x0, (words (Qk.has p 3) s.data.toList)[0]?.getD [] = x0 := ⟨_, rfl⟩
        obtain ⟨x1, hx1⟩ : ∃ x1, (words (Qk.has p 3) s.data.toList)[1]?.getD [] = x1 := ⟨_, rfl⟩
        rw [hx0, hx1] at hX ⊢
        rw [h2.1] at HS
        rw [h2.2] at H6
        clear hx0 hx1 h2
        generalize words (Qk.has p 3) s.data.toList = W at *
        go_enter Tryz.func15, Tryz.ntmps15
        go_wp2_with (first
          | (go_at_call 25; with_reducible refine (HS.out _).mono ?_; rintro e w1 ⟨a, m, c, rfl, rfl, hO, hb⟩; obtain ⟨b, off, rfl, c0, c1⟩ := hX.out _ _ _ hO (by omega))
          | (go_at_call 26; with_reducible refine (HC.out _ _ _ _ hO (by omega)).mono ?_; rintro e w2 ⟨rfl, hw⟩; rw [hw]; clear hw)
          | (go_at_call 27; with_reducible refine (H6.out _).mono ?_; rintro e w2 ⟨rfl, hw⟩; rw [hw]; clear hw))
        go_quiet (fail)
        rename_i nq
        go_wp2
        exact bodyPost_ret (v := .tuple #[.string (ba x0), .string (ba x1), .string ⟨#[]⟩, .bool true]) (by simp [results, Tryz.results15, go_sem]) rfl ⟨rfl, Base.below_drewN hb nq⟩
      · have h2f : ((words (Qk.has p 3) s.data.toList).length == 2 && Qk.has p 6) = false := by simpa using h2
        rw [pick_not (c := clOf p) (.inr ⟨h3f, h2f⟩)]
        clear h2
        generalize words (Qk.has p 3) s.data.toList = W at *
        obtain ⟨n, hn⟩ : ∃ n, W.length = n := ⟨_, rfl⟩
        rw [hn] at h3f h2f hwl HS
        clear hn h0
        have h4 : (¬ (n : Int) = 3 ∧ (3 : Int) < (n : Int) ∧ ¬ (n : Int) = 2 ∧ Qk.has p 7 = false) ∨ (n = 2 ∧ Qk.has p 6 = false) ∨ (¬ (n : Int) = 3 ∧ ¬ (3 : Int) < (n : Int) ∧ ¬ (n : Int) = 2) := by
          simp only [Bool.or_eq_false_iff, Bool.and_eq_false_iff, beq_eq_false_iff_ne, decide_eq_false_iff_not] at h3f h2f
          by_cases q : 3 < n
          · exact .inl ⟨by omega, by omega, by omega, h3f.2.resolve_left fun h => h q⟩
          · by_cases q2 : n = 2
            · exact .inr (.inl ⟨q2, h2f.resolve_left fun h => h q2⟩)
            · exact .inr (.inr ⟨by omega, by omega, by omega⟩)
        clear h3f h2f
        rcases h4 with ⟨g1, g2, g3, g4⟩ | ⟨rfl, g4⟩ | ⟨g1, g2, g3⟩
        all_goals
          try rw [g4] at H7
          try rw [g4] at H6
          try clear g4
          go_enter Tryz.func15, Tryz.ntmps15
          go_wp2_with (first
            | (go_at_call 25; with_reducible refine (HS.out _).mono ?_; rintro e w1 ⟨a, m, c, rfl, rfl, hO, hb⟩)
            | (go_at_call 26; with_reducible refine (HC.out _ _ _ _ hO (by omega)).mono ?_; rintro e w2 ⟨rfl, hw⟩; rw [hw]; clear hw)
            | (go_at_call 27; with_reducible refine (H7.out _).mono ?_; rintro e w2 ⟨rfl, hw⟩; rw [hw]; clear hw)
            | (go_at_call 27; with_reducible refine (H6.out _).mono ?_; rintro e w2 ⟨rfl, hw⟩; rw [hw]; clear hw))
          exact bodyPost_ret (v := .tuple #[.string ⟨#[]⟩, .string ⟨#[]⟩, .string ⟨#[]⟩, .bool false]) (by simp [results, Tryz.results15, go_sem]) rfl ⟨rfl, hb⟩
end code
end Go.Proofs.YtlignmlkoahbmaaGreatDoor.Rq
