/-
  Layer 11 (chunk): the walk of ChunkWrites: it returns true, and writes nothing that was there.
-/
import Derived.Test.YtonedklnjkjcgaaDoorChkKnown
namespace Go.Proofs.YtonedklnjkjcgaaDoor.Chk
open Go.RowKit Base Txt

theorem chunk_le (l : List UInt8) (h : l.length ≤ 60) : (chunkL l).length ≤ 1000 := by
  by_cases h0 : l = []
  · subst h0; decide
  · rw [chunk_of l h0]
    have : (Num.spell 16 l.length).length ≤ 2 := by
      have h2 : ∀ k : Fin 61, (Num.spell 16 k.val).length ≤ 2 := by decide +kernel
      exact h2 ⟨l.length, by omega⟩
    simp only [List.length_append, List.length_cons, List.length_nil]
    omega
theorem put_le : ∀ ls : List (List UInt8), (∀ l ∈ ls, l.length ≤ 60) → (putL ls).length ≤ 1000 * ls.length + 3
  | [], _ => by decide
  | l :: ls, h => by
    have ih := put_le ls fun x hx => h x (List.mem_cons_of_mem _ hx)
    have h1 := chunk_le l (h l (by simp))
    unfold putL at ih ⊢
    rw [List.flatMap_cons]
    simp only [List.length_append, List.length_cons, List.length_nil] at ih ⊢
    omega

section code
set_option maxHeartbeats 8000000
set_option maxRecDepth 100000
attribute [local go_sem] Base.some_undef
theorem chunkWrites_any (a : Option Addr) (n cap : Nat) (ls : List (List UInt8)) (w : World) (hv : Lines w a n ls) (hn : n ≤ maxLen) (hlen : ∀ l ∈ ls, l.length ≤ maxLen) :
    Calls Tryd.prog 4 #[.slice a n cap] w fun e w' => e = .returned (.bool true) ∧ Below w.heap.size w w' := by
  unfold maxLen at hn hlen
  have HLE := Lib.hid hlen
  have HV := Lib.hid hv
  have HL := Lib.hid hv.1
  clear hlen hv
  by_cases h8 : 8 < n
  · have hi : (8 : Int) < n := by omega
    go_enter Tryd.func4, Tryd.ntmps4
    go_wp2_with (go_at_call 7; with_reducible refine (known_any _).mono ?_; rintro e w1 ⟨rfl, hb⟩)
    go_ret
    exact ⟨rfl, hb⟩
  have hi : ¬ (8 : Int) < n := by omega
  go_enter Tryd.func4, Tryd.ntmps4
  go_wp2_with (go_at_call 7; with_reducible refine (known_any _).mono ?_; rintro e w1 ⟨rfl, hb⟩
               have HB1 := Lib.hid hb
               clear hb)
  go_loopw [3] (fun i wr => ∃ k : Nat, k ≤ n ∧ i = .int .i64 k ∧ wr = w1 ∧ Hid (∀ l ∈ ls.take k, l.length ≤ 60)) (fun i _ => n - (intOf i).toNat)
  case atStart => exact ⟨0, Nat.zero_le _, rfl, rfl, Lib.hid (by simp)⟩
  case round =>
    obtain ⟨k, hk, rfl, hwr, HT⟩ := hrel
    subst hwr
    rcases Nat.lt_or_ge k n with hlt | hge
    · obtain ⟨bl, off, rfl, hbl, hc⟩ := HV.out.2 (by omega)
      obtain ⟨ak, ck, hck, _⟩ := hc k hlt
      have qc := (HB1.out.cell (p := ⟨bl, off + k, none⟩) hbl).trans hck
      have hkl : k < ls.length := by rw [HL.out]; exact hlt
      have t1 : (k : Int) < (n : Int) := by omega
      have HS : Hid ((ls[k]?.getD []).length ≤ 60 → ∀ l ∈ ls.take (k + 1), l.length ≤ 60) := Lib.hid fun h l hm => by
        rw [List.take_succ_eq_append_getElem hkl] at hm
        rcases List.mem_append.1 hm with hm | hm
        · exact HT.out l hm
        · rw [List.getElem?_eq_getElem hkl] at h
          obtain rfl : l = ls[k] := by simpa using hm
          exact h
      clear hc hck hkl
      generalize (ls[k]?.getD []).length = L at *
      by_cases h6 : 60 < L
      · have t2 : (60 : Int) < (L : Int) := by omega
        go_wp2_with fail
        go_ret
        exact ⟨rfl, HB1.out⟩
      · have t2 : ¬ (60 : Int) < (L : Int) := by omega
        have HS2 := Lib.hid (HS.out (by omega))
        clear HS
        go_wp2_with fail
        go_roundw
        case rel => first | exact ⟨k + 1, by omega, by go_num, rfl, HS2⟩ | exact ⟨k + 1, by omega, by go_num, trivial, HS2⟩
        case measure => simp [intOf]; omega
    · obtain rfl : k = n := by omega
      have hall : ∀ l ∈ ls, l.length ≤ 60 := by
        have := HT.out
        rwa [List.take_of_length_le (by rw [HL.out]; exact Nat.le_refl _)] at this
      have hz : (putL ls).length ≤ 1000000000 := by
        have := put_le ls hall
        rw [HL.out] at this
        omega
      obtain ⟨S, hS⟩ : ∃ S, ba (putL ls) = S := ⟨_, rfl⟩
      have K1 : Hid (∀ w', Below w.heap.size w w' → Calls Tryd.prog 15 #[.slice a k cap] w' fun e w2 => ∃ A c, e = .returned (.slice A (putL ls).length c) ∧ Hid (∀ u, Below w2.heap.size w2 u → (convert 22 9 (.slice A (putL ls).length c)).run Tryd.prog u = .ok (.string S) u) ∧ Below w'.heap.size w' w2) := Lib.hid fun w' hb => by
        refine (put_any a k cap ls w' (HV.out.below hb) (by unfold maxLen; omega) hz).mono ?_
        rintro e w2 ⟨A, c, rfl, hN, hb2⟩
        exact ⟨A, c, rfl, Lib.hid fun u hu => by rw [← hS]; exact Txt.conv_str u A _ c _ (hN.below hu), hb2⟩
      have K2 : Hid (∀ w', Below w.heap.size w w' → Calls Tryd.prog 16 #[.slice a k cap] w' fun e w2 => ∃ A c, e = .returned (.slice A (putL ls).length c) ∧ Hid (∀ u, Below w2.heap.size w2 u → (convert 22 9 (.slice A (putL ls).length c)).run Tryd.prog u = .ok (.string S) u) ∧ Below w'.heap.size w' w2) := Lib.hid fun w' hb => by
        refine (rput_any a k cap ls w' (HV.out.below hb) (by unfold maxLen; omega) hz).mono ?_
        rintro e w2 ⟨A, c, rfl, hN, hb2⟩
        exact ⟨A, c, rfl, Lib.hid fun u hu => by rw [← hS]; exact Txt.conv_str u A _ c _ (hN.below hu), hb2⟩
      have K3 : Hid (∀ w', Calls Tryd.prog 15 #[.slice none 0 0] w' fun e w2 => ∃ A c, e = .returned (.slice A 3 c) ∧ (convert 22 9 (.slice A 3 c)).run Tryd.prog w2 = .ok (.string ⟨#[48, 13, 10]⟩) w2 ∧ Below w'.heap.size w' w2) := Lib.hid fun w' => by
        have := put_any none 0 0 [] w' ⟨rfl, fun h => absurd h (by omega)⟩ (by decide) (by rw [k5]; decide)
        rw [k5] at this
        refine this.mono ?_
        rintro e w2 ⟨A, c, rfl, hN, hb2⟩
        exact ⟨A, c, rfl, Txt.conv_str w2 A 3 c _ hN, hb2⟩
      clear hall hz hS HV HLE HT hk hge h8 hn
      generalize (putL ls).length = LN at *
      have t1 : ¬ (k : Int) < (k : Int) := by omega
      go_upto_region 10 with fail
      go_region_with (first
        | (go_at_call 15; (with_reducible refine (K3.out _).mono ?_); rintro e w4 ⟨A3, c3, rfl, hcv3, hb⟩
           have HB4 := Lib.hid (Base.below_step HB3.out hb)
           clear hb)
        | (go_at_call 16; (with_reducible refine (K2.out _ HB2.out).mono ?_); rintro e w3 ⟨A2, c2, rfl, HC2, hb⟩
           have hcv1' := HC1.out w3 hb
           have hcv2 := HC2.out w3 (Below.refl _ _)
           have HB3 := Lib.hid (Base.below_step HB2.out hb)
           clear hb)
        | (go_at_call 15; (with_reducible refine (K1.out _ HB1.out.drew).mono ?_); rintro e w2 ⟨A1, c1, rfl, HC1, hb⟩
           have hcv1 := HC1.out w2 (Below.refl _ _)
           have HB2 := Lib.hid (Base.below_step HB1.out.drew hb)
           clear hb))
      all_goals
        go_wp2_with fail
        go_ret
        exact ⟨rfl, HB4.out⟩
end code
end Go.Proofs.YtonedklnjkjcgaaDoor.Chk
