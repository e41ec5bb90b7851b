/-
  Layer 8 (request): the document's parts of a line: the first, what is between, the last.
-/
import Derived.Test.YtlignmlkoahbmaaGreatDoorReqPieces
namespace Go.Proofs.YtlignmlkoahbmaaGreatDoor.Rq
open Go.RowKit Base Txt

/-- The document's parts as a value. -/
def rpv (bl : Bool) (l : List UInt8) : Value :=
  match spans bl l with
  | none => .tuple #[.string ⟨#[]⟩, .string ⟨#[]⟩, .string ⟨#[]⟩, .int .i64 0, .bool false]
  | some sp => if sp.length < 2 then .tuple #[.string ⟨#[]⟩, .string ⟨#[]⟩, .string ⟨#[]⟩, .int .i64 (sp.length : Nat), .bool false]
    else .tuple #[.string (ba (ext l (sp.getD 0 (0, 0)))), .string (ba (if 2 < sp.length then ext l ((sp.getD 1 (0, 0)).1, (sp.getD (sp.length - 2) (0, 0)).2) else [])), .string (ba (ext l (sp.getD (sp.length - 1) (0, 0)))), .int .i64 (sp.length : Nat), .bool true]

section code
set_option maxHeartbeats 2000000
attribute [local go_sem] Base.some_undef
set_option maxRecDepth 10000 in
theorem rparts_any (s : ByteArray) (bl : Bool) (w : World) (hs : s.size ≤ 900000000) : Calls Tryz.prog 19 #[.string s, .bool bl] w fun e w' => e = .returned (rpv bl s.data.toList) ∧ Below w.heap.size w w' := by
  have HP := Lib.hid (fun w => rpieces_any s bl w hs)
  unfold rpv
  cases hsp : spans bl s.data.toList with
  | none =>
    rw [hsp] at HP
    dsimp only at HP ⊢
    clear hsp
    go_enter Tryz.func19, Tryz.ntmps19
    go_wp2_with (go_at_call 35; with_reducible refine (HP.out _).mono ?_; rintro e w1 ⟨rfl, hb⟩)
    exact bodyPost_ret (v := .tuple #[.string ⟨#[]⟩, .string ⟨#[]⟩, .string ⟨#[]⟩, .int .i64 0, .bool false]) (by simp [results, Tryz.results19, go_sem]) rfl ⟨rfl, hb⟩
  | some sp =>
    rw [hsp] at HP
    dsimp only at HP ⊢
    have hcov := (spans_cov hsp).1
    have hle : sp.length ≤ s.size + 1 := by
      have := pcs_le _ _ _ _ (show pcs (sepB bl) (!bl) s.data.toList 0 0 = some sp from hsp)
      rwa [len] at this
    clear hsp
    rcases Nat.lt_or_ge sp.length 2 with h2 | h2
    · rw [if_pos h2]
      obtain ⟨n, hn⟩ : ∃ n, sp.length = n := ⟨_, rfl⟩
      rw [hn] at HP h2 ⊢
      have c2 : (n : Int) < 2 := by omega
      clear hcov hn hle
      go_enter Tryz.func19, Tryz.ntmps19
      go_wp2_with (go_at_call 35; with_reducible refine (HP.out _).mono ?_; rintro e w1 ⟨⟨a, c, rfl, hS⟩, hb⟩)
      exact bodyPost_ret (v := .tuple #[.string ⟨#[]⟩, .string ⟨#[]⟩, .string ⟨#[]⟩, .int .i64 (n : Nat), .bool false]) (by simp [results, Tryz.results19, go_sem]) rfl ⟨rfl, hb⟩
    · rw [if_neg (by omega)]
      have A0 : (sp[0]'(by omega)).1 < (sp[0]'(by omega)).2 ∧ (sp[0]'(by omega)).2 ≤ s.size := by
        have h := hcov.at 0 (by omega)
        rw [← len]; exact ⟨h.2.1, h.2.2.1⟩
      have A3 : (sp[sp.length - 1]'(by omega)).1 < (sp[sp.length - 1]'(by omega)).2 ∧ (sp[sp.length - 1]'(by omega)).2 ≤ s.size := by
        have h := hcov.at (sp.length - 1) (by omega)
        rw [← len]; exact ⟨h.2.1, h.2.2.1⟩
      have HX := Lib.hid (fun w a (hS : Spn w a sp.length sp) => hS.2 (by omega))
      rw [getD_at sp 0 (by omega), getD_at sp (sp.length - 1) (by omega)]
      have hmid : 2 < sp.length → ((sp.getD 1 (0, 0)).1 ≤ (sp.getD (sp.length - 2) (0, 0)).2 ∧ (sp.getD (sp.length - 2) (0, 0)).2 ≤ s.size) ∧ ∃ (h1 : 1 < sp.length) (h2 : sp.length - 2 < sp.length), sp.getD 1 (0, 0) = sp[1] ∧ sp.getD (sp.length - 2) (0, 0) = sp[sp.length - 2] := fun h => by
        refine ⟨?_, by omega, by omega, getD_at sp 1 (by omega), getD_at sp _ (by omega)⟩
        rw [getD_at sp 1 (by omega), getD_at sp _ (by omega)]
        have B1 := hcov.at 1 (by omega)
        have B2 := hcov.at (sp.length - 2) (by omega)
        have B3 := hcov.mono 1 (sp.length - 3) (by omega)
        have e : ∀ hh, sp[1 + (sp.length - 3)]'hh = sp[sp.length - 2] := fun _ => by congr 1; omega
        rw [e] at B3
        rw [← len]
        omega
      have HC : Hid (∀ w a, Spn w a sp.length sp → ∃ b, a = some ⟨b, 0, none⟩ ∧ b < w.heap.size ∧ (w.cell? ⟨b, 0, none⟩ = some (.int .i64 (sp[0].1 : Nat)) ∧ w.cell? ⟨b, 1, none⟩ = some (.int .i64 (sp[0].2 : Nat))) ∧
          (w.cell? ⟨b, (sp.length - 1) * 2, none⟩ = some (.int .i64 (sp[sp.length - 1].1 : Nat)) ∧ w.cell? ⟨b, (sp.length - 1) * 2 + 1, none⟩ = some (.int .i64 (sp[sp.length - 1].2 : Nat))) ∧
          (2 < sp.length → w.cell? ⟨b, 2, none⟩ = some (.int .i64 ((sp.getD 1 (0, 0)).1 : Nat)) ∧ w.cell? ⟨b, (sp.length - 2) * 2 + 1, none⟩ = some (.int .i64 ((sp.getD (sp.length - 2) (0, 0)).2 : Nat)))) := Lib.hid fun w a hS => by
        obtain ⟨b, e, hlt, hc⟩ := hS.2 (by omega)
        refine ⟨b, e, hlt, hc 0 (by omega), hc (sp.length - 1) (by omega), fun h => ?_⟩
        obtain ⟨_, _, _, e1, e2⟩ := hmid h
        rw [e1, e2]
        exact ⟨(hc 1 (by omega)).1, (hc (sp.length - 2) (by omega)).2⟩
      have hms : 2 < sp.length → (sp.getD 1 (0, 0)).1 ≤ (sp.getD (sp.length - 2) (0, 0)).2 ∧ (sp.getD (sp.length - 2) (0, 0)).2 ≤ s.size := fun h => (hmid h).1
      clear HX hmid hcov
      obtain ⟨x0, hx0⟩ : ∃ x, sp[0] = x := ⟨_, rfl⟩
      obtain ⟨x3, hx3⟩ : ∃ x, sp[sp.length - 1] = x := ⟨_, rfl⟩
      obtain ⟨u1, hu1⟩ : ∃ x, (sp.getD 1 (0, 0)).1 = x := ⟨_, rfl⟩
      obtain ⟨u2, hu2⟩ : ∃ x, (sp.getD (sp.length - 2) (0, 0)).2 = x := ⟨_, rfl⟩
      rw [hx0] at A0 HC ⊢
      rw [hx3] at A3 HC ⊢
      rw [hu1, hu2] at hms HC ⊢
      clear hx0 hx3 hu1 hu2
      obtain ⟨a1, a2⟩ := x0
      obtain ⟨d1, d2⟩ := x3
      obtain ⟨A1, A2⟩ := A0
      obtain ⟨D1, D2⟩ := A3
      dsimp only at A1 A2 D1 D2 HC
      obtain ⟨n, hn⟩ : ∃ n, sp.length = n := ⟨_, rfl⟩
      have HP' : Hid (∀ w, Calls Tryz.prog 35 #[.string s, .bool bl] w fun e w' => ∃ b c, e = .returned (.tuple #[.slice (some ⟨b, 0, none⟩) n c, .bool true]) ∧ b < w'.heap.size ∧ (w'.cell? ⟨b, 0, none⟩ = some (.int .i64 (a1 : Nat)) ∧ w'.cell? ⟨b, 1, none⟩ = some (.int .i64 (a2 : Nat))) ∧
          (w'.cell? ⟨b, (n - 1) * 2, none⟩ = some (.int .i64 (d1 : Nat)) ∧ w'.cell? ⟨b, (n - 1) * 2 + 1, none⟩ = some (.int .i64 (d2 : Nat))) ∧
          (2 < n → w'.cell? ⟨b, 2, none⟩ = some (.int .i64 (u1 : Nat)) ∧ w'.cell? ⟨b, (n - 2) * 2 + 1, none⟩ = some (.int .i64 (u2 : Nat))) ∧ Below w.heap.size w w') := Lib.hid fun w => (HP.out w).mono (by
        rintro e w' ⟨⟨a, c, rfl, hS⟩, hb⟩
        obtain ⟨b, rfl, hlt, h0, h1, h2⟩ := HC.out w' a hS
        rw [hn] at h1 h2 ⊢
        exact ⟨b, c, rfl, hlt, h0, h1, h2, hb⟩)
      rw [hn] at h2 hms hle ⊢
      clear HC HP hn
      have hn2 : ¬ (n : Int) < 2 := by omega
      obtain ⟨k, hk⟩ : ∃ k, n = k + 1 := ⟨n - 1, by omega⟩
      have e1 : n - 1 = k := by omega
      rw [e1] at HP'
      have i1 : IntKind.i64.wrap ((n : Int) - 1) = (k : Int) := by rw [wrap_in _ (by omega) (by omega)]; omega
      have i2 : (k : Int) < (n : Int) := by omega
      have i3 : k < n := by omega
      have i4 : 0 < n := by omega
      have HKN := Lib.hid hk
      clear hk e1
      obtain ⟨M, hM⟩ : ∃ M, ba (if 2 < n then ext s.data.toList (u1, u2) else []) = M := ⟨_, rfl⟩
      rw [ext_ba, ext_ba, hM]
      have HM := Lib.hid hM
      clear hM
      have j1 : (a1 : Int) ≤ (a2 : Int) := by omega
      have j2 : (a2 : Int) ≤ (s.size : Int) := by omega
      have j3 : (d1 : Int) ≤ (d2 : Int) := by omega
      have j4 : (d2 : Int) ≤ (s.size : Int) := by omega
      have J1 : a1 ≤ a2 := by omega
      have J3 : d1 ≤ d2 := by omega
      go_enter Tryz.func19, Tryz.ntmps19
      go_wp2_with (go_at_call 35; with_reducible refine (HP'.out _).mono ?_; rintro e w1 ⟨b, c, rfl, hbl, ⟨h0, h1⟩, ⟨h2', h3⟩, h4, hb⟩)
      clear HP'
      refine Tree.region (.quiet 0 (.quiet 1 (.quiet 2 (.quiet 3 (.quiet 4 (.quiet 5 (.quiet 6 (.quiet 7 (.two 8 (.act 9 (.act 10 (.act 11 .done))) 9 (.act 8 (.act 10 (.act 11 .done)))))))))))) (fun w' => Below w1.heap.size w1 w') (by kernel_rfl) (by kernel_rfl) (fun _ _ d _ _ h => by cases d <;> exact h) (Base.below_drewN (Below.refl _ _) 1) ?_
      simp only [Tree.grow, Tree.put1, List.getElem?_cons_zero, List.getElem?_cons_succ]
      have hq : ∀ w', Below w1.heap.size w1 w' → w'.cell? ⟨b, 0, none⟩ = some (.int .i64 (a1 : Nat)) ∧ w'.cell? ⟨b, 1, none⟩ = some (.int .i64 (a2 : Nat)) ∧ w'.cell? ⟨b, k * 2, none⟩ = some (.int .i64 (d1 : Nat)) ∧ w'.cell? ⟨b, k * 2 + 1, none⟩ = some (.int .i64 (d2 : Nat)) := fun w' hS =>
        ⟨(hS.cell (p := ⟨b, 0, none⟩) hbl).trans h0, (hS.cell (p := ⟨b, 1, none⟩) hbl).trans h1, (hS.cell (p := ⟨b, k * 2, none⟩) hbl).trans h2', (hS.cell (p := ⟨b, k * 2 + 1, none⟩) hbl).trans h3⟩
      iterate 8
        refine Tree.quiet (by rfl) ?_ ?_ ?_
        rotate_left 1
        · intro w' hS
          obtain ⟨q0, q1, q2, q3⟩ := hq w' hS
          go_simp
          with_reducible rfl
        simp only [Act.put, List.setIfInBounds_toArray, List.set_cons_zero, List.set_cons_succ]

      have hW : Below w1.heap.size w1 (World.drewN w1 1) := Base.below_drewN (Below.refl _ _) 1
      generalize World.drewN w1 1 = W at *
      have hWs := hW.size
      refine Tree.both ?_ ?_
      · iterate 4
          refine Tree.change (by rfl) (fun K hK => ?_)
          go_simp
          refine hK _ _ ?_ ?_
          · first
              | exact hW.alloc hW.size _
              | exact (hW.alloc hW.size _).alloc (by simp; omega) _
              | exact (((hW.alloc hW.size _).alloc (by simp; omega) _).setCell (by first | exact hWs | omega) _).setCell (by first | exact hWs | omega) _
              | exact (((((hW.alloc hW.size _).alloc (by simp; omega) _).setCell (by first | exact hWs | omega) _).setCell (by first | exact hWs | omega) _).setCell (by first | exact hWs | omega) _).setCell (by first | exact hWs | omega) _
              | trace_state
          clear hK K

        refine Tree.done ?_
        have hWF : Below w1.heap.size w1 ((W.alloc (.cells #[.int .i64 (a1 : Nat), .int .i64 (a2 : Nat)] 71)).alloc (.cells #[.int .i64 (d1 : Nat), .int .i64 (d2 : Nat)] 71)) := (hW.alloc hW.size _).alloc (by simp; omega) _
        have p0 : ((W.alloc (.cells #[.int .i64 (a1 : Nat), .int .i64 (a2 : Nat)] 71)).alloc (.cells #[.int .i64 (d1 : Nat), .int .i64 (d2 : Nat)] 71)).cell? ⟨W.heap.size, 0, none⟩ = some (.int .i64 (a1 : Nat)) := by go_simp
        have p1 : ((W.alloc (.cells #[.int .i64 (a1 : Nat), .int .i64 (a2 : Nat)] 71)).alloc (.cells #[.int .i64 (d1 : Nat), .int .i64 (d2 : Nat)] 71)).cell? ⟨W.heap.size, 1, none⟩ = some (.int .i64 (a2 : Nat)) := by go_simp
        have p2 : ((W.alloc (.cells #[.int .i64 (a1 : Nat), .int .i64 (a2 : Nat)] 71)).alloc (.cells #[.int .i64 (d1 : Nat), .int .i64 (d2 : Nat)] 71)).cell? ⟨W.heap.size + 1, 0, none⟩ = some (.int .i64 (d1 : Nat)) := by go_simp
        have p3 : ((W.alloc (.cells #[.int .i64 (a1 : Nat), .int .i64 (a2 : Nat)] 71)).alloc (.cells #[.int .i64 (d1 : Nat), .int .i64 (d2 : Nat)] 71)).cell? ⟨W.heap.size + 1, 1, none⟩ = some (.int .i64 (d2 : Nat)) := by go_simp
        generalize (W.alloc (.cells #[.int .i64 (a1 : Nat), .int .i64 (a2 : Nat)] 71)).alloc (.cells #[.int .i64 (d1 : Nat), .int .i64 (d2 : Nat)] 71) = WF at *
        clear hq hW hWs h0 h1 h2' h3
        generalize W.heap.size = g at *
        rcases Nat.lt_or_ge 2 n with h3n | h3n
        · obtain ⟨r1, r2⟩ := h4 h3n
          obtain ⟨U1, U2⟩ := hms h3n
          have r1' := (hWF.cell (p := ⟨b, 2, none⟩) hbl).trans r1
          have r2' := (hWF.cell (p := ⟨b, (n - 2) * 2 + 1, none⟩) hbl).trans r2
          obtain ⟨j, hj⟩ : ∃ j, n - 2 = j := ⟨_, rfl⟩
          rw [hj] at r2'
          have l1 : (u1 : Int) ≤ (u2 : Int) := by omega
          have l2 : (u2 : Int) ≤ (s.size : Int) := by omega
          have l3 : (2 : Int) < (n : Int) := by omega
          have l4 : IntKind.i64.wrap ((n : Int) - 2) = (j : Int) := by rw [wrap_in _ (by omega) (by omega)]; omega
          have l5 : (j : Int) < (n : Int) := by omega
          have l6 : j < n := by omega
          have l7 : 1 < n := by omega
          have l8 : (1 : Int) < (n : Int) := by omega
          have hMM := HM.out
          rw [if_pos h3n, ext_ba] at hMM
          replace HM := Lib.hid hMM
          clear hMM
          clear r1 r2 h4 hms hj
          go_wp2_with fail
          go_quiet (fail)
          rename_i nq
          go_wp2_with fail
          go_quiet (fail)
          rename_i nq2
          go_wp2
          exact bodyPost_ret (v := .tuple #[.string (s.extract a1 a2), .string (s.extract u1 u2), .string (s.extract d1 d2), .int .i64 (n : Nat), .bool true]) (by simp [results, Tryz.results19, go_sem]) rfl ⟨by rw [← HM.out], by first | exact Base.below_drewN (Base.below_step hb hWF) _ | exact Base.below_drewN (Base.below_drewN (Base.below_step hb hWF) _) _⟩
        · have l3 : ¬ (2 : Int) < (n : Int) := by omega
          have hMM := HM.out
          rw [if_neg (by omega)] at hMM
          replace HM := Lib.hid hMM
          clear hMM
          clear h4 hms
          go_wp2_with fail
          go_quiet (fail)
          rename_i nq2
          go_wp2
          exact bodyPost_ret (v := .tuple #[.string (s.extract a1 a2), .string ⟨#[]⟩, .string (s.extract d1 d2), .int .i64 (n : Nat), .bool true]) (by simp [results, Tryz.results19, go_sem]) rfl ⟨by rw [← HM.out]; rfl, Base.below_drewN (Base.below_step hb hWF) _⟩
      · iterate 4
          refine Tree.change (by rfl) (fun K hK => ?_)
          go_simp
          refine hK _ _ ?_ ?_
          · first
              | exact hW.alloc hW.size _
              | exact (hW.alloc hW.size _).alloc (by simp; omega) _
              | exact (((hW.alloc hW.size _).alloc (by simp; omega) _).setCell (by first | exact hWs | omega) _).setCell (by first | exact hWs | omega) _
              | exact (((((hW.alloc hW.size _).alloc (by simp; omega) _).setCell (by first | exact hWs | omega) _).setCell (by first | exact hWs | omega) _).setCell (by first | exact hWs | omega) _).setCell (by first | exact hWs | omega) _
              | trace_state
          clear hK K

        refine Tree.done ?_
        have hWF : Below w1.heap.size w1 ((W.alloc (.cells #[.int .i64 (d1 : Nat), .int .i64 (d2 : Nat)] 71)).alloc (.cells #[.int .i64 (a1 : Nat), .int .i64 (a2 : Nat)] 71)) := (hW.alloc hW.size _).alloc (by simp; omega) _
        have p0 : ((W.alloc (.cells #[.int .i64 (d1 : Nat), .int .i64 (d2 : Nat)] 71)).alloc (.cells #[.int .i64 (a1 : Nat), .int .i64 (a2 : Nat)] 71)).cell? ⟨W.heap.size, 0, none⟩ = some (.int .i64 (d1 : Nat)) := by go_simp
        have p1 : ((W.alloc (.cells #[.int .i64 (d1 : Nat), .int .i64 (d2 : Nat)] 71)).alloc (.cells #[.int .i64 (a1 : Nat), .int .i64 (a2 : Nat)] 71)).cell? ⟨W.heap.size, 1, none⟩ = some (.int .i64 (d2 : Nat)) := by go_simp
        have p2 : ((W.alloc (.cells #[.int .i64 (d1 : Nat), .int .i64 (d2 : Nat)] 71)).alloc (.cells #[.int .i64 (a1 : Nat), .int .i64 (a2 : Nat)] 71)).cell? ⟨W.heap.size + 1, 0, none⟩ = some (.int .i64 (a1 : Nat)) := by go_simp
        have p3 : ((W.alloc (.cells #[.int .i64 (d1 : Nat), .int .i64 (d2 : Nat)] 71)).alloc (.cells #[.int .i64 (a1 : Nat), .int .i64 (a2 : Nat)] 71)).cell? ⟨W.heap.size + 1, 1, none⟩ = some (.int .i64 (a2 : Nat)) := by go_simp
        generalize (W.alloc (.cells #[.int .i64 (d1 : Nat), .int .i64 (d2 : Nat)] 71)).alloc (.cells #[.int .i64 (a1 : Nat), .int .i64 (a2 : Nat)] 71) = WF at *
        clear hq hW hWs h0 h1 h2' h3
        generalize W.heap.size = g at *
        rcases Nat.lt_or_ge 2 n with h3n | h3n
        · obtain ⟨r1, r2⟩ := h4 h3n
          obtain ⟨U1, U2⟩ := hms h3n
          have r1' := (hWF.cell (p := ⟨b, 2, none⟩) hbl).trans r1
          have r2' := (hWF.cell (p := ⟨b, (n - 2) * 2 + 1, none⟩) hbl).trans r2
          obtain ⟨j, hj⟩ : ∃ j, n - 2 = j := ⟨_, rfl⟩
          rw [hj] at r2'
          have l1 : (u1 : Int) ≤ (u2 : Int) := by omega
          have l2 : (u2 : Int) ≤ (s.size : Int) := by omega
          have l3 : (2 : Int) < (n : Int) := by omega
          have l4 : IntKind.i64.wrap ((n : Int) - 2) = (j : Int) := by rw [wrap_in _ (by omega) (by omega)]; omega
          have l5 : (j : Int) < (n : Int) := by omega
          have l6 : j < n := by omega
          have l7 : 1 < n := by omega
          have l8 : (1 : Int) < (n : Int) := by omega
          have hMM := HM.out
          rw [if_pos h3n, ext_ba] at hMM
          replace HM := Lib.hid hMM
          clear hMM
          clear r1 r2 h4 hms hj
          go_wp2_with fail
          go_quiet (fail)
          rename_i nq
          go_wp2_with fail
          go_quiet (fail)
          rename_i nq2
          go_wp2
          exact bodyPost_ret (v := .tuple #[.string (s.extract a1 a2), .string (s.extract u1 u2), .string (s.extract d1 d2), .int .i64 (n : Nat), .bool true]) (by simp [results, Tryz.results19, go_sem]) rfl ⟨by rw [← HM.out], by first | exact Base.below_drewN (Base.below_step hb hWF) _ | exact Base.below_drewN (Base.below_drewN (Base.below_step hb hWF) _) _⟩
        · have l3 : ¬ (2 : Int) < (n : Int) := by omega
          have hMM := HM.out
          rw [if_neg (by omega)] at hMM
          replace HM := Lib.hid hMM
          clear hMM
          clear h4 hms
          go_wp2_with fail
          go_quiet (fail)
          rename_i nq2
          go_wp2
          exact bodyPost_ret (v := .tuple #[.string (s.extract a1 a2), .string ⟨#[]⟩, .string (s.extract d1 d2), .int .i64 (n : Nat), .bool true]) (by simp [results, Tryz.results19, go_sem]) rfl ⟨by rw [← HM.out]; rfl, Base.below_drewN (Base.below_step hb hWF) _⟩
end code
end Go.Proofs.YtlignmlkoahbmaaGreatDoor.Rq
