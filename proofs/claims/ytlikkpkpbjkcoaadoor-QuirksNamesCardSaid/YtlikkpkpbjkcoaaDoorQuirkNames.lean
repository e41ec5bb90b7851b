/-
  Layer 5 (quirks): the walk of QuirksNames: it returns true, and writes nothing that was there.
-/
import Derived.Test.YtlikkpkpbjkcoaaDoorQuirkLaws
import Derived.Test.YtlikkpkpbjkcoaaDoorBytes
import Derived.Deep.CutBlock
import Derived.Deep.DeepCutAuto
namespace Go.Proofs.YtlikkpkpbjkcoaaDoor.Qk
open Go.RowKit Base

theorem found_name {s : ByteArray} (h : foundIs s = true) : ∃ k : Nat, k < 30 ∧ foundAt s = k ∧ nm k = s := by
  unfold foundIs at h
  cases hf : findOf s with
  | none => rw [hf] at h; cases h
  | some k => exact ⟨k, (find_lt hf).1, by unfold foundAt; rw [hf], (find_lt hf).2⟩
theorem found_not {s : ByteArray} (h : foundIs s = false) : foundAt s = 0 := by
  unfold foundIs at h
  cases hf : findOf s with
  | none => unfold foundAt; rw [hf]
  | some k => rw [hf] at h; cases h

section code
set_option maxHeartbeats 4000000
set_option maxRecDepth 10000
attribute [local go_sem] Base.some_undef
theorem quirksNames_any (a b at8 : Nat) (c : UInt8) (ha : a < 256) (hb : b < 256) (hat : at8 < 256) (w : World) (hT : Tab w) : Calls Tryd.prog 4 #[.int .u8 a, .int .u8 b, .int .u8 at8, .int .u8 (c.toNat : Int)] w fun e w' => e = .returned (.bool true) ∧ Below w.heap.size w w' := by
  have HK := Lib.hid (known_law w hT)
  have hx : (a : Int) % 30 = ((a % 30 : Nat) : Int) := by omega
  have hy : (b : Int) % 30 = ((b % 30 : Nat) : Int) := by omega
  have hX : a % 30 < 30 := Nat.mod_lt _ (by decide)
  have hY : b % 30 < 30 := Nat.mod_lt _ (by decide)
  generalize a % 30 = x at *
  generalize b % 30 = y at *
  have e1 : nameOf (x : Int) = nm x := by rw [nameOf, if_pos (by simp [known]; omega), Int.toNat_natCast]
  have e2 : nameOf (y : Int) = nm y := by rw [nameOf, if_pos (by simp [known]; omega), Int.toNat_natCast]
  have N1 := Lib.hid (name_any (x : Int)); have N2 := Lib.hid (name_any (y : Int))
  have N3 : Hid (∀ w, Tab w → Calls Tryd.prog 11 #[.int .i64 (-1)] w fun e w' => e = .returned (.string ⟨#[]⟩) ∧ w' = w) := Lib.hid (name_any (-1))
  have N4 : Hid (∀ w, Tab w → Calls Tryd.prog 11 #[.int .i64 30] w fun e w' => e = .returned (.string ⟨#[]⟩) ∧ w' = w) := Lib.hid (name_any 30)
  rw [e1] at N1
  rw [e2] at N2
  have hp := nm_pos hX
  have hl := nm_le hX
  have hinj : (((nm x).toList == (nm y).toList) = ((x : Int) == (y : Int))) := by
    rw [Bool.eq_iff_iff, beq_iff_eq, beq_iff_eq, Ls.toList_iff, nm_inj hX hY]; omega
  have HT := Lib.hid hT
  clear e1 e2 hT
  generalize nm x = s at *
  generalize nm y = t at *
  have hz : ((s.size : Int) == 0) = false := by rw [beq_eq_false_iff_ne]; omega
  have him : (at8 : Int) % (s.size : Int) = ((at8 % s.size : Nat) : Int) := by omega
  have hilt : at8 % s.size < s.size := Nat.mod_lt _ hp
  generalize at8 % s.size = i at *
  have HLN : Hid (s.data.toList.length = s.size) := Lib.hid (by rw [Array.length_toList]; rfl)
  obtain ⟨T, hTd⟩ : ∃ T : ByteArray, (⟨(s.data.toList.set i c).toArray⟩ : ByteArray) = T := ⟨_, rfl⟩
  have HTD := Lib.hid hTd
  clear hTd
  have HF : Hid (∀ w, Tab w → Calls Tryd.prog 16 #[.string T] w fun e w' => e = .returned (.tuple #[.int .i64 0, .bool false]) ∧ w' = w) ∨
      ∃ k : Nat, k < 30 ∧ Hid (∀ w, Tab w → Calls Tryd.prog 16 #[.string T] w fun e w' => e = .returned (.tuple #[.int .i64 k, .bool true]) ∧ w' = w) ∧
        Hid (∀ w, Tab w → Calls Tryd.prog 11 #[.int .i64 k] w fun e w' => e = .returned (.string T) ∧ w' = w) := by
    cases hf : foundIs T with
    | false => exact .inl (Lib.hid fun w h => by have := find_any T w h; rwa [hf, found_not hf] at this)
    | true =>
      obtain ⟨k, hk, h1, h2⟩ := found_name hf
      refine .inr ⟨k, hk, Lib.hid fun w h => ?_, Lib.hid fun w h => ?_⟩
      · have := find_any T w h
        rwa [hf, h1] at this
      · have := name_any (k : Int) w h
        rwa [nameOf, if_pos (by simp [known]; omega), Int.toNat_natCast, h2] at this
  rcases HF with HF | ⟨k, hk30, HF, HN⟩ <;> cases hv : ((x : Int) == (y : Int)) <;> rw [hv] at hinj
  all_goals
    go_enter Tryd.func4, Tryd.ntmps4
    go_wp2_with (first
      | (go_at_call 7; (with_reducible refine HK.out.mono ?_); rintro e w1 ⟨rfl, hbw⟩; have HT1 := Lib.hid (HT.out.below hbw)
         obtain ⟨W, cap, hcv, hBy, hgW, hbW⟩ := By.conv_bytes s w1
         obtain ⟨d, hcell, hfz⟩ := hBy.at i (HLN.out ▸ hilt)
         have hbS := hbW.setCell (p := ⟨w1.heap.size, i, none⟩) (Nat.le_refl _) (.int .u8 (c.toNat : Int))
         have hcb0 : ∀ w', Below (W.setCell ⟨w1.heap.size, i, none⟩ (.int .u8 (c.toNat : Int))).heap.size (W.setCell ⟨w1.heap.size, i, none⟩ (.int .u8 (c.toNat : Int))) w' →
             (convert 40 9 (.slice (some ⟨w1.heap.size, 0, none⟩) s.size cap)).run Tryd.prog w' = .ok (.string T) w' := fun w' hb' => by
           have := By.conv_back ((hBy.set i c).below (by rw [World.size_setCell]; exact hgW) hb') s.size ((List.length_set ..).trans HLN.out) cap
           rwa [HTD.out] at this
         have hcb := hcb0 _ (Below.refl _ _)
         have HBE := Lib.hid hcb0
         have HTS := Lib.hid (HT1.out.below hbS)
         have HC := Lib.hid (Base.below_step hbw hbS)
         clear hBy hgW hbW hbS hcb0)
      | (go_at_call 11; first
        | (with_reducible refine (N1.out _ HT1.out).mono ?_; rintro e w2 ⟨rfl, hw⟩; rw [hw]; clear hw)
        | (with_reducible refine (N2.out _ HT1.out).mono ?_; rintro e w2 ⟨rfl, hw⟩; rw [hw]; clear hw)
        | (with_reducible refine (N3.out _ HT1.out).mono ?_; rintro e w2 ⟨rfl, hw⟩; rw [hw]; clear hw)
        | (with_reducible refine (N4.out _ HT1.out).mono ?_; rintro e w2 ⟨rfl, hw⟩; rw [hw]; clear hw))
      | (go_at_call 16; (with_reducible refine (HF.out _ HTS.out).mono ?_); rintro e w2 ⟨rfl, hw⟩; rw [hw]; clear hw))
    clear hcb hcell hfz hcv
    generalize W.setCell ⟨w1.heap.size, i, none⟩ (.int .u8 (c.toNat : Int)) = W2 at *
    generalize w1.heap.size = g at *
    have hb := Base.below_drewN (Below.refl W2.heap.size W2) 1
    refine Sched.region [(0, false), (1, false), (2, false), (3, false), (4, false), (5, false), (6, false), (7, false), (8, false), (9, false), (11, false), (12, false), (10, true), (13, false), (14, false), (15, false), (16, false)] (fun w' => Below W2.heap.size W2 w') (by kernel_rfl) (by kernel_rfl) (fun _ _ d _ _ h => by cases d <;> exact h) hb ?_
    simp only [Sched.picked, List.filterMap_cons, List.filterMap_nil, List.getElem?_cons_zero, List.getElem?_cons_succ, Option.map_some]
    repeat (first
      | (refine Sched.skip rfl ?_; simp only [Act.put, List.setIfInBounds_toArray, List.set_cons_zero, List.set_cons_succ])
      | (refine Sched.move _ rfl rfl ?_; simp only [Act.put, Act.eval, Array.getD_eq_getD_getElem?, List.getElem?_toArray, List.getElem?_cons_zero, List.getElem?_cons_succ, Option.getD_some, List.setIfInBounds_toArray, List.set_cons_zero, List.set_cons_succ])
      | (refine Sched.quiet rfl ?_ ?_ ?_; rotate_left 1; (· (intro w' hS; have hcb := HBE.out w' hS; clear hS; go_simp; with_reducible rfl)); simp only [Act.put, List.setIfInBounds_toArray, List.set_cons_zero, List.set_cons_succ])
      | (refine Sched.change rfl (fun K hK => ?_); go_simp; (with_reducible refine (HN.out _ (HTS.out.below (Base.below_drewN (Below.refl W2.heap.size W2) 1))).mono ?_); rintro e w5 ⟨rfl, hw⟩; rw [hw]; dsimp only; refine hK _ _ hb ?_; clear hK K hw))
    refine Sched.done ?_
    go_wp2
    go_ret
    exact ⟨rfl, Base.below_step HC.out hb⟩
end code
end Go.Proofs.YtlikkpkpbjkcoaaDoor.Qk
