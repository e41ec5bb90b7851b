/-
  Layer 3 (text): the set of names in small letters that Without makes, and what its closure answers of a field.
-/
import Derived.Test.YtoackhbkngfhkaaDoorTextFind
import Derived.Test.YtoackhbkngfhkaaDoorBase
import Derived.Maps.OwnSet
import Derived.SliceStrings
namespace Go.Proofs.YtoackhbkngfhkaaDoor.Txt
open Go.RowKit Base Oct Go.Maps

def keyIn (s : ByteArray) : Lit := .string (lower s).data.toList
def gone (ss : List ByteArray) : DataW Unit := setOf (.agg []) (ss.map keyIn)
theorem has_gone (ss : List ByteArray) (s : ByteArray) : Maps.has (gone ss) (keyIn s) = one ss s := by
  unfold gone
  rw [has_setOf _ _ _ (fun y hy => by obtain ⟨_, _, rfl⟩ := List.mem_map.1 hy; trivial), List.any_map]
  rfl
theorem gone_snoc (ss : List ByteArray) (k : Nat) (h : k < ss.length) : gone (ss.take (k + 1)) = (gone (ss.take k)).put (keyIn (ss[k]?.getD ByteArray.empty)) (.agg []) := by
  unfold gone
  rw [strs_snoc ss k h, List.map_append, List.map_singleton, setOf_snoc]
theorem law_text : Keyed Tryd.prog 9 := string_keyed Tryd.underlying9
theorem zero_unit (w : World) : (zeroValue 53).run Tryd.prog w = .ok (.agg #[]) w := by kernel_rfl
theorem key_text (s : ByteArray) (h : s.size ≤ maxLen) : keyOf Tryd.prog 9 (.string (lower s)) = some (keyIn s) := Go.WideMaps.keyOf_string_mk Tryd.underlying9 (by rw [lower_size]; exact h)

section code
set_option maxHeartbeats 1000000
theorem smallNames_any (a : Option Addr) (n cap : Nat) (ss : List ByteArray) (w : World) (hv : Strs w a n ss) (hn : n ≤ 1000000000) (hs : ∀ s ∈ ss, s.size ≤ 1000000000) :
    Calls Tryd.prog 35 #[.slice a n cap] w fun e w' => e = .returned (.map (some w.heap.size)) ∧ w'.ownsMap Tryd.prog 9 unitElem w.heap.size n (gone ss) ∧ Below w.heap.size w w' := by
  have HV := Lib.hid hv
  have HL := Lib.hid hv.1
  have HS := Lib.hid hs
  clear hv hs
  have hmm := @run_makeMap Tryd.prog
  go_enter Tryd.func35, Tryd.ntmps35
  go_wp2
  clear hmm
  go_loopw [9] (fun i wr => ∃ k : Nat, k ≤ n ∧ i = .int .i64 k ∧ Hid (wr.ownsMap Tryd.prog 9 unitElem w.heap.size k (gone (ss.take k))) ∧ Hid (Below w.heap.size w wr)) (fun i _ => n - (intOf i).toNat)
  case atStart => exact ⟨0, Nat.zero_le _, rfl, Lib.hid (World.ownsMap_made _ _ _ _), Lib.hid ((Below.refl _ _).alloc (Nat.le_refl _) _)⟩
  case round =>
    obtain ⟨k, hk, rfl, hown, hbr⟩ := hrel
    rcases Nat.lt_or_ge k n with hlt | hge
    · obtain ⟨bl, off, rfl, hbl, hc⟩ := (HV.out.below hbr.out).2 (by omega)
      have hck := hc k hlt
      have hkl : k < ss.length := by rw [HL.out]; exact hlt
      have hgs := Lib.hid (gone_snoc ss k hkl)
      have hsz : (ss[k]?.getD ByteArray.empty).size ≤ 1000000000 := by
        rw [List.getElem?_eq_getElem hkl]
        exact HS.out _ (List.getElem_mem _)
      clear hc hkl
      generalize ss[k]?.getD ByteArray.empty = x at *
      have HC := Lib.hid (fun w => lower_any x w (by omega))
      have hkey := Lib.hid (key_text x (by unfold maxLen; omega))
      go_wp2_with (first
        | (go_at_call 38; with_reducible refine (HC.out _).mono ?_; rintro e w2 ⟨rfl, hb2⟩)
        | (at_mapUpdate; refine wpList_mapUpdate_own _ rfl _ _ _ 50 rfl 9 53 law_text Tryd.underlying50 (unitElem (H := Unit)) w.heap.size k _ rfl (hown.out.kept (grown_of_below hb2) (by simp)) (by unfold maxLen; omega) _ _ _ rfl rfl hkey.out _ [] unitElem_mk ?_; intro w3 hown3 hgrow3))
      have H1 : Hid (w3.ownsMap Tryd.prog 9 unitElem w.heap.size (k + 1) (gone (ss.take (k + 1)))) := Lib.hid (by rw [hgs.out]; exact hown3)
      have H2 := Lib.hid ((Base.below_step hbr.out hb2).grown hgrow3 (by have := hbr.out.size; have := hb2.size; omega) (fun j hj => by cases hj; exact Nat.le_refl _))
      clear hown hown3 hgrow3 hb2
      go_roundw
      case rel => exact ⟨k + 1, by omega, by go_num, H1, H2⟩
      case measure => simp [intOf]; omega
    · obtain rfl : k = n := by omega
      have hown1 := hown.out
      rw [List.take_of_length_le (by rw [HL.out]; omega)] at hown1
      have HO := Lib.hid hown1
      clear hown hown1
      go_wp2
      go_ret
      exact ⟨rfl, HO.out, hbr.out⟩

attribute [local go_sem] Base.some_undef
set_option maxRecDepth 10000 in
theorem gone_any (f0 f1 : ByteArray) (G B n : Nat) (D : DataW Unit) (w : World) (hc : w.cell? ⟨G, 0, none⟩ = some (.map (some B))) (hm : w.ownsMap Tryd.prog 9 unitElem B n D) (hs : f0.size ≤ 1000000000) :
    Calls Tryd.prog 37 #[.agg #[.string f0, .string f1], .pointer (some ⟨G, 0, none⟩)] w fun e w' => e = .returned (.bool (Maps.has D (keyIn f0))) ∧ Below w.heap.size w w' := by
  have hG : G < w.heap.size := by
    rcases Nat.lt_or_ge G w.heap.size with h | h
    · exact h
    · simp [World.cell?, Array.getElem?_eq_none h] at hc
  have HM := Lib.hid hm
  have HCell := Lib.hid hc
  clear hm hc
  have HC := Lib.hid (fun w => lower_any f0 w (by omega))
  have hkey := Lib.hid (key_text f0 (by unfold maxLen; omega))
  generalize hr : Maps.has D (keyIn f0) = r
  have HR := Lib.hid hr
  clear hr
  go_enter Tryd.func37, Tryd.ntmps37
  go_wp2_with fail
  have hf0 : (w.alloc (.cells #[.string f0, .string f1] 28)).cell? ⟨w.heap.size, 0, none⟩ = some (.string f0) := by simp
  have hg0 : (w.alloc (.cells #[.string f0, .string f1] 28)).cell? ⟨G, 0, none⟩ = some (.map (some B)) := Lib.cell?_alloc_some _ HCell.out
  have hm0 := Lib.hid (HM.out.alloc (.cells #[.string f0, .string f1] 28))
  have hW : Below w.heap.size w (w.alloc (.cells #[.string f0, .string f1] 28)) := (Below.refl _ _).alloc (Nat.le_refl _) _
  have hgg : w.heap.size < (w.alloc (.cells #[.string f0, .string f1] 28)).heap.size := by simp
  have hGG : G < (w.alloc (.cells #[.string f0, .string f1] 28)).heap.size := by simp; omega
  generalize w.alloc (.cells #[.string f0, .string f1] 28) = W at *
  generalize hgw : w.heap.size = g at *
  refine Tree.region (.quiet 0 (.quiet 1 (.quiet 2 (.two 3 (.quiet 4 (.quiet 5 (.quiet 6 (.quiet 7 (.act 8 (.act 9 (.quiet 10 .done))))))) 8 (.act 3 (.quiet 4 (.quiet 5 (.quiet 6 (.quiet 7 (.act 9 (.quiet 10 .done))))))))))) (fun w' => Below W.heap.size W w') (by kernel_rfl) (by kernel_rfl) (fun _ _ d _ _ h => by cases d <;> exact h) (Base.below_drewN (Below.refl _ _) 1) ?_
  simp only [Tree.grow, Tree.put1, List.getElem?_cons_zero, List.getElem?_cons_succ]
  have hlook : ∀ w', Below W.heap.size W w' → (Instr.lookup 50 (.map (some B)) (.string (lower f0)) true).run Tryd.prog w' = .ok (.tuple #[.agg #[], .bool r]) w' := fun w' hS => by
    obtain ⟨v, ps, hrun, hv⟩ := (hm0.out.kept (grown_of_below hS) (by simp)).look_ok law_text Tryd.underlying50 (zero_unit _) unitElem_mk hkey.out
    obtain ⟨rfl, _⟩ := unitElem_inv hv
    rw [HR.out] at hrun
    exact hrun
  repeat' (first
    | (refine Tree.both ?_ ?_)
    | (refine Tree.skip (by rfl) ?_; simp only [Act.put, List.setIfInBounds_toArray, List.set_cons_zero, List.set_cons_succ])
    | (refine Tree.skip_act (by rfl) ?_; simp only [Act.put, List.setIfInBounds_toArray, List.set_cons_zero, List.set_cons_succ])
    | (refine Tree.move _ (by rfl) (by rfl) ?_; simp only [Act.put, Act.eval, Array.getD_eq_getD_getElem?, List.getElem?_toArray, List.getElem?_cons_zero, List.getElem?_cons_succ, Option.getD_some, List.setIfInBounds_toArray, List.set_cons_zero, List.set_cons_succ])
    | (refine Tree.assign _ (by rfl) (by rfl) ?_; simp only [Act.put, Act.eval, Array.getD_eq_getD_getElem?, List.getElem?_toArray, List.getElem?_cons_zero, List.getElem?_cons_succ, Option.getD_some, List.setIfInBounds_toArray, List.set_cons_zero, List.set_cons_succ])
    | (refine Tree.quiet (by rfl) ?_ ?_ ?_; rotate_left 1; (· (intro w' hS; have q0 := (hS.cell (p := ⟨g, 0, none⟩) hgg).trans hf0; have q1 := (hS.cell (p := ⟨G, 0, none⟩) hGG).trans hg0; have q2 := hlook w' hS; go_simp; with_reducible rfl)); simp only [Act.put, List.setIfInBounds_toArray, List.set_cons_zero, List.set_cons_succ])
    | (refine Tree.change (by rfl) (fun K hK => ?_); go_simp
       first
         | (refine hK _ _ ?_ ?_; (· repeat (first | exact Below.refl _ _ | assumption | refine Below.alloc ?_ (by first | exact Nat.le_refl _ | exact Below.size (by assumption) | (simp; done)) _ | with_reducible refine Base.below_drewN ?_ _ | refine Base.below_step ?_ (by assumption))); clear hK K)
         | ((with_reducible refine (HC.out _).mono ?_); rintro e w2 ⟨rfl, hb2⟩
            have hbx : Below W.heap.size W w2 := by (repeat (first | exact Below.refl _ _ | assumption | refine Below.alloc ?_ (by first | exact Nat.le_refl _ | (simp; done)) _ | with_reducible refine Base.below_drewN ?_ _ | refine Base.below_step ?_ (by assumption)))))
    | (dsimp only; refine hK _ _ ?_ ?_; assumption; clear hK K))
  all_goals
    refine Tree.done ?_
    go_wp2
    go_ret
    first
      | exact ⟨rfl, hgw ▸ hW.trans (Below.mono (hbx.alloc hbx.size _) (hgw ▸ hW.size))⟩
      | exact ⟨rfl, hgw ▸ hW.trans (Below.mono hbx (hgw ▸ hW.size))⟩
end code
end Go.Proofs.YtoackhbkngfhkaaDoor.Txt
