/-
  Layer 3 (text): a list is known (what each law asks first).
-/
import Derived.Test.YteldcpogoliioaaDoorTextLaws
namespace Go.Proofs.YteldcpogoliioaaDoor.Txt
open Go.RowKit Base Oct

def knownF : List Fld := [(⟨#[65]⟩, ⟨#[49]⟩), (⟨#[98]⟩, ⟨#[50]⟩), (⟨#[97]⟩, ⟨#[51]⟩)]
section code
set_option maxHeartbeats 2000000
attribute [local go_sem] Base.some_undef
set_option maxRecDepth 10000 in
theorem known_any (w : World) : Calls Tryd.prog 7 #[] w fun e w' => e = .returned (.bool true) ∧ Below w.heap.size w w' := by
  have kl : list [⟨#[97, 44, 32, 98]⟩, ⟨#[]⟩] = [⟨#[97]⟩, ⟨#[98]⟩, ⟨#[]⟩] := by decide +kernel
  have h1 := Lib.hid ((list_any (some ⟨w.heap.size, 0, none⟩) 2 2 [⟨#[97, 44, 32, 98]⟩, ⟨#[]⟩] (w.alloc (.cells #[.string ⟨#[97, 44, 32, 98]⟩, .string ⟨#[]⟩] 9)) (Strs.made w _ rfl _ _ _ rfl) (by decide +kernel)).mono
    (R' := fun e w' => ∃ b off c, e = .returned (.slice (some ⟨b, off, none⟩) 3 c) ∧ b < w'.heap.size ∧ w'.cell? ⟨b, off + 1, none⟩ = some (.string ⟨#[98]⟩) ∧ Below (w.alloc (.cells #[.string ⟨#[97, 44, 32, 98]⟩, .string ⟨#[]⟩] 9)).heap.size (w.alloc (.cells #[.string ⟨#[97, 44, 32, 98]⟩, .string ⟨#[]⟩] 9)) w') (by
      rintro e w' ⟨b, m, c, rfl, hm, hS, hb⟩
      rw [kl] at hm hS
      obtain rfl : m = 3 := hm
      obtain ⟨bl, off, rfl, hbl, hc⟩ := hS.2 (by decide)
      exact ⟨bl, off, c, rfl, hbl, hc 1 (by decide), hb⟩))
  have h2 := Lib.hid (fun w => (lower_any ⟨#[97, 66]⟩ w (by decide)).mono (R' := fun e w' => e = .returned (.string ⟨#[97, 98]⟩) ∧ Below w.heap.size w w') (by
    rintro e w' ⟨rfl, hb⟩; exact ⟨by rw [show lower ⟨#[97, 66]⟩ = ⟨#[97, 98]⟩ by decide +kernel], hb⟩))
  have h3 := Lib.hid (fun w => (same_any ⟨#[65, 98]⟩ ⟨#[97, 66]⟩ w (by decide)).mono (R' := fun e w' => e = .returned (.bool true) ∧ Below w.heap.size w w') (by
    rintro e w' ⟨rfl, hb⟩; exact ⟨by rw [show same ⟨#[65, 98]⟩ ⟨#[97, 66]⟩ = true by decide +kernel], hb⟩))
  have h4 := Lib.hid (fun w => (trim_any ⟨#[32, 97, 9]⟩ w (by decide)).mono (R' := fun e w' => e = .returned (.string ⟨#[97]⟩) ∧ w' = w) (by
    rintro e w' ⟨rfl, hb⟩; exact ⟨by rw [show trim ⟨#[32, 97, 9]⟩ = ⟨#[97]⟩ by decide +kernel], hb⟩))
  have h5 := Lib.hid (fun w => (trimOf_any ⟨#[120, 97, 121]⟩ ⟨#[120, 121]⟩ w (by decide) (by decide)).mono (R' := fun e w' => e = .returned (.string ⟨#[97]⟩) ∧ Below w.heap.size w w') (by
    rintro e w' ⟨rfl, hb⟩; exact ⟨by rw [show trimOf ⟨#[120, 97, 121]⟩ ⟨#[120, 121]⟩ = ⟨#[97]⟩ by decide +kernel], hb⟩))
  have kf : ∀ f ∈ knownF, f.1.size ≤ 1000000000 := by decide +kernel
  have h6 := Lib.hid (fun (g : Nat) (w : World) (hF : Flds w (some ⟨g, 0, none⟩) 3 knownF) => (find_any (some ⟨g, 0, none⟩) 3 3 knownF ⟨#[97]⟩ w hF (by decide) (fun f hf => by have := kf f hf; unfold maxLen; omega)).mono (R' := fun e w' => (∃ b c, e = .returned (.slice b 2 c)) ∧ Below w.heap.size w w') (by
    rintro e w' ⟨b, m, c, rfl, hm, _, hb⟩
    rw [show (find knownF ⟨#[97]⟩).length = 2 by decide +kernel] at hm
    subst hm
    exact ⟨⟨b, c, rfl⟩, hb⟩))
  have h7 := Lib.hid (fun (g : Nat) (w : World) (hF : Flds w (some ⟨g, 0, none⟩) 3 knownF) (b : Nat) (hS : Strs w (some ⟨b, 0, none⟩) 1 [⟨#[65]⟩]) => (without_any (some ⟨g, 0, none⟩) 3 3 knownF (some ⟨b, 0, none⟩) 1 1 [⟨#[65]⟩] w hF hS (by decide) (by decide) kf (by decide +kernel)).mono (R' := fun e w' => (∃ b c, e = .returned (.slice b 1 c)) ∧ Below w.heap.size w w') (by
    rintro e w' ⟨b, m, c, rfl, hm, _, hb⟩
    rw [show (without knownF [⟨#[65]⟩]).length = 1 by decide +kernel] at hm
    subst hm
    exact ⟨⟨b, c, rfl⟩, hb⟩))
  have h8 := Lib.hid (fun (g : Nat) (w : World) (hF : Flds w (some ⟨g, 0, none⟩) 3 knownF) => (fields_any (some ⟨g, 0, none⟩) 3 3 knownF (some ⟨g, 0, none⟩) 3 3 knownF w hF hF (by decide) (by decide)).mono (R' := fun e w' => e = .returned (.bool true) ∧ Below w.heap.size w w') (by
    rintro e w' ⟨rfl, q, rfl⟩; exact ⟨by rw [decide_eq_true rfl], Base.below_drewN (Below.refl _ _) _⟩))
  have h9 := Lib.hid (fun (g : Nat) (w : World) (hF : Flds w (some ⟨g, 0, none⟩) 3 knownF) => (fields_any (some ⟨g, 0, none⟩) 3 3 knownF none 0 0 [] w hF (Flds.nil _ _) (by decide) (by decide)).mono (R' := fun e w' => e = .returned (.bool false) ∧ Below w.heap.size w w') (by
    rintro e w' ⟨rfl, q, rfl⟩; exact ⟨by rw [decide_eq_false (by decide)], Base.below_drewN (Below.refl _ _) _⟩))
  have mk := Lib.hid (fun w : World => show Flds (w.alloc (.cells #[.string ⟨#[65]⟩, .string ⟨#[49]⟩, .string ⟨#[98]⟩, .string ⟨#[50]⟩, .string ⟨#[97]⟩, .string ⟨#[51]⟩] 35)) (some ⟨w.heap.size, 0, none⟩) 3 knownF from
    Flds.of_cells rfl (by simp) fun j hj => by
      refine (cell_of_row (w.alloc (.cells #[.string ⟨#[65]⟩, .string ⟨#[49]⟩, .string ⟨#[98]⟩, .string ⟨#[50]⟩, .string ⟨#[97]⟩, .string ⟨#[51]⟩] 35)) w.heap.size j _ 35 (0, 0) (heap_alloc_new w _)).trans ?_
      rw [List.getElem?_toArray]; rfl)
  clear kl
  go_enter Tryd.func7, Tryd.ntmps7
  go_wp2_with (first
    | (go_at_call 18; with_reducible refine h1.out.mono ?_; rintro e w1 ⟨b1, o1, c1, rfl, hbl, hcell, hb1⟩
       have hF0 := mk.out w1
       have hb1' : Below w.heap.size w w1 := Base.below_step ((Below.refl _ _).alloc (Nat.le_refl _) _) hb1
       have hW := hb1'.alloc hb1'.size (.cells #[.string ⟨#[65]⟩, .string ⟨#[49]⟩, .string ⟨#[98]⟩, .string ⟨#[50]⟩, .string ⟨#[97]⟩, .string ⟨#[51]⟩] 35)
       have hcl := Lib.cell?_alloc_some (.cells #[.string ⟨#[65]⟩, .string ⟨#[49]⟩, .string ⟨#[98]⟩, .string ⟨#[50]⟩, .string ⟨#[97]⟩, .string ⟨#[51]⟩] 35) hcell
       clear hb1 hcell)
    | (go_at_call 9; with_reducible refine (h2.out _).mono ?_; rintro e w2 ⟨rfl, hb2⟩)
    | (go_at_call 11; with_reducible refine (h3.out _).mono ?_; rintro e w3 ⟨rfl, hb3⟩)
    | (go_at_call 13; with_reducible refine (h4.out _).mono ?_; rintro e w4 ⟨rfl, hw⟩; rw [hw]; clear hw)
    | (go_at_call 15; with_reducible refine (h5.out _).mono ?_; rintro e w5 ⟨rfl, hb5⟩
       have hb25 := Base.below_step hb2 (Base.below_step hb3 hb5)
       have hF5 := hF0.below hb25
       have hc5 := (hb25.cell (p := ⟨b1, o1 + 1, none⟩) (by simp; omega)).trans hcl
       have hW5 := Base.below_step hW hb25)
    | (go_at_call 21; with_reducible refine (h6.out _ _ hF5).mono ?_; rintro e w6 ⟨⟨b6, c6, rfl⟩, hb6⟩
       have hF6 := (hF5.below hb6).below ((Below.refl _ _).alloc (Nat.le_refl _) (.cells #[.string ⟨#[65]⟩] 9))
       have hS6 := Strs.one w6 w6.heap.size rfl 9 ⟨#[65]⟩)
    | (go_at_call 24; with_reducible refine (h7.out _ _ hF6 _ hS6).mono ?_; rintro e w7 ⟨⟨b7, c7, rfl⟩, hb7⟩
       have hF7 := hF6.below hb7)
    | (go_at_call 26; with_reducible refine (h8.out _ _ hF7).mono ?_; rintro e w8 ⟨rfl, hb8⟩
       have hF8 := hF7.below hb8)
    | (go_at_call 26; with_reducible refine (h9.out _ _ hF8).mono ?_; rintro e w9 ⟨rfl, hb9⟩))
  go_ret
  exact ⟨rfl, Base.below_step (Base.below_step (Base.below_step (Base.below_step (Base.below_step hW5 hb6) ((Below.refl _ _).alloc (Nat.le_refl _) _)) hb7) hb8) hb9⟩
end code
end Go.Proofs.YteldcpogoliioaaDoor.Txt
