/-
  A block of bytes that a call made and may write; the conversions between texts and such bytes.
-/
import Derived.Test.YtibnobdbmojjhaaGreatDoorBase
import Derived.Laws.IdiomStrings
namespace Go.Proofs.YtibnobdbmojjhaaGreatDoor.By
open Go.RowKit Base

/-- A block whose first cells are the bytes l, and may be written. -/
def Bytes (w : World) (g : Nat) (l : List UInt8) : Prop := ∀ j (h : j < l.length), w.cell? ⟨g, j, none⟩ = some (.int .u8 (l[j].toNat : Int)) ∧ w.frozen? ⟨g, j, none⟩ = false
theorem Bytes.set {w : World} {g : Nat} {l : List UInt8} (h : Bytes w g l) (k : Nat) (b : UInt8) : Bytes (w.setCell ⟨g, k, none⟩ (.int .u8 (b.toNat : Int))) g (l.set k b) := by
  intro j hj
  rw [List.length_set] at hj
  obtain ⟨c, z⟩ := h j hj
  refine ⟨?_, by rw [World.frozen?_setCell]; exact z⟩
  by_cases e : k = j
  · subst e
    rw [World.cell?_setCell_same _ _ _ c, List.getElem_set_self]
  · rw [World.cell?_setCell_other _ _ _ _ (by simp <;> omega), List.getElem_set_ne e]; exact c
theorem Bytes.below {w w' : World} {g : Nat} {l : List UInt8} (h : Bytes w g l) (hg : g < w.heap.size) (hb : Below w.heap.size w w') : Bytes w' g l :=
  fun j hj => ⟨(hb.cell (p := ⟨g, j, none⟩) hg).trans (h j hj).1, (hb.frozen (p := ⟨g, j, none⟩) hg).trans (h j hj).2⟩
theorem Bytes.at {w : World} {g : Nat} {l : List UInt8} (h : Bytes w g l) (j : Nat) (hj : j < l.length) : ∃ d : Int, w.cell? ⟨g, j, none⟩ = some (.int .u8 d) ∧ w.frozen? ⟨g, j, none⟩ = false := ⟨_, (h j hj).1, (h j hj).2⟩
theorem conv_bytes (s : ByteArray) (w : World) : ∃ W cap, (convert 9 22 (.string s)).run Tryz.prog w = .ok (.slice (some ⟨w.heap.size, 0, none⟩) s.size cap) W ∧ Bytes W w.heap.size s.data.toList ∧ w.heap.size < W.heap.size ∧ Below w.heap.size w W := by
  have hcv := run_bytes_of_string (P := Tryz.prog) w 9 22 5 s Tryz.underlying9 Tryz.underlying22 Tryz.underlying5
  refine ⟨_, _, hcv, fun j hj => ?_, by simp, (Below.refl _ _).drew.alloc (Nat.le_refl _) _⟩
  have hj' : j < s.data.size := by simpa using hj
  refine ⟨(World.cell?_alloc_mark w.drew _ _ _ j).trans (bytesRow_at s _ j hj'), (World.frozen?_alloc_mark w.drew _ _ _ _ j).trans ?_⟩
  have : ¬ (bytesRow s (grownCap w s.size 0 5)).size ≤ j := by
    unfold bytesRow
    rw [Array.size_append, Array.size_map]; omega
  simp [this]
theorem conv_back {w : World} {g : Nat} {l : List UInt8} (h : Bytes w g l) (n : Nat) (hn : l.length = n) (cap : Nat) : (convert 22 9 (.slice (some ⟨g, 0, none⟩) n cap)).run Tryz.prog w = .ok (.string ⟨l.toArray⟩) w := by
  subst hn
  exact run_convert_bytes_back (P := Tryz.prog) w 22 9 5 ⟨g, 0, none⟩ cap l Tryz.underlying22 Tryz.underlying5 Tryz.underlying9 (fun j hj => by
    have e : (⟨g, 0, none⟩ : Addr).add j = ⟨g, j, none⟩ := by unfold Addr.add; by_cases h : j = 0 <;> simp [h]
    rw [e]
    exact (h j hj).1)
end Go.Proofs.YtibnobdbmojjhaaGreatDoor.By
