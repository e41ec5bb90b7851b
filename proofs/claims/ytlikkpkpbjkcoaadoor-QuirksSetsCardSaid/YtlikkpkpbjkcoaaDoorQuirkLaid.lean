/-
  Layer 5 (quirks): out of the rows' condition on the table of names: what the walks ask.
-/
import Derived.Test.YtlikkpkpbjkcoaaDoorRows
import Derived.Test.YtlikkpkpbjkcoaaDoorQuirks
import Derived.Test.YtlikkpkpbjkcoaaDoorTable
import Derived.MakeChecks
namespace Go.Proofs.YtlikkpkpbjkcoaaDoor.Qk
open Go.RowKit Base

theorem tab_of_laid {W : World} (h : laidMetH Tryd.prog [("parallax/quirks.names", Rows.laid_parallax_quirks_names)] W) : Tab W := by
  rw [MakeChecks.laidMetH_plain _ _ _ (by kernel_rfl)] at h
  obtain ⟨cs, ty, fr, hh, hsz, hl, hc⟩ := Table.row_of_head (zs := names) (rest := []) (g := 0) (t := 47) (e := 9) (n := 30) (by kernel_rfl) (by kernel_rfl) Tryd.underlying47 Tryd.underlying9 (by kernel_rfl) (by kernel_rfl) h
  refine ⟨⟨cs, ty, fr, hh, hsz, fun k hk => hc k (by omega)⟩, ?_⟩
  rcases Nat.lt_or_ge 0 W.heap.size with h | h
  · exact h
  · rw [Array.getElem?_eq_none h] at hh; cases hh
end Go.Proofs.YtlikkpkpbjkcoaaDoor.Qk
