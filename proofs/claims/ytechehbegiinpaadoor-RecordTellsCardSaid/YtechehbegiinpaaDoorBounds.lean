/-
  Layer 4 (bounds): contracts of package bounds and of parallaxref4's (Right, Usual, Wide, Window).
-/
import Derived.Test.YtechehbegiinpaaDoorBase
namespace Go.Proofs.YtechehbegiinpaaDoor.Bnd
open Go.RowKit Base

/-- n, moved into lo .. hi. -/
def mid (lo n hi : Int) : Int := if lo < (if n > hi then hi else n) then (if n > hi then hi else n) else lo
def inside (n lo hi : Int) : Bool := decide (lo ≤ n) && decide (n ≤ hi)
theorem mid_iff (lo n hi : Int) (h : lo ≤ hi) : (n = mid lo n hi) ↔ inside n lo hi = true := by
  unfold mid inside
  simp only [Bool.and_eq_true, decide_eq_true_eq]
  constructor
  · intro e; split at e <;> (try split at e) <;> omega
  · intro e; split <;> (try split) <;> omega

/-- A struct of eight numbers and two bools. -/
abbrev bnd (x0 x1 x2 x3 x4 x5 x6 x7 : Int) (c d : Bool) : Value := .agg #[.int .i64 x0, .int .i64 x1, .int .i64 x2, .int .i64 x3, .int .i64 x4, .int .i64 x5, .int .i64 x6, .int .i64 x7, .bool c, .bool d]

def right (x0 x1 x2 x3 x4 x5 x6 x7 : Int) : Bool :=
  inside x0 64 4096 && (inside x1 4 100 && (inside x2 256 65536 && (inside x3 16 1048576 && (inside x4 0 256 && (inside x5 0 100 && (inside x6 1 16 && inside x7 1 1000))))))

/-- A block holds such a struct from its start. -/
structure At (w : World) (g : Nat) (x0 x1 x2 x3 x4 x5 x6 x7 : Int) (c d : Bool) : Prop where
  q0 : w.cell? ⟨g, 0, none⟩ = some (.int .i64 x0)
  q1 : w.cell? ⟨g, 1, none⟩ = some (.int .i64 x1)
  q2 : w.cell? ⟨g, 2, none⟩ = some (.int .i64 x2)
  q3 : w.cell? ⟨g, 3, none⟩ = some (.int .i64 x3)
  q4 : w.cell? ⟨g, 4, none⟩ = some (.int .i64 x4)
  q5 : w.cell? ⟨g, 5, none⟩ = some (.int .i64 x5)
  q6 : w.cell? ⟨g, 6, none⟩ = some (.int .i64 x6)
  q7 : w.cell? ⟨g, 7, none⟩ = some (.int .i64 x7)
  q8 : w.cell? ⟨g, 8, none⟩ = some (.bool c)
  q9 : w.cell? ⟨g, 9, none⟩ = some (.bool d)
section
variable {w w' : World} {g : Nat} {x0 x1 x2 x3 x4 x5 x6 x7 : Int} {c d : Bool}
theorem At.below (h : At w g x0 x1 x2 x3 x4 x5 x6 x7 c d) (hg : g < w.heap.size) (hb : Below w.heap.size w w') : At w' g x0 x1 x2 x3 x4 x5 x6 x7 c d :=
  ⟨(hb.cell (p := ⟨g, 0, none⟩) hg).trans h.q0, (hb.cell (p := ⟨g, 1, none⟩) hg).trans h.q1, (hb.cell (p := ⟨g, 2, none⟩) hg).trans h.q2, (hb.cell (p := ⟨g, 3, none⟩) hg).trans h.q3, (hb.cell (p := ⟨g, 4, none⟩) hg).trans h.q4,
   (hb.cell (p := ⟨g, 5, none⟩) hg).trans h.q5, (hb.cell (p := ⟨g, 6, none⟩) hg).trans h.q6, (hb.cell (p := ⟨g, 7, none⟩) hg).trans h.q7, (hb.cell (p := ⟨g, 8, none⟩) hg).trans h.q8, (hb.cell (p := ⟨g, 9, none⟩) hg).trans h.q9⟩
theorem At.new (w : World) (t : TypeId) (x0 x1 x2 x3 x4 x5 x6 x7 : Int) (c d : Bool) : At (w.alloc (.cells #[.int .i64 x0, .int .i64 x1, .int .i64 x2, .int .i64 x3, .int .i64 x4, .int .i64 x5, .int .i64 x6, .int .i64 x7, .bool c, .bool d] t)) w.heap.size x0 x1 x2 x3 x4 x5 x6 x7 c d := by
  have h : ∀ k v, (#[Value.int .i64 x0, .int .i64 x1, .int .i64 x2, .int .i64 x3, .int .i64 x4, .int .i64 x5, .int .i64 x6, .int .i64 x7, .bool c, .bool d] : Array Value)[k]? = some v → (w.alloc (.cells #[.int .i64 x0, .int .i64 x1, .int .i64 x2, .int .i64 x3, .int .i64 x4, .int .i64 x5, .int .i64 x6, .int .i64 x7, .bool c, .bool d] t)).cell? ⟨w.heap.size, k, none⟩ = some v :=
    fun k v h => (cell_of_row (w.alloc _) w.heap.size k _ t (0, 0) (heap_alloc_new w _)).trans h
  exact ⟨h 0 _ rfl, h 1 _ rfl, h 2 _ rfl, h 3 _ rfl, h 4 _ rfl, h 5 _ rfl, h 6 _ rfl, h 7 _ rfl, h 8 _ rfl, h 9 _ rfl⟩
end

section code
set_option maxHeartbeats 1000000
attribute [local go_sem] Base.some_undef
end code
end Go.Proofs.YtechehbegiinpaaDoor.Bnd
