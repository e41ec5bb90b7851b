/-
  Layer 5 (quirks): contracts, further: lists of clauses, the search by name, the document's Needs and Name.
-/
import Derived.Test.YtechehbegiinpaaDoorQuirks
import Derived.Test.YtechehbegiinpaaDoorBase
import Derived.Maps.AppendAt
import Derived.ChangeSame
namespace Go.Proofs.YtechehbegiinpaaDoor.Qk
open Go.RowKit Base

theorem string_info : (Tryd.prog.info? 9).map (fun i => (i.zero, i.size, i.bytes)) = some (some (.string ByteArray.empty), 1, 16) := by kernel_rfl
theorem int_info : (Tryd.prog.info? 3).map (fun i => (i.zero, i.size, i.bytes)) = some (some (.int .i64 0), 1, 8) := by kernel_rfl
theorem snoc_some {zs : List Int} {k : Nat} (h : k < zs.length) : zs.take (k + 1) = zs.take k ++ [zs[k]?.getD 0] := ints_snoc zs k h

section code
set_option maxHeartbeats 1000000
attribute [local go_sem] Base.some_undef
end code
end Go.Proofs.YtechehbegiinpaaDoor.Qk

/-
  The statements' own profiles and bounds, of few numbers.
-/
namespace Go.Proofs.YtechehbegiinpaaDoor.Seat
open Go.RowKit Base Qk

def seatP (a k : Nat) : Nat :=
  if k % 4 = 0 then ofL [((k / 4 % 30 : Nat) : Int)] else if k % 4 = 1 then ofL [((k / 4 % 30 : Nat) : Int), ((a % 30 : Nat) : Int)]
  else if k % 4 = 2 then a % 1073741824 &&& (a % 1073741824) / 128 &&& (a % 1073741824) / 8192 else a % 1073741824
theorem seatP_lt (a k : Nat) : seatP a k < 2 ^ 30 := by
  have h : a % 1073741824 < 2 ^ 30 := Nat.mod_lt _ (by decide)
  unfold seatP
  split
  · exact ofL_lt _
  · split
    · exact ofL_lt _
    · split
      · exact Nat.lt_of_le_of_lt (Nat.le_trans Nat.and_le_left Nat.and_le_left) h
      · exact h
theorem mask30 (a : Nat) (ha : a < 4294967296) : bits .and .u32 (a : Int) 1073741823 = ((a % 1073741824 : Nat) : Int) := by
  rw [show (1073741823 : Int) = ((1073741823 : Nat) : Int) from rfl, u32_and_nat a _ ha (by decide)]
  exact congrArg _ (Nat.and_two_pow_sub_one_eq_mod a 30)

/-- Bounds of a number. -/
def seatB (k : Nat) : Value :=
  Bnd.bnd (if k % 6 = 1 then 64 else if k % 6 = 3 then 80 else 1024) (if k % 6 = 1 then 4 else 32) (if k % 6 = 1 then 256 else 8192) (if k % 6 = 2 then 16 else if k % 6 = 3 then 40 else 65536)
    (if k % 6 = 2 then 0 else 32) (if k % 6 = 2 then 0 else 8) ((k / 32 % 4 : Nat) + 1 : Int) 20 (!decide (k % 8 = 7)) (!decide (12 < k % 16))

section code
set_option maxHeartbeats 1000000
end code
end Go.Proofs.YtechehbegiinpaaDoor.Seat
