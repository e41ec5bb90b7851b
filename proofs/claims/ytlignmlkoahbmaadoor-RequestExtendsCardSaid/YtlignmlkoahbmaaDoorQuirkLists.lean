/-
  Layer 5 (quirks): contracts, further: lists of clauses, the search by name, the document's Needs and Name.
-/
import Derived.Test.YtlignmlkoahbmaaDoorQuirks
import Derived.Test.YtlignmlkoahbmaaDoorTable
import Derived.Maps.AppendAt
import Derived.ChangeSame
namespace Go.Proofs.YtlignmlkoahbmaaDoor.Qk
open Go.RowKit Base

theorem string_info : (Tryd.prog.info? 9).map (fun i => (i.zero, i.size, i.bytes)) = some (some (.string ByteArray.empty), 1, 16) := by kernel_rfl
theorem int_info : (Tryd.prog.info? 3).map (fun i => (i.zero, i.size, i.bytes)) = some (some (.int .i64 0), 1, 8) := by kernel_rfl
theorem snoc_some {zs : List Int} {k : Nat} (h : k < zs.length) : zs.take (k + 1) = zs.take k ++ [zs[k]?.getD 0] := ints_snoc zs k h

section code
set_option maxHeartbeats 1000000
attribute [local go_sem] Base.some_undef
end code
end Go.Proofs.YtlignmlkoahbmaaDoor.Qk
