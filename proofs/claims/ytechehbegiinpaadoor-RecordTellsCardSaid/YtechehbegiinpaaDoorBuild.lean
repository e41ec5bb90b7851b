/-
  strings.Builder's WriteString at a builder that the call has made: the text goes in behind what it holds; and String. (The library's own contract asks for copyCheck's panic, which this dump does not bear; no walk here comes to it.)
-/
import Derived.Test.YtechehbegiinpaaDoorShelf
import Derived.Test.YtechehbegiinpaaDoorBase
import Derived.Lib.FrozenHead
import Derived.Lib.Builder
import Derived.WalkKit
namespace Go.Proofs.YtechehbegiinpaaDoor.Bld
open Go.RowKit

abbrev E : TypeId := 5
theorem infoB : (Tryd.prog.info? 5).map (fun i => (i.zero, i.size, i.bytes)) = some (some (.int .u8 0), 1, 1) := by kernel_rfl
section code
set_option maxHeartbeats 2000000
set_option maxRecDepth 100000
end code
end Go.Proofs.YtechehbegiinpaaDoor.Bld
