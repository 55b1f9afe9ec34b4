/- Contracts of the reference: Keywords, Symbols, has, IsIdent. -/
import Derived.Test.YtanofnhiopagaaaDoorRef1
namespace Go.Proofs.YtanofnhiopagaaaDoor
open Go.RowKit

set_option maxRecDepth 100000 in
set_option maxHeartbeats 1000000 in
theorem r_keywords (w : World) :
    Calls Tryd.prog 15 #[] w fun e w' => e = .returned (.slice (some ⟨w.heap.size, 0, none⟩) 51 51) ∧ w' = w.alloc (.cells (cellsOfL kwBytes) 9) := by
  go_enter Tryd.func15, Tryd.ntmps15
  go_wp2
  go_ret
  refine ⟨rfl, ?_⟩
  congr 2
set_option maxRecDepth 100000 in
set_option maxHeartbeats 1000000 in
theorem r_symbols (w : World) :
    Calls Tryd.prog 17 #[] w fun e w' => e = .returned (.slice (some ⟨w.heap.size, 0, none⟩) 43 43) ∧ w' = w.alloc (.cells (cellsOfL symBytes) 9) := by
  go_enter Tryd.func17, Tryd.ntmps17
  go_wp2
  go_ret
  refine ⟨rfl, ?_⟩
  congr 2
end Go.Proofs.YtanofnhiopagaaaDoor
