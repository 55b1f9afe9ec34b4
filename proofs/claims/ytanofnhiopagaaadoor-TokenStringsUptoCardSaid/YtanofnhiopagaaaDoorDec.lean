/- Contracts: Div64 (hi = 0), decimal (numbers below 2^64). -/
import Derived.Test.YtanofnhiopagaaaDoorNum
import Derived.BigQuiet
namespace Go.Proofs.YtanofnhiopagaaaDoor
open Go.RowKit

set_option maxRecDepth 100000 in
set_option maxHeartbeats 400000 in
theorem div64_small (v : Nat) (W : World) (hv : v < 18446744073709551616) :
    Calls Tryd.prog 78 #[.int .u64 0, .int .u64 v, .int .u64 10] W fun e w' => e = .returned (.tuple #[.int .u64 ((v / 10 : Nat) : Int), .int .u64 ((v % 10 : Nat) : Int)]) ∧ ∃ n, w' = W.drewN n := by
  have i1 : (0 : Int) ≤ v := by omega
  have i2 : (v : Int) < 18446744073709551616 := by omega
  go_enter Tryd.func78, Tryd.ntmps78
  go_wp2
  go_quiet (fail)
  go_wp2
  go_ret2
  refine ⟨?_, _, rfl⟩
  rw [show ((v / 10 : Nat) : Int) = (v : Int) / 10 from by omega, show ((v % 10 : Nat) : Int) = (v : Int) % 10 from by omega]
  rfl
end Go.Proofs.YtanofnhiopagaaaDoor
