import Derived.Test.YtanofnhiopagaaaDoorLibM
namespace Go.Proofs.YtanofnhiopagaaaDoor
open Go.RowKit
theorem add64_small (x y c : Nat) (hc : c ≤ 1) (h : x + y + c < 18446744073709551616) (W : World) :
   (callFunc 82 #[.int .u64 x, .int .u64 y, .int .u64 c]).run Tryd.prog W = .ok (.value (.tuple #[.int .u64 (x + y + c : Nat), .int .u64 0])) W := by
  have := Any7.bits_Add64 Tryd.lays25 x y c hc W
  rw [Nat.div_eq_of_lt (by omega), Nat.mod_eq_of_lt (by omega)] at this
  exact this
end Go.Proofs.YtanofnhiopagaaaDoor
