/- isLength, turn, Twiddles at 1, 2 and 4 points. -/
import Derived.Test.YtaacgfmpahfmpaaTra
import Derived.Deep.RegionWith
import Derived.Deep.RegionHeld3
import Derived.BigRegion
namespace Go.Proofs.Ytaacgfmpahfmpaa
open Go.RowKit Go.Shelf

def sml (n : Nat) : Prop := n = 1 ∨ n = 2 ∨ n = 4
set_option maxHeartbeats 400000 in
theorem len_any (n : Nat) (h : sml n) (w : World) : Calls Try.prog 56 #[.int .i64 n] w fun e w' => e = .returned (.bool true) ∧ w = w' := by
  rcases h with rfl | rfl | rfl <;> (
    go_enter Try.func56, Try.ntmps56
    go_wp2
    go_ret
    exact ⟨rfl, rfl⟩)

/-- cos and sin of a turn, in bits. -/
def turnB (n : Nat) : Nat × Nat := if n = 1 then (4607182418800017408, 0) else if n = 2 then (13830554455654793216, 0) else (0, 4607182418800017408)
set_option maxHeartbeats 400000 in
theorem turn_any (n : Nat) (h : sml n) (w : World) : Calls Try.prog 57 #[.int .i64 n] w fun e w' => e = .returned (.tuple #[.float .f64 (turnB n).1, .float .f64 (turnB n).2]) ∧ w = w' := by
  rcases h with rfl | rfl | rfl <;> (
    go_enter Try.func57, Try.ntmps57
    go_wp2
    go_ret2
    exact ⟨rfl, rfl⟩)

theorem cv_neg : floatToFloatBits .f64 13830554455654793216 .f32 = some 3212836864 := by kernel_rfl
theorem cv_one : floatToFloatBits .f64 4607182418800017408 .f32 = some 1065353216 := by kernel_rfl
theorem cv_zero : floatToFloatBits .f64 0 .f32 = some 0 := by kernel_rfl
theorem ib_one : Flo.IsI 1065353216 1 := ⟨false, by kernel_rfl, fun _ => by decide, by decide⟩
theorem ib_zero : Flo.IsI 0 0 := ⟨false, by kernel_rfl, fun h => absurd rfl h, by decide⟩
theorem ib_neg : Flo.IsI 3212836864 (-1) := ⟨true, by kernel_rfl, fun _ => by decide, by decide⟩
theorem ib_nzero : Flo.IsI 2147483648 0 := ⟨true, by kernel_rfl, fun h => absurd rfl h, by decide⟩
/-- The first two factors, in bits. -/
def tw0 : P2 := (1065353216, 0)
def tw1 (n : Nat) : P2 := if n = 1 then (1065353216, 2147483648) else if n = 2 then (3212836864, 2147483648) else (0, 3212836864)
end Go.Proofs.Ytaacgfmpahfmpaa
