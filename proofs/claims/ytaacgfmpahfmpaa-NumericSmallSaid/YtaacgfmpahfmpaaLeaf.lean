/- Contracts of the leaves of package numeric. -/
import Derived.Test.YtaacgfmpahfmpaaRows
import Derived.Test.YtaacgfmpahfmpaaProg
import Derived.Test.YtaacgfmpahfmpaaFlo
import Derived.WalkKit
import Derived.WalkSpells
import Derived.WalkLawsBesides
import Derived.Lib.Hide
namespace Go.Proofs.Ytaacgfmpahfmpaa
open Go.RowKit

theorem ext44 (b : Nat) (w : World) : (callFunc 44 #[.float .f32 b]).run Try.prog w = .ok (.value (.int .u32 b)) w := by
  rw [run_callFunc_extern (e := Extern.MathFloatBits.float32bits) Try.func44 (by kernel_rfl) (by kernel_rfl) (by kernel_rfl) (by kernel_rfl)]
  rfl
theorem ext55 (b : Int) (w : World) : (callFunc 55 #[.int .u32 b]).run Try.prog w = .ok (.value (.float .f32 b.toNat)) w := by
  rw [run_callFunc_extern (e := Extern.MathFloatBits.float32frombits) Try.func55 (by kernel_rfl) (by kernel_rfl) (by kernel_rfl) (by kernel_rfl)]
  rfl

set_option maxHeartbeats 400000 in
/-- 'bits' of what is a number. -/
theorem bits_any (b : Nat) (h : (FloatKind.f32.format.order b b != some .eq) = false) (w : World) :
    Calls Try.prog 48 #[.float .f32 b] w fun e w' => e = .returned (.int .u32 b) ∧ w = w' := by
  have E := ext44
  go_enter Try.func48, Try.ntmps48
  go_wp2
  go_ret
  exact ⟨rfl, rfl⟩
set_option maxHeartbeats 400000 in
theorem clean_any (b : Nat) (h : (FloatKind.f32.format.order b b != some .eq) = false) (w : World) :
    Calls Try.prog 63 #[.int .u32 b] w fun e w' => e = .returned (.float .f32 b) ∧ w = w' := by
  have E := ext55
  have B := Lib.hid (bits_any b h)
  clear h
  go_enter Try.func63, Try.ntmps63
  go_wp2_with ((with_reducible refine (B.out _).mono ?_); rintro e w' ⟨rfl, rfl⟩)
  go_ret
  exact ⟨rfl, rfl⟩
end Go.Proofs.Ytaacgfmpahfmpaa
