/- Abs at 3 + 4i; the reference's Of. -/
import Derived.Test.YtaacgfmpahfmpaaInt
namespace Go.Proofs.Ytaacgfmpahfmpaa
open Go.RowKit
open Flo (IsI)

theorem sq25 : FloatKind.f64.format.sqrt 4627730092099895296 = some 4617315517961601024 := by kernel_rfl
theorem sqx (x r : Nat) (h : FloatKind.f64.format.sqrt x = some r) : Extern.MathSqrt.sqrt #[.float .f64 x] = (pure (.float .f64 r) : Sem Value) := by
  show (match FloatKind.f64.format.sqrt x with | some r => (pure (Value.float .f64 r) : Sem Value) | none => do pure (Value.float .f64 (← choose (.nanBits .f64 x x)))) = _
  rw [h]
theorem ext64 (w : World) : (callFunc 64 #[.float .f64 4627730092099895296]).run Try.prog w = .ok (.value (.float .f64 4617315517961601024)) w := by
  rw [run_callFunc_extern (e := Extern.MathSqrt.sqrt) Try.func64 (by kernel_rfl) (by kernel_rfl) (by kernel_rfl) (by kernel_rfl)]
  rw [sqx _ _ sq25]
  rfl
theorem sqrt25 (w : World) : Calls Try.prog 54 #[.float .f64 4627730092099895296] w fun e w' => e = .returned (.float .f64 4617315517961601024) ∧ w = w' := by
  have E := ext64
  go_enter Try.func54, Try.ntmps54
  go_wp2
  go_ret
  exact ⟨rfl, rfl⟩
set_option maxHeartbeats 400000 in
theorem rbits_any (b : Nat) (h : (FloatKind.f32.format.order b b != some .eq) = false) (w : World) :
    Calls Try.prog 53 #[.float .f32 b] w fun e w' => e = .returned (.int .u32 b) ∧ w = w' := by
  have E := ext44
  go_enter Try.func53, Try.ntmps53
  go_wp2
  go_ret
  exact ⟨rfl, rfl⟩
set_option maxHeartbeats 400000 in
theorem rof_any (a b : Nat) (ha : Num a) (hb : Num b) (w : World) :
    Calls Try.prog 24 #[.float .f32 a, .float .f32 b] w fun e w' => e = .returned (nv a b) ∧ Below w.heap.size w w' := by
  have A := Lib.hid (rbits_any a ha)
  have B := Lib.hid (rbits_any b hb)
  clear ha hb
  go_enter Try.func24, Try.ntmps24
  go_wp2_with (first
    | ((with_reducible refine (A.out _).mono ?_); rintro e w' ⟨rfl, rfl⟩)
    | ((with_reducible refine (B.out _).mono ?_); rintro e w' ⟨rfl, rfl⟩))
  exact bodyPost_ret (v := nv a b) (by simp [results, Try.results24, go_sem]) rfl ⟨rfl, (Below.refl _ w).alloc (Nat.le_refl _) _⟩

theorem num3 : Num 1077936128 := by unfold Num; kernel_rfl
theorem num4 : Num 1082130432 := by unfold Num; kernel_rfl
theorem num5 : Num 1084227584 := by unfold Num; kernel_rfl
set_option maxHeartbeats 1000000 in
theorem abs34 (w : World) : Calls Try.prog 25 #[.agg #[.int .u32 1077936128, .int .u32 1082130432]] w fun e w' => e = .returned (.int .u32 1084227584) ∧ Below w.heap.size w w' := by
  have P : Hid (∀ w, Calls Try.prog 11 #[.agg #[.int .u32 1077936128, .int .u32 1082130432]] w fun e w' => e = .returned (.tuple #[.float .f32 1077936128, .float .f32 1082130432]) ∧ Below w.heap.size w w') := Lib.hid (parts_any _ _ num3 num4)
  have S := sqrt25
  have B := Lib.hid (bits_any 1084227584 num5)
  have c3 : floatToFloatBits .f32 1077936128 .f64 = some 4613937818241073152 := by kernel_rfl
  have c4 : floatToFloatBits .f32 1082130432 .f64 = some 4616189618054758400 := by kernel_rfl
  have c5 : floatToFloatBits .f64 4617315517961601024 .f32 = some 1084227584 := by kernel_rfl
  have m3 := fun (t : TypeId) (w : World) => run_float_arith (P := Try.prog) w .mul t .f64 4613937818241073152 4613937818241073152 4621256167635550208 (by kernel_rfl)
  have m4 := fun (t : TypeId) (w : World) => run_float_arith (P := Try.prog) w .mul t .f64 4616189618054758400 4616189618054758400 4625196817309499392 (by kernel_rfl)
  have m5 := fun (t : TypeId) (w : World) => run_float_arith (P := Try.prog) w .add t .f64 4621256167635550208 4625196817309499392 4627730092099895296 (by kernel_rfl)
  have k3 : ∀ w, (convert 29 86 (.float .f32 1077936128)).run Try.prog w = .ok (.float .f64 4613937818241073152) w := fun w => run_convert_float_float w 29 86 .f32 .f64 _ _ (by rw [Try.underlying29]; rfl) Try.underlying86 c3
  have k4 : ∀ w, (convert 29 86 (.float .f32 1082130432)).run Try.prog w = .ok (.float .f64 4616189618054758400) w := fun w => run_convert_float_float w 29 86 .f32 .f64 _ _ (by rw [Try.underlying29]; rfl) Try.underlying86 c4
  have k5 : ∀ w, (convert 86 29 (.float .f64 4617315517961601024)).run Try.prog w = .ok (.float .f32 1084227584) w := fun w => run_convert_float_float w 86 29 .f64 .f32 _ _ (by rw [Try.underlying86]; rfl) Try.underlying29 c5
  clear c3 c4 c5
  go_enter Try.func25, Try.ntmps25
  go_wp2_with (first
    | (go_at_call 11; (with_reducible refine (P.out _).mono ?_); rintro e w1 ⟨rfl, hb1⟩)
    | (go_at_call 54; (refine (S _).mono ?_); rintro e w2 ⟨rfl, rfl⟩)
    | (go_at_call 48; (refine (B.out _).mono ?_); rintro e w3 ⟨rfl, rfl⟩))
  go_ret
  exact ⟨rfl, bel_alloc hb1⟩
end Go.Proofs.Ytaacgfmpahfmpaa
