/- NumericSmall holds: whatever the input, the call returns true, and each argument reads as it did. No condition. -/
import Derived.Test.YtaacgfmpahfmpaaRows
import Derived.Test.YtaacgfmpahfmpaaSmn
import Derived.ProofKit
import Derived.WideKeyPair
import Derived.OpenShut
namespace Go.Proofs.Ytaacgfmpahfmpaa
open Go.ChangeShapes Go.WideShapes Go.ChangeAt Go.RowKit
open Go.WideMaps (ArrKey open_pair shut_pair)

theorem Small.own : ownKnob Try.prog.godebug = none := by kernel_rfl
theorem Small.arr : ArrKey Try.prog 64 63 2 := ⟨Try.underlying64, by kernel_rfl, by kernel_rfl, by kernel_rfl⟩
theorem i16_le {a : Int} (h : (Lit.int .i16 a).wf = true) : -32768 ≤ a ∧ a ≤ 32767 := by
  have g : IntKind.i16.min ≤ a ∧ a ≤ IntKind.i16.max := by simpa [Lit.wf] using h
  exact g
theorem u8_ge {a : Int} (h : (Lit.int .u8 a).wf = true) : 0 ≤ a := by
  have g : IntKind.u8.min ≤ a ∧ a ≤ IntKind.u8.max := by simpa [Lit.wf] using h
  exact g.1

set_option maxRecDepth 100000 in
theorem small_lifted (os : Os) (started : os.Started) (H : Type) (enc : TypeId × Value → H) :
    ReturnsInHanded {} Try.checked os 6 .any (Rows.numericSmallSpec.pre6 enc Try.prog Try.f6 Rows.numericSmallRow.domain false) (Rows.numericSmallSpec.post enc Try.prog Try.f6 false true false false) := by
  refine returnsInHanded_of_change (C := Try.checked) Small.own started (by kernel_rfl) Try.func6
    (ChangeSpec.witness6 (enc := enc) (C := Try.checked) false ⟨#[], #[.agg #[.int .i16 0, .int .i16 0], .agg #[.int .i16 0, .int .i16 0], .agg #[.int .i16 0, .int .i16 0], .int .u8 0], []⟩ 8 (by kernel_rfl) (by kernel_rfl) (by kernel_rfl) (by kernel_rfl)) ?_
  intro W base args ds gs before hval0 hW hcnd _
  have hval : ∀ (j : Nat) t v, Try.f6.params[j]? = some t → args[j]? = some v → Value.okWide Try.prog W .any base t v := hval0
  have hW' := hW
  obtain ⟨p, q, hA0, hV, rfl, hfz, hnd⟩ := hW
  have hA : DataW.TrodAll enc Try.prog W 0 (fun _ => true) true Try.f6.params.toList args.toList ds p := hA0
  rw [Try.params6] at hA hval
  obtain ⟨v0, vs0, d0, ds0, p0, q0, hargs, rfl, rfl, h0, r0⟩ := trodAll_cons hA
  obtain ⟨v1, vs1, d1, ds1, p1, q1, rfl, rfl, rfl, h1, r1⟩ := trodAll_cons r0
  obtain ⟨v2, vs2, d2, ds2, p2, q2, rfl, rfl, rfl, h2, r2⟩ := trodAll_cons r1
  obtain ⟨v3, vs3, d3, ds3, p3, q3, rfl, rfl, rfl, h3, r3⟩ := trodAll_cons r2
  obtain ⟨rfl, rfl, rfl⟩ := trodAll_nil r3
  obtain rfl : args = #[v0, v1, v2, v3] := by cases args; simp_all
  obtain ⟨rfl, rfl⟩ := trodVars_none hV
  obtain ⟨x0, x1, rfl, rfl, rfl, wx0, wx1⟩ := open_pair Small.arr Try.underlying63 (hval 0 64 v0 rfl rfl) h0
  obtain ⟨y0, y1, rfl, rfl, rfl, wy0, wy1⟩ := open_pair Small.arr Try.underlying63 (hval 1 64 v1 rfl rfl) h1
  obtain ⟨z0, z1, rfl, rfl, rfl, wz0, wz1⟩ := open_pair Small.arr Try.underlying63 (hval 2 64 v2 rfl rfl) h2
  obtain ⟨k, rfl, rfl, rfl, wk⟩ := open_int Try.underlying5 (hval 3 5 v3 rfl rfl) h3
  clear hA0 hval0 hval hargs
  simp only [List.append_nil] at hW'
  refine (law_any x0 x1 y0 y1 z0 z1 k (i16_le wx0) (i16_le wx1) (i16_le wy0) (i16_le wy1) (i16_le wz0) (i16_le wz1) (u8_ge wk) W).mono fun e W' ⟨he, bel⟩ => ?_
  subst he
  have e1 : Rows.numericSmallSpec.fn H ([.agg [.lit (.int .i16 x0), .lit (.int .i16 x1)], .agg [.lit (.int .i16 y0), .lit (.int .i16 y1)], .agg [.lit (.int .i16 z0), .lit (.int .i16 z1)], .lit (.int .u8 k)] ++ []) = { results := [.lit (.bool true)], args := [.agg [.lit (.int .i16 x0), .lit (.int .i16 x1)], .agg [.lit (.int .i16 y0), .lit (.int .i16 y1)], .agg [.lit (.int .i16 z0), .lit (.int .i16 z1)], .lit (.int .u8 k)] } := rfl
  refine ⟨_, rfl, _, _, _, [], [], [], hW', ?_, ?_, ?_, bel.frame _, fun h => by cases h⟩
  · rw [e1]; exact trodAll_mk1 (shut_bool Try.underlying4 _)
  · rw [e1]; exact trodAll_cons_mk (shut_pair Small.arr Try.underlying63 wx0 wx1) (trodAll_cons_mk (shut_pair Small.arr Try.underlying63 wy0 wy1) (trodAll_cons_mk (shut_pair Small.arr Try.underlying63 wz0 wz1) (trodAll_cons_mk (shut_int Try.underlying5 wk) trodAll_mk0)))
  · rw [e1]; rfl

theorem small_holds : Rows.NumericSmallSaid :=
  OpenClaim.holds_of_wide 6 Try.f6 rfl rfl rfl rfl rfl rfl rfl ⟨rfl, rfl, rfl, rfl, rfl⟩ rfl rfl rfl rfl rfl (by kernel_rfl) Try.func6 (by kernel_rfl)
    (of_decide_eq_true (by kernel_rfl)) (by unfold Func.isWrapper; first | (rw [if_pos (by decide +kernel)]; kernel_rfl) | (rw [if_neg (by decide +kernel)]; exact ⟨rfl, rfl⟩))
    (fun os started H enc _ => small_lifted os started H enc)
end Go.Proofs.Ytaacgfmpahfmpaa
