/- The law's awake. -/
import Derived.Test.YtaacgfmpahfmpaaAbs
import Derived.Test.YtaacgfmpahfmpaaDft
namespace Go.Proofs.Ytaacgfmpahfmpaa
open Go.RowKit Go.Shelf
open Flo (IsI)

theorem of39_at (n m : Int) (a b : Nat) (hn : n.natAbs < 2 ^ 24) (hm : m.natAbs < 2 ^ 24) (ha : floatOfInt .f32 n = a) (hb : floatOfInt .f32 m = b) (w : World) :
    Calls Try.prog 39 #[.int .i64 n, .int .i64 m] w fun e w' => e = .returned (nv a b) ∧ Below w.heap.size w w' := by
  subst ha; subst hb; exact of39 n m hn hm w
theorem of00 (w : World) : Calls Try.prog 39 #[.int .i64 0, .int .i64 0] w fun e w' => e = .returned (.agg #[.int .u32 0, .int .u32 0]) ∧ Below w.heap.size w w' := of39_at 0 0 0 0 (by decide) (by decide) (by kernel_rfl) (by kernel_rfl) w
theorem of10 (w : World) : Calls Try.prog 39 #[.int .i64 1, .int .i64 0] w fun e w' => e = .returned (.agg #[.int .u32 1065353216, .int .u32 0]) ∧ Below w.heap.size w w' := of39_at 1 0 1065353216 0 (by decide) (by decide) (by kernel_rfl) (by kernel_rfl) w
theorem of12 (w : World) : Calls Try.prog 39 #[.int .i64 1, .int .i64 2] w fun e w' => e = .returned (.agg #[.int .u32 1065353216, .int .u32 1073741824]) ∧ Below w.heap.size w w' := of39_at 1 2 1065353216 1073741824 (by decide) (by decide) (by kernel_rfl) (by kernel_rfl) w
theorem of31 (w : World) : Calls Try.prog 39 #[.int .i64 3, .int .i64 (-1)] w fun e w' => e = .returned (.agg #[.int .u32 1077936128, .int .u32 3212836864]) ∧ Below w.heap.size w w' := of39_at 3 (-1) 1077936128 3212836864 (by decide) (by decide) (by kernel_rfl) (by kernel_rfl) w
theorem of55 (w : World) : Calls Try.prog 39 #[.int .i64 5, .int .i64 5] w fun e w' => e = .returned (.agg #[.int .u32 1084227584, .int .u32 1084227584]) ∧ Below w.heap.size w w' := of39_at 5 5 1084227584 1084227584 (by decide) (by decide) (by kernel_rfl) (by kernel_rfl) w
theorem of34 (w : World) : Calls Try.prog 39 #[.int .i64 3, .int .i64 4] w fun e w' => e = .returned (.agg #[.int .u32 1077936128, .int .u32 1082130432]) ∧ Below w.heap.size w w' := of39_at 3 4 1077936128 1082130432 (by decide) (by decide) (by kernel_rfl) (by kernel_rfl) w
theorem isI_word {b : Nat} {n : Int} (h : IsI b n) (hn : n ≠ 0) (m : Nat) (e : Flo.ib (decide (n < 0)) n.natAbs = m) : b = m := by
  obtain ⟨s, rfl, h1, _⟩ := h
  rw [h1 hn]; exact e
theorem ib3 : IsI 1077936128 3 := ⟨false, by kernel_rfl, by decide, by decide⟩
theorem ibm1 : IsI 3212836864 (-1) := ⟨true, by kernel_rfl, by decide, by decide⟩
theorem ib1 : IsI 1065353216 1 := ⟨false, by kernel_rfl, by decide, by decide⟩
theorem ib2 : IsI 1073741824 2 := ⟨false, by kernel_rfl, by decide, by decide⟩
theorem mul55 (w : World) : Calls Try.prog 15 #[.agg #[.int .u32 1065353216, .int .u32 1073741824], .agg #[.int .u32 1077936128, .int .u32 3212836864]] w fun e w' => e = .returned (.agg #[.int .u32 1084227584, .int .u32 1084227584]) ∧ Below w.heap.size w w' := by
  obtain ⟨x, y, i1, i2, c⟩ := mul_ex (A := 2) (B := 3) ib1 ib2 ib3 ibm1 (by decide) (by decide) (by decide) (by decide) (by decide)
  have e1 : x = 1084227584 := isI_word i1 (by decide) _ (by kernel_rfl)
  have e2 : y = 1084227584 := isI_word i2 (by decide) _ (by kernel_rfl)
  subst e1; subst e2
  exact c w

/-- Transform of the example. -/
def xs4 : List P2 := [(0, 0), (1065353216, 0), (0, 0), (0, 0)]
theorem tr_ex : ∃ y0 y1 y2 y3 : P2, GI y0 (1, 0) ∧ GI y1 (0, -1) ∧ GI y2 (-1, 0) ∧ GI y3 (0, 1) ∧
    ∀ v W, Nums W.heap.size W v xs4 → Calls Try.prog 34 #[v, .bool false] W (TFp [y0, y1, y2, y3] W) := by
  have g0 : GI ((0, 0) : P2) (0, 0) := ⟨ib_zero, ib_zero⟩
  have g1 : GI ((1065353216, 0) : P2) (1, 0) := ⟨ib1, ib_zero⟩
  have l0 : Le (0, 0) 1 := ⟨by decide, by decide⟩
  obtain ⟨y0, y1, y2, y3, h0, h1, h2, h3, c⟩ := fwd4 g0 g1 g0 g0 l0 le_w0 l0 l0 (by decide)
  exact ⟨y0, y1, y2, y3, h0, h1, h2, h3, c⟩

/-- A new row of numbers. -/
theorem nums_new4 (W : World) (x0 x1 x2 x3 : P2) : Nums (W.alloc (.cells #[.int .u32 x0.1, .int .u32 x0.2, .int .u32 x1.1, .int .u32 x1.2, .int .u32 x2.1, .int .u32 x2.2, .int .u32 x3.1, .int .u32 x3.2] 32)).heap.size
    (W.alloc (.cells #[.int .u32 x0.1, .int .u32 x0.2, .int .u32 x1.1, .int .u32 x1.2, .int .u32 x2.1, .int .u32 x2.2, .int .u32 x3.1, .int .u32 x3.2] 32)) (.slice (some ⟨W.heap.size, 0, none⟩) 4 4) [x0, x1, x2, x3] := by
  refine ⟨W.heap.size, 0, 4, rfl, by simp, by simp, by decide, ?_, ?_⟩ <;> intro j hj
  all_goals
    have h := heap_alloc_new W (.cells #[.int .u32 x0.1, .int .u32 x0.2, .int .u32 x1.1, .int .u32 x1.2, .int .u32 x2.1, .int .u32 x2.2, .int .u32 x3.1, .int .u32 x3.2] 32)
    obtain rfl | rfl | rfl | rfl : j = 0 ∨ j = 1 ∨ j = 2 ∨ j = 3 := by simp at hj; omega
  all_goals exact cell_of_row _ _ _ _ _ (0, 0) h

def Bl (w W : World) : Prop := Below w.heap.size w W
theorem Bl.refl (w : World) : Bl w w := Below.refl _ w
theorem Bl.alloc {w W : World} (h : Bl w W) (o : Obj) : Bl w (W.alloc o) := Below.alloc (show Below w.heap.size w W from h) (show Below w.heap.size w W from h).size o
theorem Bl.call {w W W' : World} (h : Bl w W) (hb : Below W.heap.size W W') : Bl w W' := (show Below w.heap.size w W from h).trans (hb.mono (show Below w.heap.size w W from h).size)
theorem Bl.trans {w W W' : World} (h : Bl w W) (h2 : Bl W W') : Bl w W' := h.call h2
theorem Bl.drewN {w W : World} (h : Bl w W) (n : Nat) : Bl w (W.drewN n) := (show Below w.heap.size w W from h).trans (bel_drewN (Below.refl _ W) n)
theorem Bl.nums {w W : World} {v : Value} {xs : List P2} (h : Bl w W) (hn : Nums w.heap.size w v xs) : Nums w.heap.size W v xs := hn.below h (Nat.le_refl _)
theorem bl_calls {f : FuncId} {args : Array Value} {r : Value} (C : ∀ W, Calls Try.prog f args W fun e w' => e = .returned r ∧ Below W.heap.size W w') {w W : World} (h : Bl w W) :
    Calls Try.prog f args W fun e w' => e = .returned r ∧ Bl w w' := (C W).mono fun _ _ ⟨a, b⟩ => ⟨a, h.call b⟩

theorem num0 : Num 0 := by unfold Num; kernel_rfl
theorem num1 : Num 1065353216 := by unfold Num; kernel_rfl
theorem numm1 : Num 3212836864 := by unfold Num; kernel_rfl
theorem rof10 (W : World) : Calls Try.prog 24 #[.float .f32 1065353216, .float .f32 0] W fun e w' => e = .returned (.agg #[.int .u32 1065353216, .int .u32 0]) ∧ Below W.heap.size W w' := rof_any _ _ num1 num0 W
theorem rof0m (W : World) : Calls Try.prog 24 #[.float .f32 0, .float .f32 3212836864] W fun e w' => e = .returned (.agg #[.int .u32 0, .int .u32 3212836864]) ∧ Below W.heap.size W w' := rof_any _ _ num0 numm1 W
theorem rofm0 (W : World) : Calls Try.prog 24 #[.float .f32 3212836864, .float .f32 0] W fun e w' => e = .returned (.agg #[.int .u32 3212836864, .int .u32 0]) ∧ Below W.heap.size W w' := rof_any _ _ numm1 num0 W
theorem rof01 (W : World) : Calls Try.prog 24 #[.float .f32 0, .float .f32 1065353216] W fun e w' => e = .returned (.agg #[.int .u32 0, .int .u32 1065353216]) ∧ Below W.heap.size W w' := rof_any _ _ num0 num1 W
/-- What awake wants. -/
def wt4 : List P2 := [(1065353216, 0), (0, 3212836864), (3212836864, 0), (0, 1065353216)]
theorem wt_new (W : World) : Nums (W.alloc (.cells #[.int .u32 1065353216, .int .u32 0, .int .u32 0, .int .u32 3212836864, .int .u32 3212836864, .int .u32 0, .int .u32 0, .int .u32 1065353216] 38)).heap.size
    (W.alloc (.cells #[.int .u32 1065353216, .int .u32 0, .int .u32 0, .int .u32 3212836864, .int .u32 3212836864, .int .u32 0, .int .u32 0, .int .u32 1065353216] 38)) (.slice (some ⟨W.heap.size, 0, none⟩) 4 4) wt4 := by
  refine ⟨W.heap.size, 0, 4, rfl, by simp, by decide, by decide, ?_, ?_⟩ <;> intro j hj
  all_goals
    have h := heap_alloc_new W (.cells #[.int .u32 1065353216, .int .u32 0, .int .u32 0, .int .u32 3212836864, .int .u32 3212836864, .int .u32 0, .int .u32 0, .int .u32 1065353216] 38)
    obtain rfl | rfl | rfl | rfl : j = 0 ∨ j = 1 ∨ j = 2 ∨ j = 3 := by simp [wt4] at hj; omega
  all_goals exact cell_of_row _ _ _ _ _ (0, 0) h

/-- What is read is what is wanted. -/
def Want (ys : List P2) : Prop := ys.length = 4 ∧ ∀ k, k < 4 → Num (el ys k).1 ∧ Num (el ys k).2 ∧
  (FloatKind.f32.format.order (el ys k).1 (el wt4 k).1 == some .eq) = true ∧ (FloatKind.f32.format.order (el ys k).2 (el wt4 k).2 == some .eq) = true
theorem want_ex {y0 y1 y2 y3 : P2} (g0 : GI y0 (1, 0)) (g1 : GI y1 (0, -1)) (g2 : GI y2 (-1, 0)) (g3 : GI y3 (0, 1)) : Want [y0, y1, y2, y3] := by
  have E : ∀ {a c : Nat} {n : Int}, IsI a n → IsI c n → (FloatKind.f32.format.order a c == some .eq) = true := fun ha hc => by
    have := Flo.order_int ha hc
    simpa [FloatKind.format] using this
  refine ⟨rfl, fun k hk => ?_⟩
  obtain rfl | rfl | rfl | rfl : k = 0 ∨ k = 1 ∨ k = 2 ∨ k = 3 := by omega
  · exact ⟨num_int g0.1, num_int g0.2, E g0.1 ib1, E g0.2 ib_zero⟩
  · exact ⟨num_int g1.1, num_int g1.2, E g1.1 ib_zero, E g1.2 ibm1⟩
  · exact ⟨num_int g2.1, num_int g2.2, E g2.1 ibm1, E g2.2 ib_zero⟩
  · exact ⟨num_int g3.1, num_int g3.2, E g3.1 ib_zero, E g3.2 ib1⟩
theorem tr_want : ∃ ys, Want ys ∧ ∀ v W, Nums W.heap.size W v xs4 → Calls Try.prog 34 #[v, .bool false] W (TFp ys W) := by
  obtain ⟨y0, y1, y2, y3, g0, g1, g2, g3, T⟩ := tr_ex
  exact ⟨_, want_ex g0 g1 g2 g3, T⟩
theorem xs_new (W : World) : Nums (W.alloc (.cells #[.int .u32 0, .int .u32 0, .int .u32 1065353216, .int .u32 0, .int .u32 0, .int .u32 0, .int .u32 0, .int .u32 0] 32)).heap.size
    (W.alloc (.cells #[.int .u32 0, .int .u32 0, .int .u32 1065353216, .int .u32 0, .int .u32 0, .int .u32 0, .int .u32 0, .int .u32 0] 32)) (.slice (some ⟨W.heap.size, 0, none⟩) 4 4) xs4 := nums_new4 W (0, 0) (1065353216, 0) (0, 0) (0, 0)

theorem nums_cells {n0 : Nat} {W : World} {b off n cap : Nat} {xs : List P2} (h : Nums n0 W (.slice (some ⟨b, off, none⟩) n cap) xs) :
    (∀ j, j < xs.length → W.cell? ⟨b, off + j * 2, none⟩ = some (.int .u32 (el xs j).1)) ∧ (∀ j, j < xs.length → W.cell? ⟨b, off + j * 2 + 1, none⟩ = some (.int .u32 (el xs j).2)) := by
  obtain ⟨_, _, _, e1, _, _, _, n1, n2⟩ := h
  injection e1 with e1 _ _
  injection e1 with e1
  injection e1 with e1 e2
  subst e1; subst e2
  exact ⟨n1, n2⟩

set_option maxRecDepth 20000 in
set_option maxHeartbeats 2000000 in
theorem awake_any (w : World) : Calls Try.prog 27 #[] w fun e w' => e = .returned (.bool true) ∧ Below w.heap.size w w' := by
  obtain ⟨ys, hY, T⟩ := tr_want
  replace T := Lib.hid T
  replace hY := Lib.hid hY
  have O00 := Lib.hid of00
  have O10 := Lib.hid of10
  have R10 := Lib.hid rof10
  have R0m := Lib.hid rof0m
  have Rm0 := Lib.hid rofm0
  have R01 := Lib.hid rof01
  have hb0 := Bl.refl w
  go_enter Try.func27, Try.ntmps27
  go_wp2_with (first
    | (go_at_call 39; (with_reducible refine (bl_calls O00.out (by assumption)).mono ?_); rintro e w1 ⟨rfl, hb1⟩)
    | (go_at_call 39; (with_reducible refine (bl_calls O10.out (by assumption)).mono ?_); rintro e w1 ⟨rfl, hb1⟩)
    | (go_at_call 34; (refine (T.out _ _ (xs_new _)).mono ?_); rintro e w2 ⟨v, rfl, hn2, hf2, hb2⟩
       have HW := Lib.hid ((hb1.alloc _).call hb2)
       have HN := Lib.hid hn2
       obtain ⟨b, off, cap, rfl, hb, hcap, hcap2, h1, h2⟩ := hn2
       have hl := hY.out.1
       rw [hl]
       clear hb1 hb2 h1 h2
       have hb9 := Bl.refl w2)
    | (go_at_call 24; (with_reducible refine (bl_calls R10.out (by assumption)).mono ?_); rintro e w3 ⟨rfl, hb3⟩)
    | (go_at_call 24; (with_reducible refine (bl_calls R0m.out (by assumption)).mono ?_); rintro e w3 ⟨rfl, hb3⟩)
    | (go_at_call 24; (with_reducible refine (bl_calls Rm0.out (by assumption)).mono ?_); rintro e w3 ⟨rfl, hb3⟩)
    | (go_at_call 24; (with_reducible refine (bl_calls R01.out (by assumption)).mono ?_); rintro e w3 ⟨rfl, hb3⟩))
  have HQ := Lib.hid (wt_new w3)
  have HU := Lib.hid (HW.out.trans (hb3.alloc (.cells #[.int .u32 1065353216, .int .u32 0, .int .u32 0, .int .u32 3212836864, .int .u32 3212836864, .int .u32 0, .int .u32 0, .int .u32 1065353216] 38)))
  have HV := Lib.hid ((hb3.alloc (.cells #[.int .u32 1065353216, .int .u32 0, .int .u32 0, .int .u32 3212836864, .int .u32 3212836864, .int .u32 0, .int .u32 0, .int .u32 1065353216] 38)))
  have hgl : w3.heap.size < (w3.alloc (.cells #[.int .u32 1065353216, .int .u32 0, .int .u32 0, .int .u32 3212836864, .int .u32 3212836864, .int .u32 0, .int .u32 0, .int .u32 1065353216] 38)).heap.size := by simp
  generalize w3.heap.size = gW at *
  generalize w3.alloc (.cells #[.int .u32 1065353216, .int .u32 0, .int .u32 0, .int .u32 3212836864, .int .u32 3212836864, .int .u32 0, .int .u32 0, .int .u32 1065353216] 38) = W at *
  clear hb9 hb0 hf2 hb1 hb3
  have E := ext55
  have hwl : wt4.length = 4 := rfl
  go_loopw [32] (fun i wr => ∃ k : Nat, k ≤ 4 ∧ i = .int .i64 (k : Int) ∧ Bl W wr)
    (fun i _ => 4 - (intOf i).toNat)
  case atStart => exact ⟨0, by omega, rfl, Bl.refl W⟩
  case round =>
    obtain ⟨k, hk, rfl, hbr⟩ := hrel
    by_cases hlt : k < 4
    · obtain ⟨n1, n2⟩ := nums_cells HN.out
      obtain ⟨m1, m2⟩ := nums_cells HQ.out
      have x0 := ((show Below w2.heap.size w2 wr from HV.out.trans hbr).cell (p := ⟨b, off + k * 2, none⟩) hb).trans (n1 k (by omega))
      have x1 := ((show Below w2.heap.size w2 wr from HV.out.trans hbr).cell (p := ⟨b, off + k * 2 + 1, none⟩) hb).trans (n2 k (by omega))
      obtain ⟨u1, u2, o1, o2⟩ := hY.out.2 k hlt
      have P := Lib.hid (parts_any _ _ u1 u2)
      have ik0 : (0 : Int) ≤ (k : Int) := by omega
      have ik1 : (k : Int) < 4 := by omega
      clear u1 u2 n1 n2
      replace o1 : FloatKind.f32.format.order (el ys k).1 (el wt4 k).1 = some .eq := by simpa using o1
      replace o2 : FloatKind.f32.format.order (el ys k).2 (el wt4 k).2 = some .eq := by simpa using o2
      go_wp2_with (go_at_call 11; (with_reducible refine (P.out _).mono ?_); rintro e w4 ⟨rfl, hb4⟩)
      have hb5 := hbr.call hb4
      have y0 := ((show Below W.heap.size W w4 from hb5).cell (p := ⟨gW, 0 + k * 2, none⟩) hgl).trans (m1 k (by omega))
      have y1 := ((show Below W.heap.size W w4 from hb5).cell (p := ⟨gW, 0 + k * 2 + 1, none⟩) hgl).trans (m2 k (by omega))
      rw [Nat.zero_add] at y0 y1
      clear m1 m2
      have H5 := Lib.hid hb5
      clear hb5 hbr hb4 x0 x1
      go_quiet (fail)
      go_wp2
      go_roundw
      case rel => exact ⟨k + 1, by omega, by simp, H5.out.drewN _⟩
      case measure => simp [intOf]; omega
    · obtain rfl : k = 4 := by omega
      have O12 := Lib.hid of12
      have O31 := Lib.hid of31
      have O55 := Lib.hid of55
      have O34 := Lib.hid of34
      have M55 := Lib.hid mul55
      have AB := Lib.hid abs34
      have E2 := ext44
      clear E
      have hbz := HU.out.trans hbr
      clear hbr
      go_wp2_with (first
        | (go_at_call 39; (with_reducible refine (bl_calls O12.out (by assumption)).mono ?_); rintro e w4 ⟨rfl, hb4⟩)
        | (go_at_call 39; (with_reducible refine (bl_calls O31.out (by assumption)).mono ?_); rintro e w4 ⟨rfl, hb4⟩)
        | (go_at_call 39; (with_reducible refine (bl_calls O55.out (by assumption)).mono ?_); rintro e w4 ⟨rfl, hb4⟩)
        | (go_at_call 39; (with_reducible refine (bl_calls O34.out (by assumption)).mono ?_); rintro e w4 ⟨rfl, hb4⟩)
        | (go_at_call 15; (with_reducible refine (bl_calls M55.out (by assumption)).mono ?_); rintro e w4 ⟨rfl, hb4⟩)
        | (go_at_call 25; (with_reducible refine (bl_calls AB.out (by assumption)).mono ?_); rintro e w4 ⟨rfl, hb4⟩))
      go_ret
      exact ⟨rfl, hb4⟩
end Go.Proofs.Ytaacgfmpahfmpaa
