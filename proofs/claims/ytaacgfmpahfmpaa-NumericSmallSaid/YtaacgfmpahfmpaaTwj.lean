/- Twiddles at 1, 2 and 4 points. Written by program (wip/tools/gen_twi.py). -/
import Derived.Test.YtaacgfmpahfmpaaTwi
import Derived.OwnWalk
import Derived.Deep.RegionLaw
import Derived.BigRegion
namespace Go.Proofs.Ytaacgfmpahfmpaa
open Go.RowKit Go.Shelf

theorem cvt (a b : Nat) (h : floatToFloatBits .f64 a .f32 = some b) (w : World) : (convert 86 29 (.float .f64 a)).run Try.prog w = .ok (.float .f32 b) w :=
  run_convert_float_float (P := Try.prog) w 86 29 .f64 .f32 a b (by kernel_rfl) Try.underlying29 h

def slLen : Value → Nat
  | .slice _ n _ => n
  | _ => 0
/-- What Twiddles leaves: a new list with these numbers. -/
def TWp (W : World) (tw : List P2) (e : Ending) (w' : World) : Prop :=
  ∃ v, e = .returned (.tuple #[v, .int .i64 0]) ∧ Nums w'.heap.size w' v tw ∧ Fresh W.heap.size v ∧ Below W.heap.size W w'
theorem nums_take {n0 : Nat} {W : World} {b off cap n : Nat} {xs : List P2} (h : Nums n0 W (.slice (some ⟨b, off, none⟩) xs.length cap) xs) (hn : n ≤ xs.length) : Nums n0 W (.slice (some ⟨b, off, none⟩) n cap) (xs.take n) := by
  obtain ⟨b', off', cap', e, hb, hc, hm, h1, h2⟩ := h
  simp only [Value.slice.injEq, Option.some.injEq, Addr.mk.injEq, and_true] at e
  obtain ⟨⟨rfl, rfl⟩, -, rfl⟩ := e
  have hl : (xs.take n).length = n := by rw [List.length_take]; omega
  have he : ∀ j, j < n → el (xs.take n) j = el xs j := by intro j hj; simp [el, List.getElem?_take, hj]
  exact ⟨b, off, cap, by rw [hl], hb, by omega, hm, fun j hj => by rw [he j (by omega)]; exact h1 j (by omega), fun j hj => by rw [he j (by omega)]; exact h2 j (by omega)⟩
theorem row_below {W W' : World} {base : Nat} {e : TypeId} {size n : Nat} {v : Value} {xs : List Value} (h : W.ownsRow base e size v n xs) (hb : Below W.heap.size W W') : W'.ownsRow base e size v n xs := by
  refine ⟨h.1, ?_⟩
  rcases h.2 with h | ⟨g, cap, cur, rfl, e2, hg, rest⟩
  · exact .inl h
  · exact .inr ⟨g, cap, cur, rfl, e2, (hb.block g (Array.getElem?_eq_some_iff.1 hg).1).trans hg, rest⟩
theorem step_append_own {P : Program} {ops : Array Oper} {o : Oper} {a : Act} {w : World} {K : Act → World → Prop} {Q : Exit → Act → World → Prop} {E : Prop}
    (hg : o.guard = none) (s x : Operand) (t : TypeId) (hop : o.op = Op.call { callee := Callee.builtin Builtin.append, args := #[s, x], argTypes := #[t, t] })
    (base : Nat) (e : TypeId) (i : TypeInfo) (z : Value) (size bytes : Nat) (ht : P.underlying t = some (.slice e)) (hi : P.info? e = some i) (hz : i.zero = some z)
    (hsize : i.size = size) (hby : i.bytes = bytes) (hzs : z.cells.size = size) (hsz : 0 < size)
    (v : Value) (n : Nat) (xs : List Value) (hs : a.eval s = v) (hown : w.ownsRow base e size v n xs)
    (ad : Addr) (m c : Nat) (news : List Value) (hx : a.eval x = .slice (some ad) m c) (hl : news.length = m * size) (hnews : ∀ j u, news[j]? = some u → w.cell? (ad.add j) = some u) (h1 : ∀ u ∈ news, u.oneCell' = true)
    (h63 : n + m ≤ maxLen) (hbytes : (n + m) * bytes ≤ 140737488355328) (hbase : base ≤ w.heap.size)
    (hK : ∀ v' w', w'.ownsRow base e size v' (n + m) (xs ++ news) → w.grownBy w' v.ownBlock → K (a.put o.dst v') w') :
    if Region.wanted o (yielded ops a.tmps) = true then Oper.wp P o a w K Q else E := by
  have hw : Region.wanted o (yielded ops a.tmps) = true := by simp [Region.wanted, hg]
  rw [if_pos hw]
  obtain ⟨v', w', hrun, h2, h3, _⟩ := run_append_own (P := P) w base t o.type e i z size bytes ht hi hz hsize hby hzs hsz v n xs hown ad m c news hl hnews h1 h63 hbytes hbase
  unfold Oper.wp
  simp [execOp, hop, resolve, invoke, builtin, hs, hx, hrun, Result.andThen]
  exact hK _ _ h2 h3

theorem step_call {P : Program} {ops : Array Oper} {o : Oper} {a : Act} {w : World} {K : Act → World → Prop} {Q : Exit → Act → World → Prop} {E : Prop}
    (hg : o.guard = none) (f : FuncId) (args : Array Value) (hrun : (execOp a.eval o).run P w = .ok (.enter f args) w) {v : Value} {R : World → Prop}
    (hc : Calls P f args w fun e w' => e = .returned v ∧ R w') (hK : ∀ w', R w' → K (a.put o.dst v) w') :
    if Region.wanted o (yielded ops a.tmps) = true then Oper.wp P o a w K Q else E := by
  have hw : Region.wanted o (yielded ops a.tmps) = true := by simp [Region.wanted, hg]
  rw [if_pos hw]
  unfold Oper.wp
  rw [hrun, Oper.upon_enter]
  refine hc.mono fun e w' hh => ?_
  obtain ⟨rfl, hr⟩ := hh
  exact hK _ hr

set_option maxRecDepth 20000 in
set_option maxHeartbeats 2000000 in
theorem twi1 (w : World) : Calls Try.prog 32 #[.int .i64 1] w (TWp w [(1065353216, 0)]) := by
  have L : Hid (∀ W, Calls Try.prog 56 #[.int .i64 1] W fun e w' => e = .returned (.bool true) ∧ W = w') := Lib.hid (len_any 1 (by unfold sml; omega))
  have T : Hid (∀ W, Calls Try.prog 57 #[.int .i64 1] W fun e w' => e = .returned (.tuple #[.float .f64 4607182418800017408, .float .f64 0]) ∧ W = w') := Lib.hid (turn_any 1 (by unfold sml; omega))
  have O1 := Lib.hid (of_any 1065353216 0 (num_int ib_one) (num_int ib_zero))
  have O2 := Lib.hid (of_any 1065353216 0 (num_int ib_one) (num_int ib_zero))
  have C : Hid (∀ W, Calls Try.prog 17 #[nv 1065353216 0] W fun e w' => e = .returned (nv 1065353216 2147483648) ∧ Below W.heap.size W w') := Lib.hid (conj_any 1065353216 0 (num_int ib_one) (num_int ib_zero) (by decide) (by decide))
  have d1 := cvt _ _ cv_one
  have d2 := cvt _ _ cv_zero
  obtain ⟨i0, hi, hz0, hz1, hz2⟩ := info_parts info32
  go_enter Try.func32, Try.ntmps32
  go_wp2_with (first
    | (go_at_call 56; (with_reducible refine (L.out _).mono ?_); rintro e w1 ⟨rfl, rfl⟩)
    | (go_at_call 57; (with_reducible refine (T.out _).mono ?_); rintro e w1 ⟨rfl, rfl⟩)
    | (go_at_call 18; (with_reducible refine (O1.out _).mono ?_); clear O1; rintro e w1 ⟨rfl, hb1⟩)
    | (go_at_call 18; (with_reducible refine (O2.out _).mono ?_); rintro e w2 ⟨rfl, hb2⟩)
    | (go_at_call 17; (with_reducible refine (C.out _).mono ?_); rintro e w3 ⟨rfl, hb3⟩))
  have hbb : Below w.heap.size w w3 := (hb1.trans (hb2.mono hb1.size)).trans (hb3.mono (Nat.le_trans hb1.size hb2.size))
  have hB4 := fun o => hbb.alloc hbb.size o
  have hsz := hbb.size
  generalize hW4 : w3.alloc _ = W4
  have hR : W4.ownsRow w.heap.size 32 2 (.slice (some ⟨w3.heap.size, 0, none⟩) 2 2) 2 (cells2 [(1065353216, 0), (1065353216, 2147483648)]) := by
    rw [← hW4]; exact World.ownsRow_lit (base := w.heap.size) (size := 2) (e := 32) w3 #[.int .u32 1065353216, .int .u32 0, .int .u32 1065353216, .int .u32 2147483648] 2 hbb.size (by unfold maxLen; omega) rfl
  have hB : Below w.heap.size w W4 := by rw [← hW4]; exact hB4 _
  clear hB4 hbb hb1 hb2 hb3 L T O2 C d1 d2
  have hN := nums_of_row (xs := [(1065353216, 0), (1065353216, 2147483648)]) hR (by simp)
  clear hR hi hz0 hz1 hz2 hW4
  go_loopw [6] (fun v wr => v = .slice (some ⟨w3.heap.size, 0, none⟩) 2 2 ∧ wr = W4) (fun _ _ => 0)
  case atStart => exact ⟨rfl, rfl⟩
  case round =>
    obtain ⟨rfl, rfl⟩ := hrel
    go_wp2_with fail
    go_ret2
    exact ⟨_, rfl, nums_take (n := 1) (xs := [(1065353216, 0), (1065353216, 2147483648)]) hN (by decide), fun g hg => by cases hg; exact hsz, hB⟩

set_option maxRecDepth 20000 in
set_option maxHeartbeats 2000000 in
theorem twi2 (w : World) : Calls Try.prog 32 #[.int .i64 2] w (TWp w [(1065353216, 0), (3212836864, 2147483648)]) := by
  have L : Hid (∀ W, Calls Try.prog 56 #[.int .i64 2] W fun e w' => e = .returned (.bool true) ∧ W = w') := Lib.hid (len_any 2 (by unfold sml; omega))
  have T : Hid (∀ W, Calls Try.prog 57 #[.int .i64 2] W fun e w' => e = .returned (.tuple #[.float .f64 13830554455654793216, .float .f64 0]) ∧ W = w') := Lib.hid (turn_any 2 (by unfold sml; omega))
  have O1 := Lib.hid (of_any 1065353216 0 (num_int ib_one) (num_int ib_zero))
  have O2 := Lib.hid (of_any 3212836864 0 (num_int ib_neg) (num_int ib_zero))
  have C : Hid (∀ W, Calls Try.prog 17 #[nv 3212836864 0] W fun e w' => e = .returned (nv 3212836864 2147483648) ∧ Below W.heap.size W w') := Lib.hid (conj_any 3212836864 0 (num_int ib_neg) (num_int ib_zero) (by decide) (by decide))
  have d1 := cvt _ _ cv_neg
  have d2 := cvt _ _ cv_zero
  obtain ⟨i0, hi, hz0, hz1, hz2⟩ := info_parts info32
  go_enter Try.func32, Try.ntmps32
  go_wp2_with (first
    | (go_at_call 56; (with_reducible refine (L.out _).mono ?_); rintro e w1 ⟨rfl, rfl⟩)
    | (go_at_call 57; (with_reducible refine (T.out _).mono ?_); rintro e w1 ⟨rfl, rfl⟩)
    | (go_at_call 18; (with_reducible refine (O1.out _).mono ?_); clear O1; rintro e w1 ⟨rfl, hb1⟩)
    | (go_at_call 18; (with_reducible refine (O2.out _).mono ?_); rintro e w2 ⟨rfl, hb2⟩)
    | (go_at_call 17; (with_reducible refine (C.out _).mono ?_); rintro e w3 ⟨rfl, hb3⟩))
  have hbb : Below w.heap.size w w3 := (hb1.trans (hb2.mono hb1.size)).trans (hb3.mono (Nat.le_trans hb1.size hb2.size))
  have hB4 := fun o => hbb.alloc hbb.size o
  have hsz := hbb.size
  generalize hW4 : w3.alloc _ = W4
  have hR : W4.ownsRow w.heap.size 32 2 (.slice (some ⟨w3.heap.size, 0, none⟩) 2 2) 2 (cells2 [(1065353216, 0), (3212836864, 2147483648)]) := by
    rw [← hW4]; exact World.ownsRow_lit (base := w.heap.size) (size := 2) (e := 32) w3 #[.int .u32 1065353216, .int .u32 0, .int .u32 3212836864, .int .u32 2147483648] 2 hbb.size (by unfold maxLen; omega) rfl
  have hB : Below w.heap.size w W4 := by rw [← hW4]; exact hB4 _
  clear hB4 hbb hb1 hb2 hb3 L T O2 C d1 d2
  have hN := nums_of_row (xs := [(1065353216, 0), (3212836864, 2147483648)]) hR (by simp)
  clear hR hi hz0 hz1 hz2 hW4
  go_loopw [6] (fun v wr => v = .slice (some ⟨w3.heap.size, 0, none⟩) 2 2 ∧ wr = W4) (fun _ _ => 0)
  case atStart => exact ⟨rfl, rfl⟩
  case round =>
    obtain ⟨rfl, rfl⟩ := hrel
    go_wp2_with fail
    go_ret2
    exact ⟨_, rfl, hN, fun g hg => by cases hg; exact hsz, hB⟩

set_option maxRecDepth 20000 in
set_option maxHeartbeats 2000000 in
theorem twi4 (t2 t3 : P2) (M2 : ∀ W, Calls Try.prog 15 #[nv 0 3212836864, nv 0 3212836864] W fun e w' => e = .returned (nv t2.1 t2.2) ∧ Below W.heap.size W w')
    (M3 : ∀ W, Calls Try.prog 15 #[nv t2.1 t2.2, nv 0 3212836864] W fun e w' => e = .returned (nv t3.1 t3.2) ∧ Below W.heap.size W w') (w : World) : Calls Try.prog 32 #[.int .i64 4] w (TWp w [(1065353216, 0), (0, 3212836864), t2, t3]) := by
  have L : Hid (∀ W, Calls Try.prog 56 #[.int .i64 4] W fun e w' => e = .returned (.bool true) ∧ W = w') := Lib.hid (len_any 4 (by unfold sml; omega))
  have T : Hid (∀ W, Calls Try.prog 57 #[.int .i64 4] W fun e w' => e = .returned (.tuple #[.float .f64 0, .float .f64 4607182418800017408]) ∧ W = w') := Lib.hid (turn_any 4 (by unfold sml; omega))
  have O1 := Lib.hid (of_any 1065353216 0 (num_int ib_one) (num_int ib_zero))
  have O2 := Lib.hid (of_any 0 1065353216 (num_int ib_zero) (num_int ib_one))
  have C : Hid (∀ W, Calls Try.prog 17 #[nv 0 1065353216] W fun e w' => e = .returned (nv 0 3212836864) ∧ Below W.heap.size W w') := Lib.hid (conj_any 0 1065353216 (num_int ib_zero) (num_int ib_one) (by decide) (by decide))
  have d1 := cvt _ _ cv_zero
  have d2 := cvt _ _ cv_one
  obtain ⟨i0, hi, hz0, hz1, hz2⟩ := info_parts info32
  go_enter Try.func32, Try.ntmps32
  go_wp2_with (first
    | (go_at_call 56; (with_reducible refine (L.out _).mono ?_); rintro e w1 ⟨rfl, rfl⟩)
    | (go_at_call 57; (with_reducible refine (T.out _).mono ?_); rintro e w1 ⟨rfl, rfl⟩)
    | (go_at_call 18; (with_reducible refine (O1.out _).mono ?_); clear O1; rintro e w1 ⟨rfl, hb1⟩)
    | (go_at_call 18; (with_reducible refine (O2.out _).mono ?_); rintro e w2 ⟨rfl, hb2⟩)
    | (go_at_call 17; (with_reducible refine (C.out _).mono ?_); rintro e w3 ⟨rfl, hb3⟩))
  have hbb : Below w.heap.size w w3 := (hb1.trans (hb2.mono hb1.size)).trans (hb3.mono (Nat.le_trans hb1.size hb2.size))
  have hB4 := fun o => hbb.alloc hbb.size o
  have hsz := hbb.size
  generalize hW4 : w3.alloc _ = W4
  have hR : W4.ownsRow w.heap.size 32 2 (.slice (some ⟨w3.heap.size, 0, none⟩) 2 2) 2 (cells2 [(1065353216, 0), (0, 3212836864)]) := by
    rw [← hW4]; exact World.ownsRow_lit (base := w.heap.size) (size := 2) (e := 32) w3 #[.int .u32 1065353216, .int .u32 0, .int .u32 0, .int .u32 3212836864] 2 hbb.size (by unfold maxLen; omega) rfl
  have hB : Below w.heap.size w W4 := by rw [← hW4]; exact hB4 _
  clear hB4 hbb hb1 hb2 hb3 L T O2 C d1 d2
  replace M2 : Hid (∀ W, Calls Try.prog 15 #[.agg #[.int .u32 0, .int .u32 3212836864], .agg #[.int .u32 0, .int .u32 3212836864]] W fun e w' => e = .returned (nv t2.1 t2.2) ∧ Below W.heap.size W w') := Lib.hid M2
  replace M3 : Hid (∀ W, Calls Try.prog 15 #[nv t2.1 t2.2, .agg #[.int .u32 0, .int .u32 3212836864]] W fun e w' => e = .returned (nv t3.1 t3.2) ∧ Below W.heap.size W w') := Lib.hid M3
  go_loopw [6] (fun v wr => ∃ (k : Nat) (cap : Nat) (g : Nat), 2 ≤ k ∧ k ≤ 4 ∧ v = .slice (some ⟨g, 0, none⟩) k cap ∧ wr.ownsRow w.heap.size 32 2 v k (cells2 ([(1065353216, 0), (0, 3212836864), t2, t3].take k)) ∧ Below w.heap.size w wr)
    (fun v _ => 4 - slLen v)
  case atStart => exact ⟨2, 2, w3.heap.size, by omega, by omega, rfl, hR, hB⟩
  case round =>
    obtain ⟨k, cap, g, hk2, hk4, rfl, hrow, hbr⟩ := hrel
    have hkk : k = 2 ∨ k = 3 ∨ k = 4 := by omega
    rcases hkk with rfl | rfl | rfl
    · have c2 : wr.cell? ⟨g, 2, none⟩ = some (.int .u32 0) := hrow.cellAt 2 (by omega)
      have c3 : wr.cell? ⟨g, 3, none⟩ = some (.int .u32 3212836864) := hrow.cellAt 3 (by omega)
      have iw1 : IntKind.i64.wrap 1 = 1 := by rw [IntKind.wrap_i64]; omega
      go_wp2_with fail
      go_region_law (first
        | (refine step_call rfl 15 #[.agg #[.int .u32 0, .int .u32 3212836864], .agg #[.int .u32 0, .int .u32 3212836864]] (by simp [execOp, resolve, Act.eval, Act.put, go_sem]) (M2.out _) ?_; rintro w5 hb5; have hb6 : Below wr.heap.size wr w5 := ⟨hb5.os, hb5.tape, hb5.output, hb5.size, hb5.block⟩; have hrow5 := row_below hrow hb6; have hbr5 := hbr.trans (hb6.mono hbr.size); have hbs5 := hbr5.size; clear hb5)
        | (refine step_append_own rfl (.tmp 27) (.tmp 38) 24 rfl w.heap.size 32 i0 (.agg #[.int .u32 0, .int .u32 0]) 2 8 Try.underlying24 hi hz0 hz1 hz2 rfl (by decide) (.slice (some ⟨g, 0, none⟩) 2 cap) 2 _ (by simp [Act.eval, Act.put]) (hrow5.alloc _) ⟨w5.heap.size, 0, none⟩ 1 1 [.int .u32 t2.1, .int .u32 t2.2] (by simp [Act.eval, Act.put]) rfl (cell_two_new _ _ _ _) (by simp [Value.oneCell']) (by unfold maxLen; omega) (by omega) (by simp; omega) ?_; intro v' w6 hown' hgrow; obtain ⟨g', cap', rfl⟩ := ownsRow_succ hown'))
      all_goals (
        have hb7 : Below w.heap.size w w6 := (hbr5.alloc hbs5 _).grown hgrow (by simp; omega) (fun j ej => by
          rcases hrow5.2 with ⟨e0, _⟩ | ⟨g0, _, _, e0, hb0, _⟩
          · cases e0
          · cases e0; simp [Value.ownBlock] at ej; omega)
        go_simp
        go_wp2_with fail
        go_roundw
        case rel => exact ⟨3, cap', g', by omega, by omega, rfl, hown', hb7⟩
        case measure => simp [slLen])
    · have c2 : wr.cell? ⟨g, 2, none⟩ = some (.int .u32 0) := hrow.cellAt 2 (by omega)
      have c3 : wr.cell? ⟨g, 3, none⟩ = some (.int .u32 3212836864) := hrow.cellAt 3 (by omega)
      have c4 : wr.cell? ⟨g, 4, none⟩ = some (.int .u32 t2.1) := hrow.cellAt 4 (by omega)
      have c5 : wr.cell? ⟨g, 5, none⟩ = some (.int .u32 t2.2) := hrow.cellAt 5 (by omega)
      have iw1 : IntKind.i64.wrap 2 = 2 := by rw [IntKind.wrap_i64]; omega
      go_wp2_with fail
      go_region_law (first
        | (refine step_call rfl 15 #[nv t2.1 t2.2, .agg #[.int .u32 0, .int .u32 3212836864]] (by simp [execOp, resolve, Act.eval, Act.put, go_sem]) (M3.out _) ?_; rintro w5 hb5; have hb6 : Below wr.heap.size wr w5 := ⟨hb5.os, hb5.tape, hb5.output, hb5.size, hb5.block⟩; have hrow5 := row_below hrow hb6; have hbr5 := hbr.trans (hb6.mono hbr.size); have hbs5 := hbr5.size; clear hb5)
        | (refine step_append_own rfl (.tmp 27) (.tmp 38) 24 rfl w.heap.size 32 i0 (.agg #[.int .u32 0, .int .u32 0]) 2 8 Try.underlying24 hi hz0 hz1 hz2 rfl (by decide) (.slice (some ⟨g, 0, none⟩) 3 cap) 3 _ (by simp [Act.eval, Act.put]) (hrow5.alloc _) ⟨w5.heap.size, 0, none⟩ 1 1 [.int .u32 t3.1, .int .u32 t3.2] (by simp [Act.eval, Act.put]) rfl (cell_two_new _ _ _ _) (by simp [Value.oneCell']) (by unfold maxLen; omega) (by omega) (by simp; omega) ?_; intro v' w6 hown' hgrow; obtain ⟨g', cap', rfl⟩ := ownsRow_succ hown'))
      all_goals (
        have hb7 : Below w.heap.size w w6 := (hbr5.alloc hbs5 _).grown hgrow (by simp; omega) (fun j ej => by
          rcases hrow5.2 with ⟨e0, _⟩ | ⟨g0, _, _, e0, hb0, _⟩
          · cases e0
          · cases e0; simp [Value.ownBlock] at ej; omega)
        go_simp
        go_wp2_with fail
        go_roundw
        case rel => exact ⟨4, cap', g', by omega, by omega, rfl, hown', hb7⟩
        case measure => simp [slLen])
    · have hN := nums_of_row (xs := [(1065353216, 0), (0, 3212836864), t2, t3]) hrow (by simp)
      have hf : Fresh w.heap.size (.slice (some ⟨g, 0, none⟩) 4 cap) := fun g1 hg1 => by
        rcases hrow.2 with ⟨e0, _⟩ | ⟨g0, _, _, e0, hb0, _⟩
        · cases e0
        · cases e0; cases hg1; exact hb0
      have h4 : (4 : Int) ≤ cap := by obtain ⟨_, _, c, e, _, hc, _⟩ := hN; cases e; simp at hc; omega
      go_wp2_with fail
      go_ret2
      exact ⟨_, rfl, hN, hf, hbr⟩
end Go.Proofs.Ytaacgfmpahfmpaa
