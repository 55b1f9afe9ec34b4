/- transform of 2 points: its two loops. Written by program (wip/tools/gen_tra.py). -/
import Derived.Test.YtaacgfmpahfmpaaTra
import Derived.Deep.RegionWith
import Derived.Deep.RegionHeld3
import Derived.BigRegion
namespace Go.Proofs.Ytaacgfmpahfmpaa
open Go.RowKit Go.Shelf
attribute [local go_sem] Oper.semAt_some

set_option maxRecDepth 100000 in
set_option maxHeartbeats 8000000 in
theorem trb2 (n0 : Nat) (WT : World) (mv : Value) (xs es os tw ts ys : List P2) (hx : xs.length = 2) (hn0 : n0 ≤ WT.heap.size)
    (he : es.length = 1) (ho : os.length = 1) (htw : tw.length = 2) (hys : ys.length = 2)
    (TE : TR n0 WT mv (evens xs) es) (TO : TR n0 WT mv (evens xs.tail) os) (FA : Fac n0 WT mv 2 tw)
    (HM : ∀ k, k < 1 → ∀ w, Calls Try.prog 15 #[nv (el tw k).1 (el tw k).2, nv (el os k).1 (el os k).2] w fun e w' => e = .returned (nv (el ts k).1 (el ts k).2) ∧ Below w.heap.size w w')
    (HA : ∀ k, k < 1 → ∀ w, Calls Try.prog 13 #[nv (el es k).1 (el es k).2, nv (el ts k).1 (el ts k).2] w fun e w' => e = .returned (nv (el ys k).1 (el ys k).2) ∧ Below w.heap.size w w')
    (HS : ∀ k, k < 1 → ∀ w, Calls Try.prog 14 #[nv (el es k).1 (el es k).2, nv (el ts k).1 (el ts k).2] w fun e w' => e = .returned (nv (el ys (k + 1)).1 (el ys (k + 1)).2) ∧ Below w.heap.size w w') :
    TR n0 WT mv xs ys := by
  intro w v hWW hN
  obtain ⟨b, off, cap, hv, hb, hcap, hcap2, h1, h2⟩ := id hN
  obtain ⟨i0, hi, hz0, hz1, hz2⟩ := info_parts info32
  have E1 := Lib.hid (fun W => evs65 v _ _ _ hv W)
  have HC := Lib.hid (And.intro h1 h2)
  replace TE := Lib.hid TE
  replace TO := Lib.hid TO
  replace FA := Lib.hid FA
  replace HM := Lib.hid HM
  replace HA := Lib.hid HA
  replace HS := Lib.hid HS
  clear h1 h2
  refine (callsIn_wide (n := 9)).1 ?_
  refine callsIn_of_wp_marks Try.func59 rfl trivial ?_ rfl
  simp only [Try.ntmps59, List.size_toArray, List.length_cons, List.length_nil, Nat.reduceAdd, Nat.reduceSub, Array.replicate_succ, Array.replicate_zero, List.push_toArray, List.append_toArray, List.nil_append, List.cons_append]
  refine (wpIn_wide (n := 9)).2 ?_
  rw [hx] at hv hcap
  subst hv
  have HX := Lib.hid hx
  clear hx
  go_wp2_with (first
    | (go_at_call 65; refine (E1.out _).mono ?_; rintro e w1 ⟨rfl, rfl⟩))
  have bE := ((Boxed.new w 24 (.slice none 0 0)).alloc (.cells #[.slice none 0 0] 24)).alloc (.cells #[.slice (some ⟨b, off, none⟩) 2 cap] 24)
  have bO := (Boxed.new (w.alloc (.cells #[.slice none 0 0] 24)) 24 (.slice none 0 0)).alloc (.cells #[.slice (some ⟨b, off, none⟩) 2 cap] 24)
  have bC := Boxed.new ((w.alloc (.cells #[.slice none 0 0] 24)).alloc (.cells #[.slice none 0 0] 24)) 24 (.slice (some ⟨b, off, none⟩) 2 cap)
  rw [World.size_alloc] at bO
  rw [World.size_alloc, World.size_alloc] at bC
  have hsz : (((w.alloc (.cells #[.slice none 0 0] 24)).alloc (.cells #[.slice none 0 0] 24)).alloc (.cells #[.slice (some ⟨b, off, none⟩) 2 cap] 24)).heap.size = w.heap.size + 3 := by simp
  have hB0 : Below w.heap.size w (((w.alloc (.cells #[.slice none 0 0] 24)).alloc (.cells #[.slice none 0 0] 24)).alloc (.cells #[.slice (some ⟨b, off, none⟩) 2 cap] 24)) := (((Below.refl _ w).alloc (Nat.le_refl _) _).alloc (by simp) _).alloc (by simp; omega) _
  generalize ((w.alloc (.cells #[.slice none 0 0] 24)).alloc (.cells #[.slice none 0 0] 24)).alloc (.cells #[.slice (some ⟨b, off, none⟩) 2 cap] 24) = W0 at *
  refine (wpIn_wide (n := 9)).1 ?_
  refine wpIn_rangeFunc_ownH rfl (by omega) (gf := 66) (lb := #[.pointer (some ⟨w.heap.size + 1 + 1, 0, none⟩)]) rfl trivial (enters_of Try.func66 (by kernel_rfl) rfl)
    (evs_stops Fence.wide (9 - 1) trivial rfl (by omega) (w.heap.size + 1 + 1) w.heap.size _ xs (by have := HX.out; omega) W0 (by omega) (by omega) bC.cell (hN.below hB0 (Nat.le_refl _))) KB.trans (KB.put (by omega) (by omega)) (Below.refl _ _) (fun _ => rfl)
    (fun pre W => (((∃ u, Boxed W w.heap.size 24 u ∧ W.ownsRow w.heap.size 32 2 u pre.length (cells2 pre) ∧ True) ∧ Boxed W (w.heap.size + 1) 24 (.slice none 0 0)) ∧ Boxed W (w.heap.size + 1 + 1) 24 (.slice (some ⟨b, off, none⟩) 2 cap)) ∧ Below w.heap.size W0 W)
    (fun _ _ _ => False)
    (OwnFrom.and (OwnFrom.and (OwnFrom.and (Own.from (holdsRow_own _ _ _ _ _ (fun pre : List P2 => pre.length) cells2 (fun _ _ => True)) _) (Own.from (boxed_own _ _ _) _)) (Own.from (boxed_own _ _ _) _)) (ownFrom_below (by omega) (by omega)))
    (fun _ _ _ _ _ hs _ _ => hs)
    ⟨⟨⟨⟨_, bE, World.ownsRow_nil _ _ _ _, trivial⟩, bO⟩, bC⟩, Below.refl _ _⟩
    (fun x a' W => ∃ Bx, w.heap.size + 2 < Bx ∧ Box2 W Bx (.int .u32 x.1) (.int .u32 x.2) ∧ a' = { tmps := #[.slice (some ⟨b, off, none⟩) 2 cap, mv, undef, undef, .slice none 0 0, .int .i64 2, .pointer (some ⟨w.heap.size, 0, none⟩), .pointer (some ⟨w.heap.size + 1, 0, none⟩), .pointer (some ⟨Bx, 0, none⟩), undef, undef, undef, undef, .slice (some ⟨b, off, none⟩) 2 cap, .int .i64 2, .int .i64 2, .bool false, undef, undef, undef, undef, .slice (some ⟨b, off, none⟩) 2 cap, .func (.func 66) #[] #[.pointer (some ⟨w.heap.size + 1 + 1, 0, none⟩)], .agg #[.int .u32 x.1, .int .u32 x.2], undef, undef, undef, undef, undef, undef, undef, undef, undef, undef, undef, undef, undef, undef, undef, undef, undef, undef, undef, undef, undef, undef, undef, undef, undef, undef, undef, undef, undef, undef, undef, undef, undef, undef, undef, undef, undef, undef, undef, undef, undef, undef, undef, undef, undef, undef, undef, undef, undef, undef, undef, undef, undef, undef, undef, undef, undef, undef, undef], defers := [] })
    (fun x a' _ X Y row hs hg hr => by obtain ⟨Bx, h1, h2, h3⟩ := hs; exact ⟨Bx, h1, box2_own h2 hg (fun r e => (hr r e).2), h3⟩)
    ?assign ?body ?done ?stop
  case assign =>
    rintro l pre x W K ⟨⟨⟨⟨u, hu, hrow, _⟩, hO⟩, hC⟩, hB⟩ hK
    have hsW := hB.size
    gi_wp2
    exact hK _ _ ((KeepsOthers.alloc _ _).from _) ⟨(Below.refl _ W).alloc (by omega) _, Below.heap_alloc _ _ _ (by omega)⟩ ⟨⟨⟨⟨u, hu.alloc _, hrow.alloc _, trivial⟩, hO.alloc _⟩, hC.alloc _⟩, hB.alloc (by omega) _⟩ ⟨W.heap.size, by omega, Box2.new W _ _ 32 _ rfl, rfl⟩
  case body =>
    rintro l pre x a' W hl _ ⟨⟨⟨⟨u, hu, hrow, _⟩, hO⟩, hC⟩, hB⟩ ⟨Bx, hBx, bX, rfl⟩ hlt
    have hsW := hB.size
    have cu := hu.cell
    obtain ⟨x0, x1, _, _, _⟩ := bX
    have hlx := HX.out
    gi_wp2_with (gi_at_builtin; refine wpListIn_append_own _ rfl _ _ 24 rfl w.heap.size 32 i0 (.agg #[.int .u32 0, .int .u32 0]) 2 8 Try.underlying24 hi hz0 hz1 hz2 rfl (by decide) _ _ _ rfl (hrow.alloc _) ⟨W.heap.size, 0, none⟩ 1 1 [.int .u32 x.1, .int .u32 x.2] rfl rfl (cell_two_new _ _ _ _) (by simp [Value.oneCell']) (by unfold maxLen; omega) (by omega) (by simp; omega) ?_; intro v' w1 hown' hgrow _; obtain ⟨g', cap', rfl⟩ := ownsRow_succ hown'; obtain ⟨hv1, hv2, hr2, hk2, hb2⟩ := hu.appended (by decide) hrow (by omega) (Nat.le_refl _) hown' hgrow; have hO1 := (hO.alloc _).kept hgrow (hO.not_row (by decide) hrow); have hC1 := (hC.alloc _).kept hgrow (hC.not_row (by decide) hrow); have hc1 := hv1.cell; have hf1 := hv1.frozen)
    have hO2 := hO1.other (B' := w.heap.size) (by omega) (.slice (some ⟨g', 0, none⟩) (pre.length + 1) cap')
    have hC2 := hC1.other (B' := w.heap.size) (by omega) (.slice (some ⟨g', 0, none⟩) (pre.length + 1) cap')
    exact ⟨hk2.from _, ⟨hb2, (show _ = _ from hC2).trans (show _ = _ from hC).symm⟩, ⟨⟨⟨⟨_, hv2, by rw [cells2_snoc]; simpa using hr2, trivial⟩, hO2⟩, hC2⟩, hB.trans hb2⟩⟩
  case stop =>
    rintro D c pre W _ _ h _
    exact h.elim
  case done =>
    rintro D es' W hD rfl ⟨⟨⟨⟨u, hu, hrow, _⟩, hO⟩, hC⟩, hB⟩ hK
    have hsW := hB.size
    have ltD := (Array.getElem?_eq_some_iff.1 hK).1
    have n1 : (1 : Int) ≤ cap := by omega
    have hev : (evens xs).length = 1 := by unfold evens; rw [upto_length]; have := HX.out; omega
    have E2 := Lib.hid (fun W => evs65 (.slice (some ⟨b, off + 2, none⟩) 1 (cap - 1)) _ _ _ rfl W)
    go_wp2_with (first
      | (go_at_call 65; refine (E2.out _).mono ?_; rintro e w1 ⟨rfl, rfl⟩))
    have hNo : Nums w.heap.size (W.alloc (.cells #[.slice (some ⟨b, off + 2, none⟩) 1 (cap - 1)] 24)) (.slice (some ⟨b, off + 2, none⟩) 1 (cap - 1)) xs.tail := by
      have hb2 : Below w.heap.size w (W.alloc (.cells #[.slice (some ⟨b, off + 2, none⟩) 1 (cap - 1)] 24)) := (hB0.trans hB).alloc (by omega) _
      exact (nums_tail hN HX.out).below hb2 (Nat.le_refl _)
    have hC2 := Boxed.new W 24 (.slice (some ⟨b, off + 2, none⟩) 1 (cap - 1))
    have hE2 := hu.alloc (.cells #[.slice (some ⟨b, off + 2, none⟩) 1 (cap - 1)] 24)
    have hO2 := hO.alloc (.cells #[.slice (some ⟨b, off + 2, none⟩) 1 (cap - 1)] 24)
    have hrow2 := hrow.alloc (.cells #[.slice (some ⟨b, off + 2, none⟩) 1 (cap - 1)] 24)
    have hK2 := (Below.heap_alloc W (.cells #[.slice (some ⟨b, off + 2, none⟩) 1 (cap - 1)] 24) D ltD).trans hK
    have hB2 := (hB0.trans hB).alloc (by omega) (.cells #[.slice (some ⟨b, off + 2, none⟩) 1 (cap - 1)] 24)
    have hs2 : (W.alloc (.cells #[.slice (some ⟨b, off + 2, none⟩) 1 (cap - 1)] 24)).heap.size = W.heap.size + 1 := by simp
    clear hu hO hrow hK hC
    generalize W.alloc (.cells #[.slice (some ⟨b, off + 2, none⟩) 1 (cap - 1)] 24) = W1 at *
    generalize hHB : W.heap.size = HB at *
    refine (wpIn_wide (n := 9)).1 ?_
    refine wpIn_rangeFunc_ownH rfl (by omega) (gf := 66) (lb := #[.pointer (some ⟨HB, 0, none⟩)]) rfl trivial (enters_of Try.func66 (by kernel_rfl) rfl)
      (evs_stops Fence.wide (9 - 1) trivial rfl (by omega) HB w.heap.size _ xs.tail (by have := HX.out; simp; omega) W1 (by omega) (by omega) hC2.cell hNo) KB.trans (KB.put (by omega) (by omega)) (Below.refl _ _) (fun _ => rfl)
      (fun pre W => ((∃ u, Boxed W (w.heap.size + 1) 24 u ∧ W.ownsRow W1.heap.size 32 2 u pre.length (cells2 pre) ∧ True) ∧ (W1.heap.size ≤ W.heap.size ∧ Lows (w.heap.size + 1) W1 W)) ∧ Below w.heap.size W1 W)
      (fun _ _ _ => False)
      (OwnFrom.and (OwnFrom.and (Own.from (holdsRow_own _ _ _ _ _ (fun pre : List P2 => pre.length) cells2 (fun _ _ => True)) _) (lows_own _ _)) (ownFrom_below (by omega) (by omega)))
      (fun _ _ _ _ _ hs _ _ => hs)
      ⟨⟨⟨_, hO2, World.ownsRow_nil _ _ _ _, trivial⟩, Nat.le_refl _, fun _ _ _ => rfl⟩, Below.refl _ _⟩
      (fun x a' W => ∃ Bx, w.heap.size + 2 < Bx ∧ Box2 W Bx (.int .u32 x.1) (.int .u32 x.2) ∧ a' = { tmps := #[.slice (some ⟨b, off, none⟩) 2 cap, mv, undef, undef, .slice none 0 0, .int .i64 2, .pointer (some ⟨w.heap.size, 0, none⟩), .pointer (some ⟨w.heap.size + 1, 0, none⟩), undef, .pointer (some ⟨Bx, 0, none⟩), undef, undef, undef, .slice (some ⟨b, off, none⟩) 2 cap, .int .i64 2, .int .i64 2, .bool false, undef, undef, undef, undef, .slice (some ⟨b, off, none⟩) 2 cap, .func (.func 66) #[] #[.pointer (some ⟨w.heap.size + 1 + 1, 0, none⟩)], undef, undef, undef, undef, undef, .slice (some ⟨b, off, none⟩) 2 cap, .slice (some ⟨b, off + 2, none⟩) 1 (cap - 1), .func (.func 66) #[] #[.pointer (some ⟨HB, 0, none⟩)], .agg #[.int .u32 x.1, .int .u32 x.2], undef, undef, undef, undef, undef, undef, undef, undef, undef, undef, undef, undef, undef, undef, undef, undef, undef, undef, undef, undef, undef, undef, undef, undef, undef, undef, undef, undef, undef, undef, undef, undef, undef, undef, undef, undef, undef, undef, undef, undef, undef, undef, undef, undef, undef, undef, undef, undef, undef, undef, undef], defers := [] })
      (fun x a' _ X Y row hs hg hr => by obtain ⟨Bx, h1, h2, h3⟩ := hs; exact ⟨Bx, h1, box2_own h2 hg (fun r e => (hr r e).2), h3⟩)
      ?assign2 ?body2 ?done2 ?stop2
    case stop2 =>
      rintro D2 c pre W2 _ _ h _
      exact h.elim
    case assign2 =>
      rintro l pre x W2 K ⟨⟨⟨v, hv, hrow, _⟩, hs, hL⟩, hB⟩ hK
      gi_wp2
      exact hK _ _ ((KeepsOthers.alloc _ _).from _) ⟨(Below.refl _ W2).alloc (by omega) _, Below.heap_alloc _ _ _ (by omega)⟩ ⟨⟨⟨v, hv.alloc _, hrow.alloc _, trivial⟩, by simp; omega, fun k hk hne => (Below.heap_alloc _ _ _ (by omega)).trans (hL k hk hne)⟩, hB.alloc (by omega) _⟩ ⟨W2.heap.size, by omega, Box2.new W2 _ _ 32 _ rfl, rfl⟩
    case body2 =>
      rintro l pre x a' W2 hl _ ⟨⟨⟨v, hv, hrow, _⟩, hs, hL⟩, hB3⟩ ⟨Bx, hBx, bX, rfl⟩ hlt
      have cu := hv.cell
      obtain ⟨x0, x1, _, _, _⟩ := bX
      have hlx := HX.out
      gi_wp2_with (gi_at_builtin; refine wpListIn_append_own _ rfl _ _ 24 rfl W1.heap.size 32 i0 (.agg #[.int .u32 0, .int .u32 0]) 2 8 Try.underlying24 hi hz0 hz1 hz2 rfl (by decide) _ _ _ rfl (hrow.alloc _) ⟨W2.heap.size, 0, none⟩ 1 1 [.int .u32 x.1, .int .u32 x.2] rfl rfl (cell_two_new _ _ _ _) (by simp [Value.oneCell']) (by unfold maxLen; simp at hlt; omega) (by simp at hlt; omega) (by simp; omega) ?_; intro v' w1 hown' hgrow _; obtain ⟨g', cap', rfl⟩ := ownsRow_succ hown'; obtain ⟨hv1, hv2, hr2, hk2, hb2⟩ := hv.appended (by decide) (row_base hrow (base' := w.heap.size) (by omega)) (by omega) (by omega) (row_base hown' (base' := w.heap.size) (by omega)) hgrow; have hL2 := low_kept (x := .slice (some ⟨g', 0, none⟩) (pre.length + 1) cap') hrow hgrow hs hL; have hr3 := hown'.kept (grownBy_setCell' w1 (w.heap.size + 1) (.slice (some ⟨g', 0, none⟩) (pre.length + 1) cap')) (.inr (hv1.not_row (by decide) hown').symm); have hc1 := hv1.cell; have hf1 := hv1.frozen)
      have hs3 := hk2.size
      exact ⟨hk2.from _, ⟨hb2, (hL2 HB (by omega) (by omega)).trans (hL HB (by omega) (by omega)).symm⟩, ⟨⟨⟨_, hv2, by rw [cells2_snoc]; simpa using hr3, trivial⟩, by omega, hL2⟩, hB3.trans hb2⟩⟩
    case done2 =>
      rintro D2 os' W2 hD2 rfl ⟨⟨⟨v, hv, hrow3, _⟩, hs3, hL⟩, hB3⟩ hK3
      have hod : (evens xs.tail).length = 1 := by unfold evens; rw [upto_length]; have := HX.out; simp; omega
      have bE : Boxed W2 w.heap.size 24 u := (hL _ (by omega) (by omega)).trans hE2
      have hKD : W2.heap[D]? = some (.deferred (some [])) := (hL D (by omega) (by omega)).trans hK2
      have nE := nums_of_row (row_low hrow2 (hO2.not_row (by decide) hrow2) hL) (by intro h0; rw [h0] at hev; simp at hev)
      have nO := nums_of_row hrow3 (by intro h0; rw [h0] at hod; simp at hod)
      have hB4 : Below w.heap.size w W2 := hB2.trans hB3
      have hB5 : Below n0 WT W2 := hWW.trans (hB4.mono (by have := hWW.size; omega))
      have HE : Hid (Calls Try.prog 59 #[u, mv] W2.drew fun e w' => ∃ v', e = .returned v' ∧ Nums w'.heap.size w' v' es ∧ Fresh W2.heap.size v' ∧ Below W2.heap.size W2 w') := Lib.hid
        ((TE.out W2.drew u hB5.drew nE).mono fun _ _ ⟨v', e1, e2, e4, e3⟩ => ⟨v', e1, e2, e4, ⟨e3.os, e3.tape, e3.output, e3.size, e3.block⟩⟩)
      have HO : Hid (∀ W', Below W2.heap.size W2 W' → Calls Try.prog 59 #[v, mv] W' fun e w' => ∃ v', e = .returned v' ∧ Nums w'.heap.size w' v' os ∧ Fresh W'.heap.size v' ∧ Below W'.heap.size W' w') := Lib.hid fun W' hW' =>
        TO.out W' v (hB5.trans (hW'.mono (by have := hWW.size; have := hB4.size; omega))) (nO.below hW' (Nat.le_refl _) |>.mono hW'.size)
      have cE := bE.cell
      have fE := bE.frozen
      have cO := hv.cell
      have fO := hv.frozen
      have ltE := bE.lt
      have ltO := hv.lt
      have HF := Lib.hid (And.intro hK3 (And.intro hKD (And.intro hB4 hB5)))
      have ltD2 := (Array.getElem?_eq_some_iff.1 hK3).1
      have ltDD := (Array.getElem?_eq_some_iff.1 hKD).1
      clear hK3 hKD hB4 hB5 nE nO hrow2 hrow3 hE2 hO2 hC2 hNo hK2 hB2 hB3 E1 E2 hB0 hN
      go_wp2_with fail
      rename_i K hK0
      have REST : ∀ (w5 : World) (b1 o1 c1 b2 o2 c2 : Nat), Boxed w5 w.heap.size 24 (.slice (some ⟨b1, o1, none⟩) 1 c1) → Boxed w5 (w.heap.size + 1) 24 (.slice (some ⟨b2, o2, none⟩) 1 c2) →
          Nums w5.heap.size w5 (.slice (some ⟨b1, o1, none⟩) 1 c1) es → Nums w5.heap.size w5 (.slice (some ⟨b2, o2, none⟩) 1 c2) os → Below w.heap.size w w5 → w5.heap[D2]? = some (.deferred (some [])) → w5.heap[D]? = some (.deferred (some [])) →
          K { tmps := #[.slice (some ⟨b, off, none⟩) 2 cap, mv, undef, undef, .slice none 0 0, .int .i64 2, .pointer (some ⟨w.heap.size, 0, none⟩), .pointer (some ⟨w.heap.size + 1, 0, none⟩), undef, undef, undef, undef, undef, .slice (some ⟨b, off, none⟩) 2 cap, .int .i64 2, .int .i64 2, .bool false, undef, undef, undef, undef, .slice (some ⟨b, off, none⟩) 2 cap, .func (.func 66) #[] #[.pointer (some ⟨w.heap.size + 1 + 1, 0, none⟩)], undef, undef, undef, undef, undef, .slice (some ⟨b, off, none⟩) 2 cap, .slice (some ⟨b, off + 2, none⟩) 1 (cap - 1), .func (.func 66) #[] #[.pointer (some ⟨HB, 0, none⟩)], undef, undef, undef, undef, undef, u, mv, .slice (some ⟨b1, o1, none⟩) 1 c1, v, mv, .slice (some ⟨b2, o2, none⟩) 1 c2, undef, undef, undef, undef, undef, undef, undef, undef, undef, undef, undef, undef, undef, undef, undef, undef, undef, undef, undef, undef, undef, undef, undef, undef, undef, undef, undef, undef, undef, undef, undef, undef, undef, undef, undef, undef, undef, undef, undef, undef, undef], defers := [{ target := .collected D2, args := #[] }, { target := .collected D, args := #[] }] } w5 := by
        clear HE HO cE fE cO fO ltE ltO HF ltD2 ltDD TE TO bE hv hL hs3
        intro w5 b1 o1 c1 b2 o2 c2 B1 B2 N1 N2 hb5 hd2 hd1
        refine hK0 _ _ ?_
        have MK := mk2
        have hR := res2 w5 ys
        have hL0 : Lows w5.heap.size w5 (w5.alloc (.cells #[.int .u32 0, .int .u32 0, .int .u32 0, .int .u32 0] 32)) := fun k hk _ => Below.heap_alloc _ _ _ hk
        have hs6 : (w5.alloc (.cells #[.int .u32 0, .int .u32 0, .int .u32 0, .int .u32 0] 32)).heap.size = w5.heap.size + 1 := by simp
        have hb6 : Below w.heap.size w (w5.alloc (.cells #[.int .u32 0, .int .u32 0, .int .u32 0, .int .u32 0] 32)) := hb5.alloc hb5.size _
        have C1 := B1.alloc (.cells #[.int .u32 0, .int .u32 0, .int .u32 0, .int .u32 0] 32)
        have C2 := B2.alloc (.cells #[.int .u32 0, .int .u32 0, .int .u32 0, .int .u32 0] 32)
        have M1 := N1.below ((Below.refl w5.heap.size w5).alloc (Nat.le_refl _) (.cells #[.int .u32 0, .int .u32 0, .int .u32 0, .int .u32 0] 32)) (Nat.le_refl _)
        have M2 := N2.below ((Below.refl w5.heap.size w5).alloc (Nat.le_refl _) (.cells #[.int .u32 0, .int .u32 0, .int .u32 0, .int .u32 0] 32)) (Nat.le_refl _)
        have ed2 := (Below.heap_alloc w5 (.cells #[.int .u32 0, .int .u32 0, .int .u32 0, .int .u32 0] 32) D2 (Array.getElem?_eq_some_iff.1 hd2).1).trans hd2
        have ed1 := (Below.heap_alloc w5 (.cells #[.int .u32 0, .int .u32 0, .int .u32 0, .int .u32 0] 32) D (Array.getElem?_eq_some_iff.1 hd1).1).trans hd1
        have bl1 := B1.lt
        have bl2 := B2.lt
        have bd2 := (Array.getElem?_eq_some_iff.1 hd2).1
        have bd1 := (Array.getElem?_eq_some_iff.1 hd1).1
        have hgb := hb5.size
        clear B1 B2 N1 N2 hd2 hd1 hb5 hL0
        go_wp2_with fail
        generalize w5.alloc (.cells #[.int .u32 0, .int .u32 0, .int .u32 0, .int .u32 0] 32) = w6 at *
        generalize hg : w5.heap.size = g at *
        clear MK hg
        have hDD : D < D2 := by omega
        have hDw : w.heap.size ≤ D := by omega
        have HH := Lib.hid (And.intro C1 (And.intro C2 (And.intro M1 (And.intro M2 (And.intro ed2 (And.intro ed1 hb6))))))
        clear C1 C2 M1 M2 ed2 ed1 hb6 hs2 bE bO bC hB hev hod hsW ltD hHB
        go_loopw [46] (fun i wr => ∃ k : Nat, k ≤ 1 ∧ i = .int .i64 (k : Int) ∧ Res wr g 2 ys (fun j => decide (j % 1 < k)) ∧ Lows g w6 wr ∧ w6.heap.size ≤ wr.heap.size ∧ Below w.heap.size w wr)
          (fun i _ => 1 - (intOf i).toNat)
        case atStart => exact ⟨0, by omega, rfl, by simpa using hR, fun _ _ _ => rfl, Nat.le_refl _, HH.out.2.2.2.2.2.2⟩
        case round =>
          obtain ⟨k, hk, rfl, hRs, hLs, hss, hbs⟩ := hrel
          by_cases hlt : k < 1
          · have D1 : Boxed wr w.heap.size 24 _ := (hLs _ (by omega) (by omega)).trans HH.out.1
            have D2' : Boxed wr (w.heap.size + 1) 24 _ := (hLs _ (by omega) (by omega)).trans HH.out.2.1
            obtain ⟨b1', o1', c1', e1', p1, q1, r1, x1, y1⟩ := HH.out.2.2.1.lows (Nat.le_refl _) (by omega) hLs
            obtain ⟨b2', o2', c2', e2', p2, q2, r2, x2, y2⟩ := HH.out.2.2.2.1.lows (Nat.le_refl _) (by omega) hLs
            obtain ⟨tv, hlook, hNt⟩ := FA.out.look
            have hbn : Below n0 WT wr := hWW.trans (hbs.mono (by have := hWW.size; omega))
            obtain ⟨b3, o3, c3, e3', p3, q3, r3, x3, y3⟩ := hNt.below hbn (Nat.le_refl _)
            simp only [Value.slice.injEq, Option.some.injEq, Addr.mk.injEq, and_true] at e1' e2'
            obtain ⟨⟨rfl, rfl⟩, -, rfl⟩ := e1'
            obtain ⟨⟨rfl, rfl⟩, -, rfl⟩ := e2'
            rw [htw] at e3'
            subst e3'
            replace x1 := x1 k (by omega)
            replace y1 := y1 k (by omega)
            replace x2 := x2 k (by omega)
            replace y2 := y2 k (by omega)
            replace x3 := x3 k (by omega)
            replace y3 := y3 k (by omega)
            have lw : w.heap.size ≤ wr.heap.size := hbs.size
            have lb1 : b1 < wr.heap.size := by omega
            have lb2 : b2 < wr.heap.size := by omega
            have lb3 : b3 < wr.heap.size := by have := hbn.size; omega
            have HSk : ∀ W', Below wr.heap.size wr W' → Below wr.heap.size wr W' ∧ W'.cell? ⟨w.heap.size + 1, 0, none⟩ = some (.slice (some ⟨b2, o2, none⟩) 1 c2) ∧
                W'.cell? ⟨b2, o2 + k * 2, none⟩ = some (.int .u32 (el os k).1) ∧ W'.cell? ⟨b2, o2 + k * 2 + 1, none⟩ = some (.int .u32 (el os k).2) ∧
                W'.cell? ⟨b3, o3 + k * 2, none⟩ = some (.int .u32 (el tw k).1) ∧ W'.cell? ⟨b3, o3 + k * 2 + 1, none⟩ = some (.int .u32 (el tw k).2) := fun W' h =>
              ⟨h, (h.cell (p := ⟨w.heap.size + 1, 0, none⟩) D2'.lt).trans D2'.cell, (h.cell (p := ⟨b2, o2 + k * 2, none⟩) lb2).trans x2, (h.cell (p := ⟨b2, o2 + k * 2 + 1, none⟩) lb2).trans y2, (h.cell (p := ⟨b3, o3 + k * 2, none⟩) lb3).trans x3, (h.cell (p := ⟨b3, o3 + k * 2 + 1, none⟩) lb3).trans y3⟩
            have hl0 : (Instr.lookup 92 mv (.int .i64 2) false).run Try.prog wr.drew = .ok _ wr.drew := hlook wr.drew hbn.drew
            have hl1 : (Instr.lookup 92 mv (.int .i64 2) false).run Try.prog (wr.alloc (.cells #[.int .u32 0, .int .u32 0] 32)).drew = .ok _ (wr.alloc (.cells #[.int .u32 0, .int .u32 0] 32)).drew := hlook (wr.alloc (.cells #[.int .u32 0, .int .u32 0] 32)).drew (hbn.alloc (by have := hbn.size; omega) _).drew
            have MM := Lib.hid (HM.out k hlt)
            replace HSk := Lib.hid HSk
            have HRs := Lib.hid (And.intro hRs (And.intro hLs (And.intro hss hbs)))
            clear hlook hNt hRs hLs hss
            have ik0 : (0 : Int) ≤ (k : Int) := by omega
            have ik1 : (k : Int) < 2 := by omega
            have ik2 : (k : Int) < 1 := by omega
            go_wp2_with fail
            have HZ := Lib.hid (And.intro hk (And.intro hlt (And.intro lb1 (And.intro lb2 (And.intro lb3 (And.intro lw (And.intro hgb (And.intro bl1 (And.intro bl2 (And.intro bd1 (And.intro bd2 (And.intro hs6 p1))))))))))))
            have HY := Lib.hid (And.intro x1 (And.intro y1 (And.intro D1 (And.intro hbn (And.intro hys hWW)))))
            clear hk hlt lb1 lb2 lb3 lw hgb bl1 bl2 bd1 bd2 hs6 hsz hD hD2 hn0 hcap hcap2 n1 hb x1 y1 x2 y2 x3 y3 D1 D2' p1 q1 r1 p2 q2 r2 p3 q3 r3 he ho htw hys hz0 hz1 hz2 hi hbn hbs hWW hR
            refine wp_region_noPanic ?_
            go_region_held3 (fun W' => Below wr.heap.size wr W' ∧ W'.cell? ⟨w.heap.size + 1, 0, none⟩ = some (.slice (some ⟨b2, o2, none⟩) 1 c2) ∧
                W'.cell? ⟨b2, o2 + k * 2, none⟩ = some (.int .u32 (el os k).1) ∧ W'.cell? ⟨b2, o2 + k * 2 + 1, none⟩ = some (.int .u32 (el os k).2) ∧
                W'.cell? ⟨b3, o3 + k * 2, none⟩ = some (.int .u32 (el tw k).1) ∧ W'.cell? ⟨b3, o3 + k * 2 + 1, none⟩ = some (.int .u32 (el tw k).2))
              ((go_split_ands; first
                | exact HSk.out _ ((Below.refl _ _).drew)
                | exact HSk.out _ (by assumption)
                | exact HSk.out _ (bel_al (by assumption) _)
                | exact HSk.out _ (bel_step (by assumption) (by assumption))
                | exact HSk.out _ (bel_sc2 (by assumption) (by first | exact Nat.le_refl _ | exact Below.size (by assumption) | omega | (simp; omega)))))
              (first
                | (go_at_call 15; refine (MM.out _).mono ?_; rintro e w7 ⟨rfl, hb7⟩; have q7 : Below wr.heap.size wr w7 := by (go_split_ands; exact bel_step (by assumption) hb7)
                   first | (have bx : Box2 w7 wr.heap.size (.int .u32 0) (.int .u32 0) := Box2.below (Box2.new wr.drew (.int .u32 0) (.int .u32 0) 32 wr.heap.size rfl) hb7 (by simp); obtain ⟨bx0, bx1, bf0, bf1, bxl⟩ := bx)| skip))
            all_goals (
              refine NoPanic.normal ?_
              first
                | (have bx8 := box2_set (a := .int .u32 (el ts k).1) (b := .int .u32 (el ts k).2) (Box2.mk bx0 bx1 bf0 bf1 bxl)
                   have q8 := bel_sc2 (x := .int .u32 (el ts k).1) (y := .int .u32 (el ts k).2) q7 (Nat.le_refl _)
                   clear bx0 bx1 bf0 bf1 bxl hb7
                   generalize (w7.setCell ⟨wr.heap.size, 0, none⟩ (.int .u32 (el ts k).1)).setCell ⟨wr.heap.size, 1, none⟩ (.int .u32 (el ts k).2) = W8 at *
                   obtain ⟨T, hT⟩ : ∃ T, wr.heap.size = T := ⟨_, rfl⟩
                   rw [hT] at bx8 ⊢
                   have hTT : wr.heap.size ≤ T := by omega)
                | (have bx8 := Box2.new w7 (.int .u32 (el ts k).1) (.int .u32 (el ts k).2) 32 w7.heap.size rfl
                   have q8 := bel_al q7 (.cells #[.int .u32 (el ts k).1, .int .u32 (el ts k).2] 32)
                   have hTT := q7.size
                   clear hb7
                   generalize w7.alloc (.cells #[.int .u32 (el ts k).1, .int .u32 (el ts k).2] 32) = W8 at *
                   generalize w7.heap.size = T at *)
              obtain ⟨zk, zlt, zb1, zb2, zb3, zw, zg, zl1, zl2, zd1, zd2, zs6, zp1⟩ := HZ.out
              obtain ⟨x1, y1, D1, hbn, hys, hWW⟩ := HY.out
              obtain ⟨hRs, hLs, hss, hbs⟩ := HRs.out
              have cT0 := bx8.c0
              have cT1 := bx8.c1
              have lT := bx8.lt
              have hsz8 := q8.size
              have hgw := hRs.lt
              have HSk2 : Hid (∀ W', Below W8.heap.size W8 W' → W'.cell? ⟨w.heap.size, 0, none⟩ = some (.slice (some ⟨b1, o1, none⟩) 1 c1) ∧
                  W'.cell? ⟨b1, o1 + k * 2, none⟩ = some (.int .u32 (el es k).1) ∧ W'.cell? ⟨b1, o1 + k * 2 + 1, none⟩ = some (.int .u32 (el es k).2) ∧
                  W'.cell? ⟨T, 0, none⟩ = some (.int .u32 (el ts k).1) ∧ W'.cell? ⟨T, 1, none⟩ = some (.int .u32 (el ts k).2)) := Lib.hid fun W' h =>
                ⟨(h.cell (p := ⟨w.heap.size, 0, none⟩) (by show w.heap.size < _; omega)).trans ((q8.cell (p := ⟨w.heap.size, 0, none⟩) (by show w.heap.size < _; omega)).trans D1.cell),
                  (h.cell (p := ⟨b1, o1 + k * 2, none⟩) (by show b1 < _; omega)).trans ((q8.cell (p := ⟨b1, o1 + k * 2, none⟩) zb1).trans x1),
                  (h.cell (p := ⟨b1, o1 + k * 2 + 1, none⟩) (by show b1 < _; omega)).trans ((q8.cell (p := ⟨b1, o1 + k * 2 + 1, none⟩) zb1).trans y1),
                  (h.cell (p := ⟨T, 0, none⟩) lT).trans cT0, (h.cell (p := ⟨T, 1, none⟩) lT).trans cT1⟩
              have HKs : Hid (∀ (W' : World) (i j : Nat) (x y : Value), (W'.cell? ⟨w.heap.size, 0, none⟩ = some (.slice (some ⟨b1, o1, none⟩) 1 c1) ∧
                  W'.cell? ⟨b1, o1 + k * 2, none⟩ = some (.int .u32 (el es k).1) ∧ W'.cell? ⟨b1, o1 + k * 2 + 1, none⟩ = some (.int .u32 (el es k).2) ∧
                  W'.cell? ⟨T, 0, none⟩ = some (.int .u32 (el ts k).1) ∧ W'.cell? ⟨T, 1, none⟩ = some (.int .u32 (el ts k).2)) →
                  (((W'.setCell ⟨g, i, none⟩ x).setCell ⟨g, j, none⟩ y).cell? ⟨w.heap.size, 0, none⟩ = some (.slice (some ⟨b1, o1, none⟩) 1 c1) ∧
                  ((W'.setCell ⟨g, i, none⟩ x).setCell ⟨g, j, none⟩ y).cell? ⟨b1, o1 + k * 2, none⟩ = some (.int .u32 (el es k).1) ∧ ((W'.setCell ⟨g, i, none⟩ x).setCell ⟨g, j, none⟩ y).cell? ⟨b1, o1 + k * 2 + 1, none⟩ = some (.int .u32 (el es k).2) ∧
                  ((W'.setCell ⟨g, i, none⟩ x).setCell ⟨g, j, none⟩ y).cell? ⟨T, 0, none⟩ = some (.int .u32 (el ts k).1) ∧ ((W'.setCell ⟨g, i, none⟩ x).setCell ⟨g, j, none⟩ y).cell? ⟨T, 1, none⟩ = some (.int .u32 (el ts k).2))) := Lib.hid fun W' i j x y h => by
                have n1 : w.heap.size ≠ g := by omega
                have n2 : b1 ≠ g := by omega
                have n3 : T ≠ g := by omega
                obtain ⟨h1, h2, h3, h4, h5⟩ := h
                refine ⟨?_, ?_, ?_, ?_, ?_⟩ <;> (rw [World.cell?_of_block (heap_setCell_other _ _ _ _ (by first | exact n1 | exact n2 | exact n3)), World.cell?_of_block (heap_setCell_other _ _ _ _ (by first | exact n1 | exact n2 | exact n3))]; assumption)
              have iw : IntKind.i64.wrap ((k : Int) + 1) = (k : Int) + 1 := by rw [IntKind.wrap_i64]; omega
              have iwh : IntKind.i64.wrap 1 = 1 := by rw [IntKind.wrap_i64]; omega
              have iw0 : (0 : Int) ≤ (k : Int) + 1 := by omega
              have iw1 : (k : Int) + 1 < 2 := by omega
              have iw2 : ((k : Int) + 1).toNat = k + 1 := by omega
              have RG : ∀ W', Below W8.heap.size W8 W' → Res W' g 2 ys (fun j => decide (j % 1 < k)) := fun W' h => hRs.block ((h.block g (by omega)).trans (q8.block g hgw))
              have RC := Lib.hid fun W' (h : Below W8.heap.size W8 W') => And.intro ((RG W' h).cells (i := k) (by omega)) ((RG W' h).cells (i := k + 1) (by omega))
              have AA := Lib.hid (HA.out k zlt)
              have SS := Lib.hid (HS.out k zlt)
              have HQ := Lib.hid (And.intro q8 RG)
              clear zk zlt zb1 zb2 zb3 zw zg zl1 zl2 zd1 zd2 zs6 x1 y1 D1 hbn hys hWW hRs hLs hss hbs cT0 cT1 lT hsz8 hgw bx8 q8 RG q7 hl0 hl1 zp1 hTT
              go_wp2_with fail
              refine wp_region_noPanic ?_
              go_region_held3 (fun W' => W'.cell? ⟨w.heap.size, 0, none⟩ = some (.slice (some ⟨b1, o1, none⟩) 1 c1) ∧
                  W'.cell? ⟨b1, o1 + k * 2, none⟩ = some (.int .u32 (el es k).1) ∧ W'.cell? ⟨b1, o1 + k * 2 + 1, none⟩ = some (.int .u32 (el es k).2) ∧
                  W'.cell? ⟨T, 0, none⟩ = some (.int .u32 (el ts k).1) ∧ W'.cell? ⟨T, 1, none⟩ = some (.int .u32 (el ts k).2))
                ((go_split_ands; first
                  | exact HSk2.out _ ((Below.refl _ _).drew)
                  | exact HSk2.out _ q9
                  | exact HSk2.out _ q10
                  | exact HKs.out _ _ _ _ _ (HSk2.out _ q10)
                  | exact HKs.out _ _ _ _ _ (HKs.out _ _ _ _ _ (HSk2.out _ q10))))
                (first
                  | (go_at_call 13; (with_reducible refine (AA.out _).mono ?_); rintro e w9 ⟨rfl, hb9⟩; have q9 : Below W8.heap.size W8 w9 := ⟨hb9.os, hb9.tape, hb9.output, hb9.size, hb9.block⟩)
                  | (go_at_call 14; (with_reducible refine (SS.out _).mono ?_); rintro e w10 ⟨rfl, hb10⟩; have q10 : Below W8.heap.size W8 w10 := bel_step q9 hb10
                     obtain ⟨⟨⟨v0, z0⟩, ⟨v1, z1⟩, f0, f1⟩, ⟨⟨v2, z2⟩, ⟨v3, z3⟩, f2, f3⟩⟩ := RC.out w10 q10
                     have z4 : ∀ x y, ((w10.setCell ⟨g, k * 2, none⟩ x).setCell ⟨g, k * 2 + 1, none⟩ y).cell? ⟨g, (k + 1) * 2, none⟩ = some v2 := fun x y => by rw [World.cell?_setCell_other _ _ _ _ (by first | (simp; done) | (simp; omega)), World.cell?_setCell_other _ _ _ _ (by first | (simp; done) | (simp; omega))]; exact z2
                     have z5 : ∀ x y, ((w10.setCell ⟨g, k * 2, none⟩ x).setCell ⟨g, k * 2 + 1, none⟩ y).cell? ⟨g, (k + 1) * 2 + 1, none⟩ = some v3 := fun x y => by rw [World.cell?_setCell_other _ _ _ _ (by first | (simp; done) | (simp; omega)), World.cell?_setCell_other _ _ _ _ (by first | (simp; done) | (simp; omega))]; exact z3)))
            all_goals (
              obtain ⟨q8, RG⟩ := HQ.out
              obtain ⟨zk, zlt, zb1, zb2, zb3, zw, zg, zl1, zl2, zd1, zd2, zs6, zp1⟩ := HZ.out
              obtain ⟨hRs, hLs, hss, hbs⟩ := HRs.out
              have R1 := (RG w10 q10).set (k := k) (q := fun i => decide (i % 1 < k) || decide (i = k)) (by omega) (fun _ _ => rfl)
              have R2 := R1.set (k := k + 1) (q := fun i => decide (i % 1 < k + 1)) (by omega) (by intro i hi; rw [Bool.eq_iff_iff]; simp; omega)
              have hs10 := q10.size
              have hs8 := q8.size
              have Q8 : Below wr.heap.size wr w10 := q8.trans (q10.mono (by omega))
              have FB : Below w.heap.size w ((((w10.setCell ⟨g, k * 2, none⟩ (.int .u32 (el ys k).1)).setCell ⟨g, k * 2 + 1, none⟩ (.int .u32 (el ys k).2)).setCell ⟨g, (k + 1) * 2, none⟩ (.int .u32 (el ys (k + 1)).1)).setCell ⟨g, (k + 1) * 2 + 1, none⟩ (.int .u32 (el ys (k + 1)).2)) :=
                ((((hbs.trans (Q8.mono zw)).setCell (p := ⟨g, k * 2, none⟩) zg _).setCell (p := ⟨g, k * 2 + 1, none⟩) zg _).setCell (p := ⟨g, (k + 1) * 2, none⟩) zg _).setCell (p := ⟨g, (k + 1) * 2 + 1, none⟩) zg _
              have FL : Lows g w6 ((((w10.setCell ⟨g, k * 2, none⟩ (.int .u32 (el ys k).1)).setCell ⟨g, k * 2 + 1, none⟩ (.int .u32 (el ys k).2)).setCell ⟨g, (k + 1) * 2, none⟩ (.int .u32 (el ys (k + 1)).1)).setCell ⟨g, (k + 1) * 2 + 1, none⟩ (.int .u32 (el ys (k + 1)).2)) := by
                intro j hj hne
                rw [heap_setCell_other _ _ _ _ hne, heap_setCell_other _ _ _ _ hne, heap_setCell_other _ _ _ _ hne, heap_setCell_other _ _ _ _ hne]
                exact (Q8.block j (by omega)).trans (hLs j hj hne)
              refine NoPanic.normal ?_
              clear z0 z1 z2 z3 z4 z5 f0 f1 f2 f3 iw iwh iw0 iw1 iw2
              go_wp2_with fail
              go_roundw
              case rel => exact ⟨k + 1, by omega, by simp, R2, FL, by simp; omega, FB⟩
              case measure => simp [intOf]; omega)
          · obtain rfl : k = 1 := by omega
            have gd2 : wr.heap[D2]? = some (.deferred (some [])) := (hLs D2 (by omega) (by omega)).trans HH.out.2.2.2.2.1
            have gd1 : wr.heap[D]? = some (.deferred (some [])) := (hLs D (by omega) (by omega)).trans HH.out.2.2.2.2.2.1
            have gd3 : (wr.putObj D2 (.deferred none)).heap[D]? = some (.deferred (some [])) := (World.putObj_heap_other (by omega)).trans gd1
            have R3 : Res ((wr.putObj D2 (.deferred none)).putObj D (.deferred none)) g 2 ys (fun j => decide (j % 1 < 1)) :=
              hRs.block ((World.putObj_heap_other (by omega)).trans (World.putObj_heap_other (by omega)))
            have N3 := R3.nums (by intro i hi; simp; omega) hys (by omega)
            have FB2 : Below w.heap.size w ((wr.putObj D2 (.deferred none)).putObj D (.deferred none)) :=
              (hbs.trans (belowK_b (w := w) (Nat.le_refl _) wr D2 _ _ (by omega) gd2 rfl rfl)).trans (belowK_b (w := w) (Nat.le_refl _) _ D _ _ (by omega) gd3 rfl rfl)
            go_wp2_with fail
            refine ⟨by simp, .inl ⟨_, _, rfl, run_takeDeferred gd2, ?_⟩⟩
            refine ⟨by simp, .inl ⟨_, _, rfl, run_takeDeferred gd3, ?_⟩⟩
            exact ⟨_, results_tmp rfl _ _ _, .slice (some ⟨g, 0, none⟩) 2 2, rfl, N3, fun g' hg' => by cases hg'; omega, FB2⟩
      refine wp_region_noPanic ?_
      go_region_with (first
        | (go_at_call 59; (with_reducible refine HE.out.mono ?_); rintro e w3 ⟨v1, rfl, hN1, hF1, hb1⟩
           obtain ⟨b1, o1, c1, rfl, hN1'⟩ := id hN1
           have bE1 : Boxed w3 w.heap.size 24 u := (hb1.block _ (by omega)).trans bE
           have bO1 : Boxed w3 (w.heap.size + 1) 24 v := (hb1.block _ (by omega)).trans hv
           have cO1 := bO1.cell
           have HN1 := Lib.hid (And.intro hN1 hF1)
           have HB1 : Hid (Below W2.heap.size W2 w3) := Lib.hid hb1
           clear hb1 hN1' hN1 hF1)
        | (go_at_call 59; (with_reducible refine (HO.out _ HB1.out).mono ?_); rintro e w4 ⟨v2, rfl, hN2, hF2, hb2⟩
           obtain ⟨b2, o2, c2, rfl, hN2'⟩ := id hN2
           have bE2 : Boxed w4 w.heap.size 24 u := (hb2.block _ bE1.lt).trans bE1
           have bO2 : Boxed w4 (w.heap.size + 1) 24 v := (hb2.block _ bO1.lt).trans bO1
           have cE2 := bE2.cell
           have cO2 := bO2.cell
           have fE2 := bE2.frozen
           have fO2 := bO2.frozen
           have HN2 := Lib.hid (And.intro hN2 hF2)
           have HB2 := Lib.hid hb2
           clear hb2 hN2' hN2 hF2))
      all_goals (
        refine NoPanic.normal (REST _ b1 o1 c1 b2 o2 c2 ?_ ?_ ?_ ?_ ?_ ?_ ?_)
        · exact (bE2.set _).other (by omega) _
        · exact (bO2.other (by omega) _).set _
        · have hz := HB1.out.size
          have n1 := HN1.out
          rw [he] at n1
          refine Nums.mono (n0 := w4.heap.size) ?_ (by simp)
          exact Nums.setCell (k := w.heap.size + 1) (Nums.setCell (k := w.heap.size) ((n1.1.below HB2.out (Nat.le_refl _)).mono HB2.out.size) n1.2 (by omega)) n1.2 (by omega)
        · have hz := HB1.out.size
          have n2 := HN2.out
          rw [ho] at n2
          refine Nums.mono (n0 := w4.heap.size) ?_ (by simp)
          exact Nums.setCell (k := w.heap.size + 1) (Nums.setCell (k := w.heap.size) n2.1 n2.2 (by omega)) n2.2 (by omega)
        · exact (((HF.out.2.2.1.trans (HB1.out.mono HF.out.2.2.1.size)).trans (HB2.out.mono (by have := HB1.out.size; omega))).setCell (p := ⟨w.heap.size, 0, none⟩) (Nat.le_refl _) _).setCell (p := ⟨w.heap.size + 1, 0, none⟩) (Nat.le_add_right _ 1) _
        · rw [heap_setCell_other _ _ _ _ (by show D2 ≠ w.heap.size + 1; omega), heap_setCell_other _ _ _ _ (by show D2 ≠ w.heap.size; omega)]
          exact (HB2.out.block D2 (by have := HB1.out.size; omega)).trans ((HB1.out.block D2 ltD2).trans HF.out.1)
        · rw [heap_setCell_other _ _ _ _ (by show D ≠ w.heap.size + 1; omega), heap_setCell_other _ _ _ _ (by show D ≠ w.heap.size; omega)]
          exact (HB2.out.block D (by have := HB1.out.size; omega)).trans ((HB1.out.block D ltDD).trans HF.out.2.1))
end Go.Proofs.Ytaacgfmpahfmpaa
