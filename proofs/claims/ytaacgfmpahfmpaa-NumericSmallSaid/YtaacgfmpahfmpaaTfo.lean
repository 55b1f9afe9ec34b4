/- Transform, not inverse, of 1, 2 and 4 points. Written by program (wip/tools/gen_tfo.py). -/
import Derived.Test.YtaacgfmpahfmpaaFac
namespace Go.Proofs.Ytaacgfmpahfmpaa
open Go.RowKit Go.Shelf

theorem mk1 (W : World) : (Instr.makeSlice 24 (.int .i64 1) (.int .i64 1)).run Try.prog W = .ok (.slice (some ⟨W.heap.size, 0, none⟩) 1 1) (W.alloc (.cells #[.int .u32 0, .int .u32 0] 32)) := by
  obtain ⟨i0, hi, hz0, hz1, hz2⟩ := info_parts info32
  have := run_make (P := Try.prog) W 24 32 i0 _ Try.underlying24 hi hz0 .i64 .i64 1 1 (by omega) (by omega) (by rw [hz2]; decide) (by omega)
  have hm : madeCells (Value.agg #[.int .u32 0, .int .u32 0]).cells (Int.toNat 1 * 2) = #[.int .u32 0, .int .u32 0] := by kernel_rfl
  rw [hz1, hm] at this
  exact this
theorem res1 (W : World) (ys : List P2) : Res (W.alloc (.cells #[.int .u32 0, .int .u32 0] 32)) W.heap.size 1 ys (fun _ => false) :=
  ⟨_, heap_alloc_new W _, rfl, fun i hi => by
    have : i = 0 := by omega
    subst this; exact ⟨rfl, rfl⟩⟩

/-- What Transform leaves. -/
def TFp (ys : List P2) (W : World) (e : Ending) (w' : World) : Prop :=
  ∃ v, e = .returned (.tuple #[v, .int .i64 0]) ∧ Nums w'.heap.size w' v ys ∧ Fresh W.heap.size v ∧ Below W.heap.size W w'
/-- All factors that a transform of n points asks for. -/
def Facs (n : Nat) (t4 t2 : List P2) (W : World) (mv : Value) : Prop := (n = 4 → Fac W.heap.size W mv 4 t4) ∧ (n = 4 ∨ n = 2 → Fac W.heap.size W mv 2 t2)

set_option maxRecDepth 20000 in
set_option maxHeartbeats 4000000 in
theorem tfo1 (xs ys t4 t2 : List P2) (hx : xs.length = 1) (hN : ∀ k, k < 1 → Num (el xs k).1 ∧ Num (el xs k).2) (T4 : ∀ W, Calls Try.prog 32 #[.int .i64 4] W (TWp W t4)) (T2 : ∀ W, Calls Try.prog 32 #[.int .i64 2] W (TWp W t2))
    (HT : ∀ mv W, Facs 1 t4 t2 W mv → TR W.heap.size W mv xs ys) (v : Value) (w : World) (hV : Nums w.heap.size w v xs) :
    Calls Try.prog 34 #[v, .bool false] w (TFp ys w) := by
  obtain ⟨b, off, cap, hv, hb, hcap, hcap2, h1, h2⟩ := id hV
  rw [hx] at hv
  have L : Hid (∀ W, Calls Try.prog 56 #[.int .i64 1] W fun e w' => e = .returned (.bool true) ∧ W = w') := Lib.hid (len_any 1 (by unfold sml; omega))
  have F : Hid (∀ W, Calls Try.prog 60 #[.int .i64 1] W (FAp 1 t4 t2 W)) := Lib.hid (fac_any 1 (by unfold sml; omega) t4 t2 T4 T2)
  have MK := mk1
  have HV := Lib.hid hV
  replace HT := Lib.hid HT
  replace hN := Lib.hid hN
  have HX := Lib.hid hx
  have HC := Lib.hid (And.intro h1 h2)
  clear h1 h2 hV T4 T2 hx
  subst hv
  have hR := res1 w xs
  have hL0 : Lows w.heap.size (w.alloc (.cells #[.int .u32 0, .int .u32 0] 32)) (w.alloc (.cells #[.int .u32 0, .int .u32 0] 32)) := fun _ _ _ => rfl
  have hb0 : Below w.heap.size w (w.alloc (.cells #[.int .u32 0, .int .u32 0] 32)) := (Below.refl _ w).alloc (Nat.le_refl _) _
  have hs0 : (w.alloc (.cells #[.int .u32 0, .int .u32 0] 32)).heap.size = w.heap.size + 1 := by simp
  go_enter Try.func34, Try.ntmps34
  go_wp2_with (go_at_call 56; (with_reducible refine (L.out _).mono ?_); rintro e w1 ⟨rfl, rfl⟩)
  generalize w.alloc (.cells #[.int .u32 0, .int .u32 0] 32) = w1 at *
  clear MK
  go_loopw [24] (fun i wr => ∃ k : Nat, k ≤ 1 ∧ i = .int .i64 (k : Int) ∧ Res wr w.heap.size 1 xs (fun j => decide (j < k)) ∧ Lows w.heap.size w1 wr ∧ w1.heap.size ≤ wr.heap.size ∧ Below w.heap.size w wr)
    (fun i _ => 1 - (intOf i).toNat)
  case atStart => exact ⟨0, by omega, rfl, by simpa using hR, hL0, Nat.le_refl _, hb0⟩
  case round =>
    obtain ⟨k, hk, rfl, hRs, hLs, hss, hbs⟩ := hrel
    by_cases hlt : k < 1
    · have x0 := (hbs.cell (p := ⟨b, off + k * 2, none⟩) hb).trans (HC.out.1 k (by rw [HX.out]; exact hlt))
      have y0 := (hbs.cell (p := ⟨b, off + k * 2 + 1, none⟩) hb).trans (HC.out.2 k (by rw [HX.out]; exact hlt))
      obtain ⟨n1, n2⟩ := hN.out k hlt
      have V := Lib.hid (value_any _ _ n1 n2)
      have U := Lib.hid (number_any _ _ n1 n2)
      have ik0 : (0 : Int) ≤ (k : Int) := by omega
      have ik1 : (k : Int) < 1 := by omega
      have HRs := Lib.hid (And.intro hRs (And.intro hLs (And.intro hss hbs)))
      have hgl := hRs.lt
      clear n1 n2 hRs hLs hss
      go_wp2_with (first
        | (go_at_call 46; (with_reducible refine (V.out _).mono ?_); rintro e w2 ⟨rfl, hb2⟩)
        | (go_at_call 47; (with_reducible refine (U.out _).mono ?_); rintro e w3 ⟨rfl, hb3⟩
           have q3 : Below wr.heap.size wr w3 := bel_step (bel_alloc hb2) hb3
           have r3 := HRs.out.1.block (q3.block w.heap.size hgl)
           obtain ⟨⟨v0, z0⟩, ⟨v1, z1⟩, f0, f1⟩ := r3.cells (i := k) hlt))
      have R1 := r3.set (k := k) (q := fun i => decide (i < k + 1)) hlt (by intro i hi; rw [Bool.eq_iff_iff]; simp; omega)
      obtain ⟨hRs, hLs, hss, _⟩ := HRs.out
      have hs3 := q3.size
      go_roundw
      case rel =>
        refine ⟨k + 1, by omega, by simp, R1, ?_, by simp; omega, ?_⟩
        · intro j hj hne
          rw [heap_setCell_other _ _ _ _ hne, heap_setCell_other _ _ _ _ hne]
          exact (q3.block j (by omega)).trans (hLs j hj hne)
        · exact ((hbs.trans (q3.mono hbs.size)).setCell (p := ⟨w.heap.size, k * 2, none⟩) (Nat.le_refl _) _).setCell (p := ⟨w.heap.size, k * 2 + 1, none⟩) (Nat.le_refl _) _
      case measure => simp [intOf]; omega
    · obtain rfl : k = 1 := by omega
      have hNP := hRs.nums (by intro i hi; simp; omega) HX.out (by omega)
      clear hR hL0 hs0 hRs hLs
      go_wp2_with (first
        | (go_at_call 60; (with_reducible refine (F.out _).mono ?_); rintro e w2 ⟨mv, rfl, f4, f2, hb2⟩
           have TT := Lib.hid (HT.out mv w2 ⟨f4, f2⟩ w2 _ (Below.refl _ _) ((hNP.below hb2 (Nat.le_refl _)).mono hb2.size)))
        | (go_at_call 59; (with_reducible refine TT.out.mono ?_); rintro e w3 ⟨v', rfl, hn3, hf3, hb3⟩))
      go_ret2
      have s2 := hbs.size
      have s3 := hb2.size
      exact ⟨_, rfl, hn3, fun g hg => by have := hf3 g hg; omega, (hbs.trans (hb2.mono s2)).trans (hb3.mono (by omega))⟩

set_option maxRecDepth 20000 in
set_option maxHeartbeats 4000000 in
theorem tfo2 (xs ys t4 t2 : List P2) (hx : xs.length = 2) (hN : ∀ k, k < 2 → Num (el xs k).1 ∧ Num (el xs k).2) (T4 : ∀ W, Calls Try.prog 32 #[.int .i64 4] W (TWp W t4)) (T2 : ∀ W, Calls Try.prog 32 #[.int .i64 2] W (TWp W t2))
    (HT : ∀ mv W, Facs 2 t4 t2 W mv → TR W.heap.size W mv xs ys) (v : Value) (w : World) (hV : Nums w.heap.size w v xs) :
    Calls Try.prog 34 #[v, .bool false] w (TFp ys w) := by
  obtain ⟨b, off, cap, hv, hb, hcap, hcap2, h1, h2⟩ := id hV
  rw [hx] at hv
  have L : Hid (∀ W, Calls Try.prog 56 #[.int .i64 2] W fun e w' => e = .returned (.bool true) ∧ W = w') := Lib.hid (len_any 2 (by unfold sml; omega))
  have F : Hid (∀ W, Calls Try.prog 60 #[.int .i64 2] W (FAp 2 t4 t2 W)) := Lib.hid (fac_any 2 (by unfold sml; omega) t4 t2 T4 T2)
  have MK := mk2
  have HV := Lib.hid hV
  replace HT := Lib.hid HT
  replace hN := Lib.hid hN
  have HX := Lib.hid hx
  have HC := Lib.hid (And.intro h1 h2)
  clear h1 h2 hV T4 T2 hx
  subst hv
  have hR := res2 w xs
  have hL0 : Lows w.heap.size (w.alloc (.cells #[.int .u32 0, .int .u32 0, .int .u32 0, .int .u32 0] 32)) (w.alloc (.cells #[.int .u32 0, .int .u32 0, .int .u32 0, .int .u32 0] 32)) := fun _ _ _ => rfl
  have hb0 : Below w.heap.size w (w.alloc (.cells #[.int .u32 0, .int .u32 0, .int .u32 0, .int .u32 0] 32)) := (Below.refl _ w).alloc (Nat.le_refl _) _
  have hs0 : (w.alloc (.cells #[.int .u32 0, .int .u32 0, .int .u32 0, .int .u32 0] 32)).heap.size = w.heap.size + 1 := by simp
  go_enter Try.func34, Try.ntmps34
  go_wp2_with (go_at_call 56; (with_reducible refine (L.out _).mono ?_); rintro e w1 ⟨rfl, rfl⟩)
  generalize w.alloc (.cells #[.int .u32 0, .int .u32 0, .int .u32 0, .int .u32 0] 32) = w1 at *
  clear MK
  go_loopw [24] (fun i wr => ∃ k : Nat, k ≤ 2 ∧ i = .int .i64 (k : Int) ∧ Res wr w.heap.size 2 xs (fun j => decide (j < k)) ∧ Lows w.heap.size w1 wr ∧ w1.heap.size ≤ wr.heap.size ∧ Below w.heap.size w wr)
    (fun i _ => 2 - (intOf i).toNat)
  case atStart => exact ⟨0, by omega, rfl, by simpa using hR, hL0, Nat.le_refl _, hb0⟩
  case round =>
    obtain ⟨k, hk, rfl, hRs, hLs, hss, hbs⟩ := hrel
    by_cases hlt : k < 2
    · have x0 := (hbs.cell (p := ⟨b, off + k * 2, none⟩) hb).trans (HC.out.1 k (by rw [HX.out]; exact hlt))
      have y0 := (hbs.cell (p := ⟨b, off + k * 2 + 1, none⟩) hb).trans (HC.out.2 k (by rw [HX.out]; exact hlt))
      obtain ⟨n1, n2⟩ := hN.out k hlt
      have V := Lib.hid (value_any _ _ n1 n2)
      have U := Lib.hid (number_any _ _ n1 n2)
      have ik0 : (0 : Int) ≤ (k : Int) := by omega
      have ik1 : (k : Int) < 2 := by omega
      have HRs := Lib.hid (And.intro hRs (And.intro hLs (And.intro hss hbs)))
      have hgl := hRs.lt
      clear n1 n2 hRs hLs hss
      go_wp2_with (first
        | (go_at_call 46; (with_reducible refine (V.out _).mono ?_); rintro e w2 ⟨rfl, hb2⟩)
        | (go_at_call 47; (with_reducible refine (U.out _).mono ?_); rintro e w3 ⟨rfl, hb3⟩
           have q3 : Below wr.heap.size wr w3 := bel_step (bel_alloc hb2) hb3
           have r3 := HRs.out.1.block (q3.block w.heap.size hgl)
           obtain ⟨⟨v0, z0⟩, ⟨v1, z1⟩, f0, f1⟩ := r3.cells (i := k) hlt))
      have R1 := r3.set (k := k) (q := fun i => decide (i < k + 1)) hlt (by intro i hi; rw [Bool.eq_iff_iff]; simp; omega)
      obtain ⟨hRs, hLs, hss, _⟩ := HRs.out
      have hs3 := q3.size
      go_roundw
      case rel =>
        refine ⟨k + 1, by omega, by simp, R1, ?_, by simp; omega, ?_⟩
        · intro j hj hne
          rw [heap_setCell_other _ _ _ _ hne, heap_setCell_other _ _ _ _ hne]
          exact (q3.block j (by omega)).trans (hLs j hj hne)
        · exact ((hbs.trans (q3.mono hbs.size)).setCell (p := ⟨w.heap.size, k * 2, none⟩) (Nat.le_refl _) _).setCell (p := ⟨w.heap.size, k * 2 + 1, none⟩) (Nat.le_refl _) _
      case measure => simp [intOf]; omega
    · obtain rfl : k = 2 := by omega
      have hNP := hRs.nums (by intro i hi; simp; omega) HX.out (by omega)
      clear hR hL0 hs0 hRs hLs
      go_wp2_with (first
        | (go_at_call 60; (with_reducible refine (F.out _).mono ?_); rintro e w2 ⟨mv, rfl, f4, f2, hb2⟩
           have TT := Lib.hid (HT.out mv w2 ⟨f4, f2⟩ w2 _ (Below.refl _ _) ((hNP.below hb2 (Nat.le_refl _)).mono hb2.size)))
        | (go_at_call 59; (with_reducible refine TT.out.mono ?_); rintro e w3 ⟨v', rfl, hn3, hf3, hb3⟩))
      go_ret2
      have s2 := hbs.size
      have s3 := hb2.size
      exact ⟨_, rfl, hn3, fun g hg => by have := hf3 g hg; omega, (hbs.trans (hb2.mono s2)).trans (hb3.mono (by omega))⟩

set_option maxRecDepth 20000 in
set_option maxHeartbeats 4000000 in
theorem tfo4 (xs ys t4 t2 : List P2) (hx : xs.length = 4) (hN : ∀ k, k < 4 → Num (el xs k).1 ∧ Num (el xs k).2) (T4 : ∀ W, Calls Try.prog 32 #[.int .i64 4] W (TWp W t4)) (T2 : ∀ W, Calls Try.prog 32 #[.int .i64 2] W (TWp W t2))
    (HT : ∀ mv W, Facs 4 t4 t2 W mv → TR W.heap.size W mv xs ys) (v : Value) (w : World) (hV : Nums w.heap.size w v xs) :
    Calls Try.prog 34 #[v, .bool false] w (TFp ys w) := by
  obtain ⟨b, off, cap, hv, hb, hcap, hcap2, h1, h2⟩ := id hV
  rw [hx] at hv
  have L : Hid (∀ W, Calls Try.prog 56 #[.int .i64 4] W fun e w' => e = .returned (.bool true) ∧ W = w') := Lib.hid (len_any 4 (by unfold sml; omega))
  have F : Hid (∀ W, Calls Try.prog 60 #[.int .i64 4] W (FAp 4 t4 t2 W)) := Lib.hid (fac_any 4 (by unfold sml; omega) t4 t2 T4 T2)
  have MK := mk4
  have HV := Lib.hid hV
  replace HT := Lib.hid HT
  replace hN := Lib.hid hN
  have HX := Lib.hid hx
  have HC := Lib.hid (And.intro h1 h2)
  clear h1 h2 hV T4 T2 hx
  subst hv
  have hR := res4 w xs
  have hL0 : Lows w.heap.size (w.alloc (.cells #[.int .u32 0, .int .u32 0, .int .u32 0, .int .u32 0, .int .u32 0, .int .u32 0, .int .u32 0, .int .u32 0] 32)) (w.alloc (.cells #[.int .u32 0, .int .u32 0, .int .u32 0, .int .u32 0, .int .u32 0, .int .u32 0, .int .u32 0, .int .u32 0] 32)) := fun _ _ _ => rfl
  have hb0 : Below w.heap.size w (w.alloc (.cells #[.int .u32 0, .int .u32 0, .int .u32 0, .int .u32 0, .int .u32 0, .int .u32 0, .int .u32 0, .int .u32 0] 32)) := (Below.refl _ w).alloc (Nat.le_refl _) _
  have hs0 : (w.alloc (.cells #[.int .u32 0, .int .u32 0, .int .u32 0, .int .u32 0, .int .u32 0, .int .u32 0, .int .u32 0, .int .u32 0] 32)).heap.size = w.heap.size + 1 := by simp
  go_enter Try.func34, Try.ntmps34
  go_wp2_with (go_at_call 56; (with_reducible refine (L.out _).mono ?_); rintro e w1 ⟨rfl, rfl⟩)
  generalize w.alloc (.cells #[.int .u32 0, .int .u32 0, .int .u32 0, .int .u32 0, .int .u32 0, .int .u32 0, .int .u32 0, .int .u32 0] 32) = w1 at *
  clear MK
  go_loopw [24] (fun i wr => ∃ k : Nat, k ≤ 4 ∧ i = .int .i64 (k : Int) ∧ Res wr w.heap.size 4 xs (fun j => decide (j < k)) ∧ Lows w.heap.size w1 wr ∧ w1.heap.size ≤ wr.heap.size ∧ Below w.heap.size w wr)
    (fun i _ => 4 - (intOf i).toNat)
  case atStart => exact ⟨0, by omega, rfl, by simpa using hR, hL0, Nat.le_refl _, hb0⟩
  case round =>
    obtain ⟨k, hk, rfl, hRs, hLs, hss, hbs⟩ := hrel
    by_cases hlt : k < 4
    · have x0 := (hbs.cell (p := ⟨b, off + k * 2, none⟩) hb).trans (HC.out.1 k (by rw [HX.out]; exact hlt))
      have y0 := (hbs.cell (p := ⟨b, off + k * 2 + 1, none⟩) hb).trans (HC.out.2 k (by rw [HX.out]; exact hlt))
      obtain ⟨n1, n2⟩ := hN.out k hlt
      have V := Lib.hid (value_any _ _ n1 n2)
      have U := Lib.hid (number_any _ _ n1 n2)
      have ik0 : (0 : Int) ≤ (k : Int) := by omega
      have ik1 : (k : Int) < 4 := by omega
      have HRs := Lib.hid (And.intro hRs (And.intro hLs (And.intro hss hbs)))
      have hgl := hRs.lt
      clear n1 n2 hRs hLs hss
      go_wp2_with (first
        | (go_at_call 46; (with_reducible refine (V.out _).mono ?_); rintro e w2 ⟨rfl, hb2⟩)
        | (go_at_call 47; (with_reducible refine (U.out _).mono ?_); rintro e w3 ⟨rfl, hb3⟩
           have q3 : Below wr.heap.size wr w3 := bel_step (bel_alloc hb2) hb3
           have r3 := HRs.out.1.block (q3.block w.heap.size hgl)
           obtain ⟨⟨v0, z0⟩, ⟨v1, z1⟩, f0, f1⟩ := r3.cells (i := k) hlt))
      have R1 := r3.set (k := k) (q := fun i => decide (i < k + 1)) hlt (by intro i hi; rw [Bool.eq_iff_iff]; simp; omega)
      obtain ⟨hRs, hLs, hss, _⟩ := HRs.out
      have hs3 := q3.size
      go_roundw
      case rel =>
        refine ⟨k + 1, by omega, by simp, R1, ?_, by simp; omega, ?_⟩
        · intro j hj hne
          rw [heap_setCell_other _ _ _ _ hne, heap_setCell_other _ _ _ _ hne]
          exact (q3.block j (by omega)).trans (hLs j hj hne)
        · exact ((hbs.trans (q3.mono hbs.size)).setCell (p := ⟨w.heap.size, k * 2, none⟩) (Nat.le_refl _) _).setCell (p := ⟨w.heap.size, k * 2 + 1, none⟩) (Nat.le_refl _) _
      case measure => simp [intOf]; omega
    · obtain rfl : k = 4 := by omega
      have hNP := hRs.nums (by intro i hi; simp; omega) HX.out (by omega)
      clear hR hL0 hs0 hRs hLs
      go_wp2_with (first
        | (go_at_call 60; (with_reducible refine (F.out _).mono ?_); rintro e w2 ⟨mv, rfl, f4, f2, hb2⟩
           have TT := Lib.hid (HT.out mv w2 ⟨f4, f2⟩ w2 _ (Below.refl _ _) ((hNP.below hb2 (Nat.le_refl _)).mono hb2.size)))
        | (go_at_call 59; (with_reducible refine TT.out.mono ?_); rintro e w3 ⟨v', rfl, hn3, hf3, hb3⟩))
      go_ret2
      have s2 := hbs.size
      have s3 := hb2.size
      exact ⟨_, rfl, hn3, fun g hg => by have := hf3 g hg; omega, (hbs.trans (hb2.mono s2)).trans (hb3.mono (by omega))⟩
end Go.Proofs.Ytaacgfmpahfmpaa
