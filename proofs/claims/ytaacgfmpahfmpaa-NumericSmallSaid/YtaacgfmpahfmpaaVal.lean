/- Contracts of value, number, Of and Parts. -/
import Derived.Test.YtaacgfmpahfmpaaLeaf
import Derived.StillTailTactics
import Derived.BigQuiet
namespace Go.Proofs.Ytaacgfmpahfmpaa
open Go.RowKit

theorem quiet_w {P : Program} {f : FuncId} {args : Array Value} {w : World} {n : Nat} {v : Value}
    (h : Calls P f args (w.drewN n) fun e w' => e = .returned v ∧ w.drewN n = w') : Calls P f args (w.drewN n) fun e w'' => e = .returned v ∧ ∃ m, w'' = w.drewN m :=
  h.mono fun _ _ ⟨he, hm⟩ => ⟨he, n, hm.symm⟩
theorem bel_drewN {B : Nat} {w W : World} (h : Below B w W) (n : Nat) : Below B w (W.drewN n) := ⟨h.os, h.tape, h.output, h.size, h.block⟩
theorem new2 {w w1 : World} {a b : Value} {t : TypeId} (hb : Below (w.alloc (.cells #[a, b] t)).heap.size (w.alloc (.cells #[a, b] t)) w1) :
    w1.cell? ⟨w.heap.size, 0, none⟩ = some a ∧ w1.cell? ⟨w.heap.size, 1, none⟩ = some b ∧ w1.frozen? ⟨w.heap.size, 0, none⟩ = false ∧ w1.frozen? ⟨w.heap.size, 1, none⟩ = false ∧ w.heap.size < w1.heap.size ∧ Below w.heap.size w w1 := by
  have hl : w.heap.size < (w.alloc (.cells #[a, b] t)).heap.size := by simp
  have hh := (hb.block w.heap.size hl).trans (heap_alloc_new w (.cells #[a, b] t))
  refine ⟨cell_of_row w1 w.heap.size 0 _ t (0, 0) hh, cell_of_row w1 w.heap.size 1 _ t (0, 0) hh, ?_, ?_, Nat.lt_of_lt_of_le hl hb.size, ((Below.refl _ w).alloc (Nat.le_refl _) _).trans (hb.mono (Nat.le_of_lt hl))⟩
  · simp [World.frozen?, hh]
  · simp [World.frozen?, hh]
theorem set2 {w1 : World} {g : Nat} {a b : Value} (c0 : w1.cell? ⟨g, 0, none⟩ = some a) (c1 : w1.cell? ⟨g, 1, none⟩ = some b) (x y : Value) :
    (w1.setCell ⟨g, 0, none⟩ x).cell? ⟨g, 0, none⟩ = some x ∧ ((w1.setCell ⟨g, 0, none⟩ x).setCell ⟨g, 1, none⟩ y).cell? ⟨g, 1, none⟩ = some y := by
  have h : (w1.setCell ⟨g, 0, none⟩ x).cell? ⟨g, 1, none⟩ = some b := by
    rw [World.cell?_setCell_other _ _ _ _ (by simp)]; exact c1
  exact ⟨World.cell?_setCell_same' _ _ _ (by rw [c0]; rfl), World.cell?_setCell_same' _ _ _ (by rw [h]; rfl)⟩
/-- Bits of what is no NaN. -/
def Num (b : Nat) : Prop := (FloatKind.f32.format.order b b != some .eq) = false

theorem box_cells (w1 : World) (a b : Value) (t : TypeId) : (w1.alloc (.cells #[a, b] t)).cell? ⟨w1.heap.size, 0, none⟩ = some a ∧ (w1.alloc (.cells #[a, b] t)).cell? ⟨w1.heap.size, 1, none⟩ = some b := by
  have h := heap_alloc_new w1 (.cells #[a, b] t)
  exact ⟨cell_of_row _ w1.heap.size 0 _ t (0, 0) h, cell_of_row _ w1.heap.size 1 _ t (0, 0) h⟩

set_option maxHeartbeats 400000 in
theorem value_any (a b : Nat) (ha : Num a) (hb : Num b) (w : World) :
    Calls Try.prog 46 #[.agg #[.int .u32 a, .int .u32 b]] w fun e w' => e = .returned (.complex .f32 a b) ∧ Below w.heap.size w w' := by
  have A := Lib.hid (clean_any a ha)
  have B := Lib.hid (clean_any b hb)
  clear ha hb
  go_enter Try.func46, Try.ntmps46
  go_wp2_with fail
  have bx := box_cells w (.int .u32 a) (.int .u32 b) 32
  have bl := (Below.refl w.heap.size w).alloc (Nat.le_refl _) (Obj.cells #[.int .u32 a, .int .u32 b] 32)
  generalize w.alloc (Obj.cells #[.int .u32 a, .int .u32 b] 32) = W at *
  generalize hgx : w.heap.size = gx at *
  obtain ⟨bx0, bx1⟩ := bx
  have BL := Lib.hid bl
  clear bl
  go_quiet (first | exact quiet_w (A.out _) | exact quiet_w (B.out _))
  go_wp2
  go_ret
  subst hgx
  exact ⟨rfl, bel_drewN BL.out _⟩

/-- A number: its parts' bits. -/
abbrev nv (a b : Nat) : Value := .agg #[.int .u32 (a : Int), .int .u32 (b : Int)]

set_option maxHeartbeats 400000 in
theorem of_any (a b : Nat) (ha : Num a) (hb : Num b) (w : World) :
    Calls Try.prog 18 #[.float .f32 a, .float .f32 b] w fun e w' => e = .returned (nv a b) ∧ Below w.heap.size w w' := by
  have A := Lib.hid (bits_any a ha)
  have B := Lib.hid (bits_any b hb)
  clear ha hb
  go_enter Try.func18, Try.ntmps18
  go_wp2_with (first
    | ((with_reducible refine (A.out _).mono ?_); rintro e w' ⟨rfl, rfl⟩)
    | ((with_reducible refine (B.out _).mono ?_); rintro e w' ⟨rfl, rfl⟩))
  exact bodyPost_ret (v := nv a b) (by simp [results, Try.results18, go_sem]) rfl ⟨rfl, (Below.refl _ w).alloc (Nat.le_refl _) _⟩

set_option maxHeartbeats 400000 in
theorem number_any (a b : Nat) (ha : Num a) (hb : Num b) (w : World) :
    Calls Try.prog 47 #[.complex .f32 a b] w fun e w' => e = .returned (nv a b) ∧ Below w.heap.size w w' := by
  have A := Lib.hid (of_any a b ha hb)
  clear ha hb
  go_enter Try.func47, Try.ntmps47
  go_wp2_with (first
    | ((with_reducible refine (A.out _).mono ?_); rintro e w1 ⟨rfl, hb⟩; obtain ⟨c0, c1, f0, f1, lt, bl⟩ := new2 hb; clear hb; generalize hgx : w.heap.size = gx at *))
  obtain ⟨e0, e1⟩ := set2 c0 c1 (.int .u32 a) (.int .u32 b)
  subst hgx
  exact bodyPost_ret (v := nv a b) (by simp [results, Try.results47, go_sem, e0, e1]) rfl ⟨rfl, (bl.setCell (Nat.le_refl _) _).setCell (Nat.le_refl _) _⟩

set_option maxHeartbeats 400000 in
theorem parts_any (a b : Nat) (ha : Num a) (hb : Num b) (w : World) :
    Calls Try.prog 11 #[nv a b] w fun e w' => e = .returned (.tuple #[.float .f32 a, .float .f32 b]) ∧ Below w.heap.size w w' := by
  have A := Lib.hid (value_any a b ha hb)
  clear ha hb
  go_enter Try.func11, Try.ntmps11
  go_wp2_with (first
    | ((with_reducible refine (A.out _).mono ?_); rintro e w' ⟨rfl, hb⟩))
  go_ret2
  exact ⟨rfl, (new2 hb).2.2.2.2.2⟩
end Go.Proofs.Ytaacgfmpahfmpaa
