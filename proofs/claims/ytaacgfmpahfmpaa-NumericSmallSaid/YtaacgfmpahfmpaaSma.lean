/- The law NumericSmall. Written by program (wip/tools/gen_small.py). -/
import Derived.Test.YtaacgfmpahfmpaaAwk
import Derived.Test.YtaacgfmpahfmpaaDag
namespace Go.Proofs.Ytaacgfmpahfmpaa
open Go.RowKit Go.Shelf
open Flo (IsI)

theorem upd_def (l : Nat → Bool) (i j : Nat) : Dag.upd l i j = (j == i || l j) := by
  unfold Dag.upd
  cases h : Nat.beq j i
  · have : ¬ j = i := fun e => by rw [e, Nat.beq_refl] at h; cases h
    simp [this]
  · have := Nat.eq_of_beq_eq_true h
    simp [this]
def sel (b : Bool) (v : Value) : Value := bif b then v else undef
theorem sel_true (v : Value) : sel true v = v := rfl
def zb : Value := .int .u32 0
def t3 {α : Type} (x y z : α) (j : Nat) : α := match j with | 0 => x | 1 => y | _ => z

/-- Three new variables of two cells: made (B), stored to (S). -/
structure WI (w0 : World) (B S : Nat → Bool) (g : Nat → Nat) (A : Nat → Value × Value) (W : World) : Prop where
  bl : Bl w0 W
  box : ∀ j, j < 3 → B j = true → w0.heap.size ≤ g j ∧ Box2 W (g j) (bif S j then (A j).1 else zb) (bif S j then (A j).2 else zb)
  ne : ∀ i j, i < 3 → j < 3 → i ≠ j → B i = true → B j = true → g i ≠ g j
  sb : ∀ j, j < 3 → S j = true → B j = true
theorem WI.congr {w0 W : World} {B S B' S' : Nat → Bool} {g : Nat → Nat} {A : Nat → Value × Value} (h : WI w0 B S g A W) (hB : ∀ j, j < 3 → B j = B' j) (hS : ∀ j, j < 3 → S j = S' j) : WI w0 B' S' g A W :=
  ⟨h.bl, fun j hj hb => by rw [← hS j hj]; exact h.box j hj (by rw [hB j hj]; exact hb), fun i j hi hj hn hb hc => h.ne i j hi hj hn (by rw [hB i hi]; exact hb) (by rw [hB j hj]; exact hc), fun j hj hs => by rw [← hB j hj]; exact h.sb j hj (by rw [hS j hj]; exact hs)⟩
theorem WI.call {w0 W W' : World} {B S : Nat → Bool} {g : Nat → Nat} {A : Nat → Value × Value} (h : WI w0 B S g A W) (hb : Below W.heap.size W W') : WI w0 B S g A W' :=
  ⟨h.bl.call hb, fun j hj hj2 => ⟨(h.box j hj hj2).1, (h.box j hj hj2).2.call hb⟩, h.ne, h.sb⟩
theorem WI.alloc {w0 W : World} {B S : Nat → Bool} {g : Nat → Nat} {A : Nat → Value × Value} (h : WI w0 B S g A W) (j : Nat) (hj : j < 3) (hB : B j = false) :
    WI w0 (fun i => Nat.beq i j || B i) S (fun i => bif Nat.beq i j then W.heap.size else g i) A (W.alloc (.cells #[zb, zb] 32)) := by
  have hs : w0.heap.size ≤ W.heap.size := (show Below w0.heap.size w0 W from h.bl).size
  have hS : S j = false := by
    cases hs : S j
    · rfl
    · rw [h.sb j hj hs] at hB; cases hB
  refine ⟨h.bl.alloc _, fun i hi hb => ?_, fun i k hi hk hn hb hc => ?_, fun i hi hs => by rw [h.sb i hi hs, Bool.or_true]⟩
  · cases he : Nat.beq i j
    · rw [he, Bool.false_or] at hb
      obtain ⟨q1, q2⟩ := h.box i hi hb
      exact ⟨q1, q2.alloc _⟩
    · have := Nat.eq_of_beq_eq_true he
      subst this
      rw [hS]
      exact ⟨hs, Box2.new W zb zb 32 _ rfl⟩
  · cases he : Nat.beq i j <;> cases hf : Nat.beq k j
    · rw [he, Bool.false_or] at hb
      rw [hf, Bool.false_or] at hc
      exact h.ne i k hi hk hn hb hc
    · rw [he, Bool.false_or] at hb
      exact Nat.ne_of_lt (h.box i hi hb).2.lt
    · rw [hf, Bool.false_or] at hc
      exact (Nat.ne_of_lt (h.box k hk hc).2.lt).symm
    · exact absurd ((Nat.eq_of_beq_eq_true he).trans (Nat.eq_of_beq_eq_true hf).symm) hn
theorem Box2.far {W : World} {g h : Nat} {x y : Value} (b : Box2 W g x y) (hn : h ≠ g) (i : Nat) (v : Value) : Box2 (W.setCell ⟨h, i, none⟩ v) g x y :=
  ⟨(World.cell?_setCell_other _ _ _ _ (by first | (simp; done) | (simp; omega))).trans b.c0, (World.cell?_setCell_other _ _ _ _ (by first | (simp; done) | (simp; omega))).trans b.c1, by simpa using b.f0, by simpa using b.f1, by simpa using b.lt⟩
theorem WI.store {w0 W : World} {B S : Nat → Bool} {g : Nat → Nat} {A : Nat → Value × Value} (h : WI w0 B S g A W) (j : Nat) (hj : j < 3) (hB : B j = true) :
    WI w0 B (fun i => Nat.beq i j || S i) g A ((W.setCell ⟨g j, 0, none⟩ (A j).1).setCell ⟨g j, 1, none⟩ (A j).2) := by
  obtain ⟨q1, q2⟩ := h.box j hj hB
  refine ⟨((show Below w0.heap.size w0 W from h.bl).setCell (p := ⟨g j, 0, none⟩) q1 _).setCell (p := ⟨g j, 1, none⟩) q1 _, fun i hi hb => ?_, h.ne, fun i hi hs => ?_⟩
  rotate_left
  · cases he : Nat.beq i j
    · rw [he, Bool.false_or] at hs
      exact h.sb i hi hs
    · have := Nat.eq_of_beq_eq_true he
      subst this
      exact hB
  cases he : Nat.beq i j
  · have hn : i ≠ j := fun e => by subst e; rw [Nat.beq_refl] at he; cases he
    obtain ⟨r1, r2⟩ := h.box i hi hb
    have hg := h.ne j i hj hi (Ne.symm hn) hB hb
    exact ⟨r1, (r2.far hg _ _).far hg _ _⟩
  · have := Nat.eq_of_beq_eq_true he
    subst this
    exact ⟨q1, box2_set q2⟩

/-- The first region: what has been carried out. -/
def I1 (w0 : World) (gx gy gz a0 a1 b0_ b1_ c0 c1 : Nat) (x0 x1 y0 y1 z0 z1 px0 px1 py0 py1 pz0 pz1 k : Int) (b0 b1 b2 b3 b4 b5 b6 b7 b8 b9 b10 b11 b12 b13 b14 b15 b16 b17 b18 b19 b20 b21 b22 b23 b24 b25 b26 : Bool) (a : Act) (W : World) : Prop :=
  ∃ g : Nat → Nat, WI w0 (t3 b21 b22 b23) (t3 b24 b25 b26) g (t3 (.int .u32 a0, .int .u32 a1) (.int .u32 b0_, .int .u32 b1_) (.int .u32 c0, .int .u32 c1)) W ∧
    a = ⟨#[.agg #[.int .i16 x0, .int .i16 x1], .agg #[.int .i16 y0, .int .i16 y1], .agg #[.int .i16 z0, .int .i16 z1], .int .u8 k, .pointer (some ⟨gx, 0, none⟩), .pointer (some ⟨gy, 0, none⟩), .pointer (some ⟨gz, 0, none⟩), undef, .bool false, sel b21 (.pointer (some ⟨g 0, 0, none⟩)), sel b22 (.pointer (some ⟨g 1, 0, none⟩)), sel b23 (.pointer (some ⟨g 2, 0, none⟩)), undef, undef, undef, undef, undef, undef, undef, undef, sel b0 (.pointer (some ⟨gx, 0, none⟩)), sel b1 (.int .i16 x0), sel b2 (.int .i64 px0), sel b3 (.pointer (some ⟨gx, 1, none⟩)), sel b4 (.int .i16 x1), sel b5 (.int .i64 px1), sel b6 (nv a0 a1), sel b7 (.pointer (some ⟨gy, 0, none⟩)), sel b8 (.int .i16 y0), sel b9 (.int .i64 py0), sel b10 (.pointer (some ⟨gy, 1, none⟩)), sel b11 (.int .i16 y1), sel b12 (.int .i64 py1), sel b13 (nv b0_ b1_), sel b14 (.pointer (some ⟨gz, 0, none⟩)), sel b15 (.int .i16 z0), sel b16 (.int .i64 pz0), sel b17 (.pointer (some ⟨gz, 1, none⟩)), sel b18 (.int .i16 z1), sel b19 (.int .i64 pz1), sel b20 (nv c0 c1), undef, undef, undef, undef, undef, undef, undef, undef, undef, undef, undef, undef, undef, undef, undef, undef, undef, undef, undef, undef, undef, undef, undef, undef, undef, undef, undef, undef, undef, undef, undef, undef, undef, undef, undef, undef, undef, undef, undef, undef, undef, undef, undef, undef, undef, undef, undef, undef, undef, undef, undef, undef, undef, undef, undef, undef, undef, undef, undef, undef, undef, undef, undef, undef, undef, undef, undef, undef, undef, undef, undef, undef, undef, undef, undef, undef, undef, undef, undef, undef, undef, undef, undef, undef, undef, undef, undef, undef, undef, undef, undef, undef, undef, undef, undef, undef, undef, undef, undef, undef, undef, undef, undef, undef, undef, undef, undef, undef, undef, undef, undef, undef, undef, undef, undef, undef, undef, undef, undef, undef, undef, undef, undef, undef, undef, undef], []⟩
def need1 : List (List Nat) := [[], [0], [1], [], [3], [4, 2], [2, 5, 5], [], [7], [8, 6], [], [10], [11, 9], [9, 12, 12], [], [14], [15, 13], [], [17], [18, 16], [16, 19, 19], [], [], [], [21, 6, 20, 0, 1, 2, 3, 4, 5, 6, 21, 22, 23], [22, 13, 24, 0, 1, 2, 3, 4, 5, 6, 7, 8, 9, 10, 11, 12, 13, 21, 22, 23, 24], [23, 20, 25, 0, 1, 2, 3, 4, 5, 6, 7, 8, 9, 10, 11, 12, 13, 14, 15, 16, 17, 18, 19, 20, 21, 22, 23, 24, 25]]

/-- The fourth region. -/
def I2 (w5 : World) (gx gy gz g0 g1 g2 gt a0 a1 b0_ b1_ c0 c1 tw0 tw1 ac m0 m1 : Nat) (x0 x1 y0 y1 z0 z1 px0 px1 py0 py1 pz0 pz1 k t : Int) (b0 b1 b2 b3 b4 b5 : Bool) (a : Act) (W : World) : Prop :=
  ∃ g : Nat → Nat, WI w5 (t3 b4 false false) (t3 b5 false false) g (t3 (.int .u32 m0, .int .u32 m1) (zb, zb) (zb, zb)) W ∧
    a = ⟨#[.agg #[.int .i16 x0, .int .i16 x1], .agg #[.int .i16 y0, .int .i16 y1], .agg #[.int .i16 z0, .int .i16 z1], .int .u8 k, .pointer (some ⟨gx, 0, none⟩), .pointer (some ⟨gy, 0, none⟩), .pointer (some ⟨gz, 0, none⟩), undef, .bool false, .pointer (some ⟨g0, 0, none⟩), .pointer (some ⟨g1, 0, none⟩), .pointer (some ⟨g2, 0, none⟩), .int .i64 px0, .int .i64 px1, .int .i64 py0, .int .i64 py1, .pointer (some ⟨gt, 0, none⟩), sel b4 (.pointer (some ⟨g 0, 0, none⟩)), undef, undef, .pointer (some ⟨gx, 0, none⟩), .int .i16 x0, .int .i64 px0, .pointer (some ⟨gx, 1, none⟩), .int .i16 x1, .int .i64 px1, nv a0 a1, .pointer (some ⟨gy, 0, none⟩), .int .i16 y0, .int .i64 py0, .pointer (some ⟨gy, 1, none⟩), .int .i16 y1, .int .i64 py1, nv b0_ b1_, .pointer (some ⟨gz, 0, none⟩), .int .i16 z0, .int .i64 pz0, .pointer (some ⟨gz, 1, none⟩), .int .i16 z1, .int .i64 pz1, nv c0 c1, .pointer (some ⟨gx, 0, none⟩), .int .i16 x0, .int .i64 px0, .pointer (some ⟨gx, 1, none⟩), .int .i16 x1, .int .i64 px1, .pointer (some ⟨gy, 0, none⟩), .int .i16 y0, .int .i64 py0, .pointer (some ⟨gy, 1, none⟩), .int .i16 y1, .int .i64 py1, .int .u8 k, .int .u8 (k.tmod 8), .int .i64 t, nv tw0 tw1, sel b0 (nv a0 a1), sel b1 (nv a0 a1), sel b2 (nv a0 ac), sel b3 (nv m0 m1), undef, undef, undef, undef, undef, undef, undef, undef, undef, undef, undef, undef, undef, undef, undef, undef, undef, undef, undef, undef, undef, undef, undef, undef, undef, undef, undef, undef, undef, undef, undef, undef, undef, undef, undef, undef, undef, undef, undef, undef, undef, undef, undef, undef, undef, undef, undef, undef, undef, undef, undef, undef, undef, undef, undef, undef, undef, undef, undef, undef, undef, undef, undef, undef, undef, undef, undef, undef, undef, undef, undef, undef, undef, undef, undef, undef, undef, undef, undef, undef, undef, undef, undef, undef, undef, undef, undef, undef, undef, undef, undef, undef, undef, undef, undef, undef, undef, undef, undef, undef, undef, undef, undef, undef, undef, undef], []⟩
def need2 : List (List Nat) := [[], [], [1], [0, 2, 2], [], [4, 3, 3, 0, 1, 2, 3, 4]]

def selv (b : Bool) (v u : Value) : Value := bif b then v else u
/-- The sixth region. -/
def I6 (w6 : World) (gx gy gz g0 g1 g2 gt gm a0 a1 b0_ b1_ c0 c1 tw0 tw1 ac m0 m1 s0 s1 u0 u1 d0 d1 e0 e1 f0 f1 h0 h1 i0 i1 j0 j1 k0 k1 l0 l1 n0 n1 o0 o1 q0 q1 r0 r1 t0 t1 : Nat) (x0 x1 y0 y1 z0 z1 px0 px1 py0 py1 pz0 pz1 k t : Int) (b0 b1 b2 b3 b4 b5 b6 b7 b8 b9 b10 b11 b12 b13 b14 b15 b16 b17 b18 b19 b20 b21 b22 b23 b24 b25 b26 b27 b28 b29 b30 b31 b32 b33 b34 b35 b36 b37 b38 b39 b40 b41 b42 b43 b44 b45 b46 b47 b48 b49 b50 b51 b52 b53 b54 b55 b56 b57 b58 b59 b60 b61 b62 b63 b64 b65 b66 b67 b68 b69 b70 b71 b72 b73 b74 b75 b76 b77 b78 b79 b80 b81 b82 b83 b84 b85 b86 b87 b88 b89 b90 b91 b92 b93 b94 b95 b96 b97 b98 b99 b100 b101 : Bool) (a : Act) (W : World) : Prop :=
  Bl w6 W ∧ a = ⟨#[.agg #[.int .i16 x0, .int .i16 x1], .agg #[.int .i16 y0, .int .i16 y1], .agg #[.int .i16 z0, .int .i16 z1], .int .u8 k, .pointer (some ⟨gx, 0, none⟩), .pointer (some ⟨gy, 0, none⟩), .pointer (some ⟨gz, 0, none⟩), undef, selv b101 (.bool true) (.bool false), .pointer (some ⟨g0, 0, none⟩), .pointer (some ⟨g1, 0, none⟩), .pointer (some ⟨g2, 0, none⟩), .int .i64 px0, .int .i64 px1, .int .i64 py0, .int .i64 py1, .pointer (some ⟨gt, 0, none⟩), .pointer (some ⟨gm, 0, none⟩), .float .f32 m0, .float .f32 m1, .pointer (some ⟨gx, 0, none⟩), .int .i16 x0, .int .i64 px0, .pointer (some ⟨gx, 1, none⟩), .int .i16 x1, .int .i64 px1, nv a0 a1, .pointer (some ⟨gy, 0, none⟩), .int .i16 y0, .int .i64 py0, .pointer (some ⟨gy, 1, none⟩), .int .i16 y1, .int .i64 py1, nv b0_ b1_, .pointer (some ⟨gz, 0, none⟩), .int .i16 z0, .int .i64 pz0, .pointer (some ⟨gz, 1, none⟩), .int .i16 z1, .int .i64 pz1, nv c0 c1, .pointer (some ⟨gx, 0, none⟩), .int .i16 x0, .int .i64 px0, .pointer (some ⟨gx, 1, none⟩), .int .i16 x1, .int .i64 px1, .pointer (some ⟨gy, 0, none⟩), .int .i16 y0, .int .i64 py0, .pointer (some ⟨gy, 1, none⟩), .int .i16 y1, .int .i64 py1, .int .u8 k, .int .u8 (k.tmod 8), .int .i64 t, nv tw0 tw1, nv a0 a1, nv a0 a1, nv a0 ac, nv m0 m1, .tuple #[.float .f32 m0, .float .f32 m1], nv m0 m1, .tuple #[.float .f32 m0, .float .f32 m1], .float .f32 m0, .float .f32 m1, sel b0 (nv a0 a1), sel b1 (nv b0_ b1_), sel b2 (nv s0 s1), sel b3 (.int .i64 (px0)), sel b4 (.int .i64 (py0)), sel b5 (.int .i64 (px0 + py0)), sel b6 (.int .i64 (px1)), sel b7 (.int .i64 (py1)), sel b8 (.int .i64 (px1 + py1)), sel b9 (nv u0 u1), sel b10 (.bool true), sel b11 (.bool true), sel b12 (nv a0 a1), sel b13 (nv b0_ b1_), sel b14 (nv d0 d1), sel b15 (.int .i64 (px0)), sel b16 (.int .i64 (py0)), sel b17 (.int .i64 (px0 - py0)), sel b18 (.int .i64 (px1)), sel b19 (.int .i64 (py1)), sel b20 (.int .i64 (px1 - py1)), sel b21 (nv e0 e1), sel b22 (.bool true), sel b23 (.bool true), sel b24 (.bool true), sel b25 (nv a0 a1), sel b26 (nv b0_ b1_), sel b27 (nv f0 f1), sel b28 (.int .i64 (px0)), sel b29 (.int .i64 (py0)), sel b30 (.int .i64 (px0 * py0)), sel b31 (.int .i64 (px1)), sel b32 (.int .i64 (py1)), sel b33 (.int .i64 (px1 * py1)), sel b34 (.int .i64 (px0 * py0 - px1 * py1)), sel b35 (.int .i64 (px0)), sel b36 (.int .i64 (py1)), sel b37 (.int .i64 (px0 * py1)), sel b38 (.int .i64 (px1)), sel b39 (.int .i64 (py0)), sel b40 (.int .i64 (px1 * py0)), sel b41 (.int .i64 (px0 * py1 + px1 * py0)), sel b42 (nv h0 h1), sel b43 (.bool true), sel b44 (.bool true), sel b45 (.bool true), sel b46 (nv a0 a1), sel b47 (nv b0_ b1_), sel b48 (nv s0 s1), sel b49 (nv c0 c1), sel b50 (nv i0 i1), sel b51 (nv a0 a1), sel b52 (nv b0_ b1_), sel b53 (nv c0 c1), sel b54 (nv j0 j1), sel b55 (nv k0 k1), sel b56 (.bool true), sel b57 (.bool true), sel b58 (.bool true), sel b59 (nv a0 a1), sel b60 (nv b0_ b1_), sel b61 (nv c0 c1), sel b62 (nv j0 j1), sel b63 (nv l0 l1), sel b64 (nv a0 a1), sel b65 (nv b0_ b1_), sel b66 (nv f0 f1), sel b67 (nv a0 a1), sel b68 (nv c0 c1), sel b69 (nv n0 n1), sel b70 (nv o0 o1), sel b71 (.bool true), sel b72 (.bool true), sel b73 (.bool true), sel b74 (.float .f32 m1), sel b75 (.bool true), sel b76 (.bool true), sel b77 (.bool true), sel b78 (nv m0 m1), sel b79 (.int .i64 (px0)), sel b80 (.int .i64 (px0)), sel b81 (.int .i64 (px0 * px0)), sel b82 (.int .i64 (px1)), sel b83 (.int .i64 (px1)), sel b84 (.int .i64 (px1 * px1)), sel b85 (.int .i64 (px0 * px0 + px1 * px1)), sel b86 (nv q0 q1), sel b87 (.bool true), sel b88 (.bool true), sel b89 (.bool true), sel b90 (nv a0 a1), sel b91 (nv tw0 tw1), sel b92 (nv r0 r1), sel b93 (nv tw0 tw1), sel b94 (nv t0 t1), sel b95 (nv a0 a1), sel b96 (.bool true), sel b97 (.bool true), sel b98 (.bool true), sel b99 (.bool true), sel b100 (.bool true)], []⟩
def need6 : List (List Nat) := [[], [], [0, 1], [], [], [3, 4], [], [], [6, 7], [5, 8, 2], [2, 9, 9], [10, 10], [11], [11], [12, 13, 11, 11], [11], [11], [15, 16, 11], [11], [11], [18, 19, 11], [17, 20, 14, 11], [14, 21, 21, 11], [11, 22], [23, 22], [24], [24], [25, 26, 24, 24], [24], [24], [28, 29, 24], [24], [24], [31, 32, 24], [30, 33, 24], [24], [24], [35, 36, 24], [24], [24], [38, 39, 24], [37, 40, 24], [34, 41, 27, 24], [27, 42, 42, 24], [24, 43], [44, 43], [45], [45], [46, 47, 45, 45], [45], [48, 49, 48, 45], [45], [45], [45], [52, 53, 50, 45], [51, 54, 54, 45], [50, 55, 55, 45], [45, 56], [57, 56], [58], [58], [58], [60, 61, 58, 58], [59, 62, 62, 58], [58], [58], [64, 65, 63, 58], [58], [58], [67, 68, 66, 58], [66, 69, 69, 58], [63, 70, 70, 58], [58, 71], [72, 71], [73], [74, 73], [73, 75], [76, 73], [77], [77], [77], [79, 80, 77], [77], [77], [82, 83, 77], [81, 84, 77], [85, 77, 77], [78, 86, 86, 77], [77, 87], [88, 87], [89], [89], [90, 91, 89, 89], [89], [92, 93, 92, 89], [89], [94, 95, 94, 89], [89, 96], [97, 96], [98, 98], [98, 99], [100, 99, 0, 1, 2, 3, 4, 5, 6, 7, 8, 9, 10, 11, 12, 13, 14, 15, 16, 17, 18, 19, 20, 21, 22, 23, 24, 25, 26, 27, 28, 29, 30, 31, 32, 33, 34, 35, 36, 37, 38, 39, 40, 41, 42, 43, 44, 45, 46, 47, 48, 49, 50, 51, 52, 53, 54, 55, 56, 57, 58, 59, 60, 61, 62, 63, 64, 65, 66, 67, 68, 69, 70, 71, 72, 73, 74, 75, 76, 77, 78, 79, 80, 81, 82, 83, 84, 85, 86, 87, 88, 89, 90, 91, 92, 93, 94, 95, 96, 97, 98, 99, 100]]


set_option maxRecDepth 40000 in
set_option maxHeartbeats 8000000 in
theorem small_any (x0 x1 y0 y1 z0 z1 k px0 px1 py0 py1 pz0 pz1 : Int) (a0 a1 b0_ b1_ c0 c1 : Nat)
    (Cx0 : ∀ W, Calls Try.prog 40 #[.int .i16 x0] W fun e w' => e = .returned (.int .i64 px0) ∧ W = w') (Cx1 : ∀ W, Calls Try.prog 40 #[.int .i16 x1] W fun e w' => e = .returned (.int .i64 px1) ∧ W = w')
    (Cy0 : ∀ W, Calls Try.prog 40 #[.int .i16 y0] W fun e w' => e = .returned (.int .i64 py0) ∧ W = w') (Cy1 : ∀ W, Calls Try.prog 40 #[.int .i16 y1] W fun e w' => e = .returned (.int .i64 py1) ∧ W = w')
    (Cz0 : ∀ W, Calls Try.prog 40 #[.int .i16 z0] W fun e w' => e = .returned (.int .i64 pz0) ∧ W = w') (Cz1 : ∀ W, Calls Try.prog 40 #[.int .i16 z1] W fun e w' => e = .returned (.int .i64 pz1) ∧ W = w')
    (Ox : ∀ W, Calls Try.prog 39 #[.int .i64 px0, .int .i64 px1] W fun e w' => e = .returned (nv a0 a1) ∧ Below W.heap.size W w')
    (Oy : ∀ W, Calls Try.prog 39 #[.int .i64 py0, .int .i64 py1] W fun e w' => e = .returned (nv b0_ b1_) ∧ Below W.heap.size W w')
    (Oz : ∀ W, Calls Try.prog 39 #[.int .i64 pz0, .int .i64 pz1] W fun e w' => e = .returned (nv c0 c1) ∧ Below W.heap.size W w')
    (t : Int) (tw0 tw1 : Nat) (HS : ∀ W, Sem.run Try.prog (Op.shift BinOp.shl IntKind.i64 1 IntKind.u8 (k.tmod 8)) W = .ok (.int .i64 t) W)
    (Ot : ∀ W, Calls Try.prog 39 #[.int .i64 t, .int .i64 0] W fun e w' => e = .returned (nv tw0 tw1) ∧ Below W.heap.size W w')
    (ac m0 m1 s0 s1 u0 u1 d0 d1 e0 e1 f0 f1 h0 h1 i0 i1 j0 j1 k0 k1 l0 l1 n0 n1 o0 o1 q0 q1 r0 r1 t0 t1 : Nat)
    (CJ : ∀ W, Calls Try.prog 17 #[nv a0 a1] W fun e w' => e = .returned (nv a0 ac) ∧ Below W.heap.size W w')
    (CM : ∀ W, Calls Try.prog 15 #[nv a0 a1, nv a0 ac] W fun e w' => e = .returned (nv m0 m1) ∧ Below W.heap.size W w')
    (CP : ∀ W, Calls Try.prog 11 #[nv m0 m1] W fun e w' => e = .returned (.tuple #[.float .f32 m0, .float .f32 m1]) ∧ Below W.heap.size W w')
    (A1 : ∀ W, Calls Try.prog 13 #[nv a0 a1, nv b0_ b1_] W fun e w' => e = .returned (nv s0 s1) ∧ Below W.heap.size W w')
    (O1 : ∀ W, Calls Try.prog 39 #[.int .i64 (px0 + py0), .int .i64 (px1 + py1)] W fun e w' => e = .returned (nv u0 u1) ∧ Below W.heap.size W w')
    (E1 : ∀ W, Calls Try.prog 41 #[nv s0 s1, nv u0 u1] W fun e w' => e = .returned (.bool true) ∧ Below W.heap.size W w')
    (S1 : ∀ W, Calls Try.prog 14 #[nv a0 a1, nv b0_ b1_] W fun e w' => e = .returned (nv d0 d1) ∧ Below W.heap.size W w')
    (O2 : ∀ W, Calls Try.prog 39 #[.int .i64 (px0 - py0), .int .i64 (px1 - py1)] W fun e w' => e = .returned (nv e0 e1) ∧ Below W.heap.size W w')
    (E2 : ∀ W, Calls Try.prog 41 #[nv d0 d1, nv e0 e1] W fun e w' => e = .returned (.bool true) ∧ Below W.heap.size W w')
    (M1 : ∀ W, Calls Try.prog 15 #[nv a0 a1, nv b0_ b1_] W fun e w' => e = .returned (nv f0 f1) ∧ Below W.heap.size W w')
    (O3 : ∀ W, Calls Try.prog 39 #[.int .i64 (px0 * py0 - px1 * py1), .int .i64 (px0 * py1 + px1 * py0)] W fun e w' => e = .returned (nv h0 h1) ∧ Below W.heap.size W w')
    (E3 : ∀ W, Calls Try.prog 41 #[nv f0 f1, nv h0 h1] W fun e w' => e = .returned (.bool true) ∧ Below W.heap.size W w')
    (A2 : ∀ W, Calls Try.prog 13 #[nv s0 s1, nv c0 c1] W fun e w' => e = .returned (nv i0 i1) ∧ Below W.heap.size W w')
    (A3 : ∀ W, Calls Try.prog 13 #[nv b0_ b1_, nv c0 c1] W fun e w' => e = .returned (nv j0 j1) ∧ Below W.heap.size W w')
    (A4 : ∀ W, Calls Try.prog 13 #[nv a0 a1, nv j0 j1] W fun e w' => e = .returned (nv k0 k1) ∧ Below W.heap.size W w')
    (E4 : ∀ W, Calls Try.prog 41 #[nv i0 i1, nv k0 k1] W fun e w' => e = .returned (.bool true) ∧ Below W.heap.size W w')
    (M2 : ∀ W, Calls Try.prog 15 #[nv a0 a1, nv j0 j1] W fun e w' => e = .returned (nv l0 l1) ∧ Below W.heap.size W w')
    (M3 : ∀ W, Calls Try.prog 15 #[nv a0 a1, nv c0 c1] W fun e w' => e = .returned (nv n0 n1) ∧ Below W.heap.size W w')
    (A5 : ∀ W, Calls Try.prog 13 #[nv f0 f1, nv n0 n1] W fun e w' => e = .returned (nv o0 o1) ∧ Below W.heap.size W w')
    (E5 : ∀ W, Calls Try.prog 41 #[nv l0 l1, nv o0 o1] W fun e w' => e = .returned (.bool true) ∧ Below W.heap.size W w')
    (O4 : ∀ W, Calls Try.prog 39 #[.int .i64 (px0 * px0 + px1 * px1), .int .i64 0] W fun e w' => e = .returned (nv q0 q1) ∧ Below W.heap.size W w')
    (E6 : ∀ W, Calls Try.prog 41 #[nv m0 m1, nv q0 q1] W fun e w' => e = .returned (.bool true) ∧ Below W.heap.size W w')
    (M4 : ∀ W, Calls Try.prog 15 #[nv a0 a1, nv tw0 tw1] W fun e w' => e = .returned (nv r0 r1) ∧ Below W.heap.size W w')
    (D1 : ∀ W, Calls Try.prog 16 #[nv r0 r1, nv tw0 tw1] W fun e w' => e = .returned (nv t0 t1) ∧ Below W.heap.size W w')
    (E7 : ∀ W, Calls Try.prog 41 #[nv t0 t1, nv a0 a1] W fun e w' => e = .returned (.bool true) ∧ Below W.heap.size W w')
    (wr0 : IntKind.i64.wrap (px0 + py0) = px0 + py0)
    (wr1 : IntKind.i64.wrap (px1 + py1) = px1 + py1)
    (wr2 : IntKind.i64.wrap (px0 - py0) = px0 - py0)
    (wr3 : IntKind.i64.wrap (px1 - py1) = px1 - py1)
    (wr4 : IntKind.i64.wrap (px0 * py0) = px0 * py0)
    (wr5 : IntKind.i64.wrap (px1 * py1) = px1 * py1)
    (wr6 : IntKind.i64.wrap (px0 * py1) = px0 * py1)
    (wr7 : IntKind.i64.wrap (px1 * py0) = px1 * py0)
    (wr8 : IntKind.i64.wrap (px0 * py0 - px1 * py1) = px0 * py0 - px1 * py1)
    (wr9 : IntKind.i64.wrap (px0 * py1 + px1 * py0) = px0 * py1 + px1 * py0)
    (wr10 : IntKind.i64.wrap (px0 * px0) = px0 * px0)
    (wr11 : IntKind.i64.wrap (px1 * px1) = px1 * px1)
    (wr12 : IntKind.i64.wrap (px0 * px0 + px1 * px1) = px0 * px0 + px1 * px1)
    (im0 : FloatKind.f32.format.order m1 0 = some .eq)
    (w : World) : Calls Try.prog 6 #[.agg #[.int .i16 x0, .int .i16 x1], .agg #[.int .i16 y0, .int .i16 y1], .agg #[.int .i16 z0, .int .i16 z1], .int .u8 k] w fun e w' => e = .returned (.bool true) ∧ Below w.heap.size w w' := by
  replace Cx0 := Lib.hid Cx0; replace Cx1 := Lib.hid Cx1; replace Cy0 := Lib.hid Cy0; replace Cy1 := Lib.hid Cy1; replace Cz0 := Lib.hid Cz0; replace Cz1 := Lib.hid Cz1
  have AW := Lib.hid awake_any
  replace CJ := Lib.hid CJ; replace CM := Lib.hid CM; replace CP := Lib.hid CP; replace A1 := Lib.hid A1; replace O1 := Lib.hid O1; replace E1 := Lib.hid E1; replace S1 := Lib.hid S1; replace O2 := Lib.hid O2; replace E2 := Lib.hid E2; replace M1 := Lib.hid M1; replace O3 := Lib.hid O3; replace E3 := Lib.hid E3; replace A2 := Lib.hid A2; replace A3 := Lib.hid A3; replace A4 := Lib.hid A4; replace E4 := Lib.hid E4; replace M2 := Lib.hid M2; replace M3 := Lib.hid M3; replace A5 := Lib.hid A5; replace E5 := Lib.hid E5; replace O4 := Lib.hid O4; replace E6 := Lib.hid E6; replace M4 := Lib.hid M4; replace D1 := Lib.hid D1; replace E7 := Lib.hid E7
  have HWR := Lib.hid (And.intro im0 (And.intro wr0 (And.intro wr1 (And.intro wr2 (And.intro wr3 (And.intro wr4 (And.intro wr5 (And.intro wr6 (And.intro wr7 (And.intro wr8 (And.intro wr9 (And.intro wr10 (And.intro wr11 (And.intro wr12 trivial))))))))))))))
  clear im0 wr0 wr1 wr2 wr3 wr4 wr5 wr6 wr7 wr8 wr9 wr10 wr11 wr12
  replace Ot := Lib.hid Ot; replace Ox := Lib.hid Ox; replace Oy := Lib.hid Oy; replace Oz := Lib.hid Oz
  go_enter Try.func6, Try.ntmps6
  go_wp2_with fail
  have X : Box2 (((w.alloc (.cells #[.int .i16 x0, .int .i16 x1] 64)).alloc (.cells #[.int .i16 y0, .int .i16 y1] 64)).alloc (.cells #[.int .i16 z0, .int .i16 z1] 64)) w.heap.size (.int .i16 x0) (.int .i16 x1) := ((Box2.new w _ _ 64 _ rfl).alloc _).alloc _
  have Y : Box2 (((w.alloc (.cells #[.int .i16 x0, .int .i16 x1] 64)).alloc (.cells #[.int .i16 y0, .int .i16 y1] 64)).alloc (.cells #[.int .i16 z0, .int .i16 z1] 64)) (w.heap.size + 1) (.int .i16 y0) (.int .i16 y1) := (Box2.new (w.alloc _) _ _ 64 _ (by simp)).alloc _
  have Z : Box2 (((w.alloc (.cells #[.int .i16 x0, .int .i16 x1] 64)).alloc (.cells #[.int .i16 y0, .int .i16 y1] 64)).alloc (.cells #[.int .i16 z0, .int .i16 z1] 64)) (w.heap.size + 1 + 1) (.int .i16 z0) (.int .i16 z1) := Box2.new ((w.alloc _).alloc _) _ _ 64 _ (by simp)
  have HW : Bl w (((w.alloc (.cells #[.int .i16 x0, .int .i16 x1] 64)).alloc (.cells #[.int .i16 y0, .int .i16 y1] 64)).alloc (.cells #[.int .i16 z0, .int .i16 z1] 64)) := (((Bl.refl w).alloc _).alloc _).alloc _
  generalize ((w.alloc (.cells #[.int .i16 x0, .int .i16 x1] 64)).alloc (.cells #[.int .i16 y0, .int .i16 y1] 64)).alloc (.cells #[.int .i16 z0, .int .i16 z1] 64) = w0 at *
  generalize w.heap.size + 1 + 1 = gz at *
  generalize w.heap.size + 1 = gy at *
  replace HW := Lib.hid HW
  have hgw : w.heap.size ≤ w.heap.size := Nat.le_refl _
  obtain ⟨gx, hgx⟩ : ∃ g, w.heap.size = g := ⟨_, rfl⟩
  rw [hgx] at X ⊢
  replace X := Lib.hid X; replace Y := Lib.hid Y; replace Z := Lib.hid Z
  refine Dag.wp_region_dag (by kernel_rfl) need1 (fun l a W => I1 w0 gx gy gz a0 a1 b0_ b1_ c0 c1 x0 x1 y0 y1 z0 z1 px0 px1 py0 py1 pz0 pz1 k (l 0) (l 1) (l 2) (l 3) (l 4) (l 5) (l 6) (l 7) (l 8) (l 9) (l 10) (l 11) (l 12) (l 13) (l 14) (l 15) (l 16) (l 17) (l 18) (l 19) (l 20) (l 21) (l 22) (l 23) (l 24) (l 25) (l 26) a W) (by kernel_rfl) (by kernel_rfl) ?h0 ?hs ?hd
  case h0 =>
    have hf : ∀ j, j < 3 → t3 false false false j = false := fun j hj => by (obtain rfl | rfl | rfl : j = 0 ∨ j = 1 ∨ j = 2 := by omega) <;> rfl
    exact ⟨fun _ => 0, ⟨Bl.drewN (Bl.refl w0) 1, fun j hj h => (by rw [hf j hj] at h; cases h), fun i j hi hj hn h => (by rw [hf i hi] at h; cases h), fun j hj h => (by rw [hf j hj] at h; cases h)⟩, rfl⟩
  case hs =>
    refine Dag.Steps.cons rfl (fun l a W hI hi hd K hK => ?_) ?_
    · change I1 w0 gx gy gz a0 a1 b0_ b1_ c0 c1 x0 x1 y0 y1 z0 z1 px0 px1 py0 py1 pz0 pz1 k (l 0) (l 1) (l 2) (l 3) (l 4) (l 5) (l 6) (l 7) (l 8) (l 9) (l 10) (l 11) (l 12) (l 13) (l 14) (l 15) (l 16) (l 17) (l 18) (l 19) (l 20) (l 21) (l 22) (l 23) (l 24) (l 25) (l 26) a W at hI
      rw [hi] at hI
      replace hK : ∀ a' w', I1 w0 gx gy gz a0 a1 b0_ b1_ c0 c1 x0 x1 y0 y1 z0 z1 px0 px1 py0 py1 pz0 pz1 k true (l 1) (l 2) (l 3) (l 4) (l 5) (l 6) (l 7) (l 8) (l 9) (l 10) (l 11) (l 12) (l 13) (l 14) (l 15) (l 16) (l 17) (l 18) (l 19) (l 20) (l 21) (l 22) (l 23) (l 24) (l 25) (l 26) a' w' → K a' w' := fun a' w' h => hK a' w' (by
        exact h)
      clear hd hi 
      generalize l 1 = b1 at hI hK
      generalize l 2 = b2 at hI hK
      generalize l 3 = b3 at hI hK
      generalize l 4 = b4 at hI hK
      generalize l 5 = b5 at hI hK
      generalize l 6 = b6 at hI hK
      generalize l 7 = b7 at hI hK
      generalize l 8 = b8 at hI hK
      generalize l 9 = b9 at hI hK
      generalize l 10 = b10 at hI hK
      generalize l 11 = b11 at hI hK
      generalize l 12 = b12 at hI hK
      generalize l 13 = b13 at hI hK
      generalize l 14 = b14 at hI hK
      generalize l 15 = b15 at hI hK
      generalize l 16 = b16 at hI hK
      generalize l 17 = b17 at hI hK
      generalize l 18 = b18 at hI hK
      generalize l 19 = b19 at hI hK
      generalize l 20 = b20 at hI hK
      generalize l 21 = b21 at hI hK
      generalize l 22 = b22 at hI hK
      generalize l 23 = b23 at hI hK
      generalize l 24 = b24 at hI hK
      generalize l 25 = b25 at hI hK
      generalize l 26 = b26 at hI hK
      clear l
      obtain ⟨g, hW, rfl⟩ := hI
      simp only [sel_true]
      go_simp
      exact hK _ _ ⟨g, hW, rfl⟩
    refine Dag.Steps.cons rfl (fun l a W hI hi hd K hK => ?_) ?_
    · change I1 w0 gx gy gz a0 a1 b0_ b1_ c0 c1 x0 x1 y0 y1 z0 z1 px0 px1 py0 py1 pz0 pz1 k (l 0) (l 1) (l 2) (l 3) (l 4) (l 5) (l 6) (l 7) (l 8) (l 9) (l 10) (l 11) (l 12) (l 13) (l 14) (l 15) (l 16) (l 17) (l 18) (l 19) (l 20) (l 21) (l 22) (l 23) (l 24) (l 25) (l 26) a W at hI
      have h0 : l 0 = true := hd 0 (by simp [need1])
      rw [h0, hi] at hI
      replace hK : ∀ a' w', I1 w0 gx gy gz a0 a1 b0_ b1_ c0 c1 x0 x1 y0 y1 z0 z1 px0 px1 py0 py1 pz0 pz1 k true true (l 2) (l 3) (l 4) (l 5) (l 6) (l 7) (l 8) (l 9) (l 10) (l 11) (l 12) (l 13) (l 14) (l 15) (l 16) (l 17) (l 18) (l 19) (l 20) (l 21) (l 22) (l 23) (l 24) (l 25) (l 26) a' w' → K a' w' := fun a' w' h => hK a' w' (by
        show I1 w0 gx gy gz a0 a1 b0_ b1_ c0 c1 x0 x1 y0 y1 z0 z1 px0 px1 py0 py1 pz0 pz1 k (l 0) true (l 2) (l 3) (l 4) (l 5) (l 6) (l 7) (l 8) (l 9) (l 10) (l 11) (l 12) (l 13) (l 14) (l 15) (l 16) (l 17) (l 18) (l 19) (l 20) (l 21) (l 22) (l 23) (l 24) (l 25) (l 26) a' w'
        rw [h0]; exact h)
      clear hd hi h0
      generalize l 2 = b2 at hI hK
      generalize l 3 = b3 at hI hK
      generalize l 4 = b4 at hI hK
      generalize l 5 = b5 at hI hK
      generalize l 6 = b6 at hI hK
      generalize l 7 = b7 at hI hK
      generalize l 8 = b8 at hI hK
      generalize l 9 = b9 at hI hK
      generalize l 10 = b10 at hI hK
      generalize l 11 = b11 at hI hK
      generalize l 12 = b12 at hI hK
      generalize l 13 = b13 at hI hK
      generalize l 14 = b14 at hI hK
      generalize l 15 = b15 at hI hK
      generalize l 16 = b16 at hI hK
      generalize l 17 = b17 at hI hK
      generalize l 18 = b18 at hI hK
      generalize l 19 = b19 at hI hK
      generalize l 20 = b20 at hI hK
      generalize l 21 = b21 at hI hK
      generalize l 22 = b22 at hI hK
      generalize l 23 = b23 at hI hK
      generalize l 24 = b24 at hI hK
      generalize l 25 = b25 at hI hK
      generalize l 26 = b26 at hI hK
      clear l
      obtain ⟨g, hW, rfl⟩ := hI
      simp only [sel_true]
      have c0 := ((show Below w0.heap.size w0 W from hW.bl).cell (p := ⟨gx, 0, none⟩) X.out.lt).trans X.out.c0
      go_simp
      exact hK _ _ ⟨g, hW, rfl⟩
    refine Dag.Steps.cons rfl (fun l a W hI hi hd K hK => ?_) ?_
    · change I1 w0 gx gy gz a0 a1 b0_ b1_ c0 c1 x0 x1 y0 y1 z0 z1 px0 px1 py0 py1 pz0 pz1 k (l 0) (l 1) (l 2) (l 3) (l 4) (l 5) (l 6) (l 7) (l 8) (l 9) (l 10) (l 11) (l 12) (l 13) (l 14) (l 15) (l 16) (l 17) (l 18) (l 19) (l 20) (l 21) (l 22) (l 23) (l 24) (l 25) (l 26) a W at hI
      have h1 : l 1 = true := hd 1 (by simp [need1])
      rw [h1, hi] at hI
      replace hK : ∀ a' w', I1 w0 gx gy gz a0 a1 b0_ b1_ c0 c1 x0 x1 y0 y1 z0 z1 px0 px1 py0 py1 pz0 pz1 k (l 0) true true (l 3) (l 4) (l 5) (l 6) (l 7) (l 8) (l 9) (l 10) (l 11) (l 12) (l 13) (l 14) (l 15) (l 16) (l 17) (l 18) (l 19) (l 20) (l 21) (l 22) (l 23) (l 24) (l 25) (l 26) a' w' → K a' w' := fun a' w' h => hK a' w' (by
        show I1 w0 gx gy gz a0 a1 b0_ b1_ c0 c1 x0 x1 y0 y1 z0 z1 px0 px1 py0 py1 pz0 pz1 k (l 0) (l 1) true (l 3) (l 4) (l 5) (l 6) (l 7) (l 8) (l 9) (l 10) (l 11) (l 12) (l 13) (l 14) (l 15) (l 16) (l 17) (l 18) (l 19) (l 20) (l 21) (l 22) (l 23) (l 24) (l 25) (l 26) a' w'
        rw [h1]; exact h)
      clear hd hi h1
      generalize l 0 = b0 at hI hK
      generalize l 3 = b3 at hI hK
      generalize l 4 = b4 at hI hK
      generalize l 5 = b5 at hI hK
      generalize l 6 = b6 at hI hK
      generalize l 7 = b7 at hI hK
      generalize l 8 = b8 at hI hK
      generalize l 9 = b9 at hI hK
      generalize l 10 = b10 at hI hK
      generalize l 11 = b11 at hI hK
      generalize l 12 = b12 at hI hK
      generalize l 13 = b13 at hI hK
      generalize l 14 = b14 at hI hK
      generalize l 15 = b15 at hI hK
      generalize l 16 = b16 at hI hK
      generalize l 17 = b17 at hI hK
      generalize l 18 = b18 at hI hK
      generalize l 19 = b19 at hI hK
      generalize l 20 = b20 at hI hK
      generalize l 21 = b21 at hI hK
      generalize l 22 = b22 at hI hK
      generalize l 23 = b23 at hI hK
      generalize l 24 = b24 at hI hK
      generalize l 25 = b25 at hI hK
      generalize l 26 = b26 at hI hK
      clear l
      obtain ⟨g, hW, rfl⟩ := hI
      simp only [sel_true]
      go_simp
      refine (Cx0.out _).mono ?_
      rintro e w1 ⟨rfl, rfl⟩
      exact hK _ _ ⟨g, hW, rfl⟩
    refine Dag.Steps.cons rfl (fun l a W hI hi hd K hK => ?_) ?_
    · change I1 w0 gx gy gz a0 a1 b0_ b1_ c0 c1 x0 x1 y0 y1 z0 z1 px0 px1 py0 py1 pz0 pz1 k (l 0) (l 1) (l 2) (l 3) (l 4) (l 5) (l 6) (l 7) (l 8) (l 9) (l 10) (l 11) (l 12) (l 13) (l 14) (l 15) (l 16) (l 17) (l 18) (l 19) (l 20) (l 21) (l 22) (l 23) (l 24) (l 25) (l 26) a W at hI
      rw [hi] at hI
      replace hK : ∀ a' w', I1 w0 gx gy gz a0 a1 b0_ b1_ c0 c1 x0 x1 y0 y1 z0 z1 px0 px1 py0 py1 pz0 pz1 k (l 0) (l 1) (l 2) true (l 4) (l 5) (l 6) (l 7) (l 8) (l 9) (l 10) (l 11) (l 12) (l 13) (l 14) (l 15) (l 16) (l 17) (l 18) (l 19) (l 20) (l 21) (l 22) (l 23) (l 24) (l 25) (l 26) a' w' → K a' w' := fun a' w' h => hK a' w' (by
        exact h)
      clear hd hi 
      generalize l 0 = b0 at hI hK
      generalize l 1 = b1 at hI hK
      generalize l 2 = b2 at hI hK
      generalize l 4 = b4 at hI hK
      generalize l 5 = b5 at hI hK
      generalize l 6 = b6 at hI hK
      generalize l 7 = b7 at hI hK
      generalize l 8 = b8 at hI hK
      generalize l 9 = b9 at hI hK
      generalize l 10 = b10 at hI hK
      generalize l 11 = b11 at hI hK
      generalize l 12 = b12 at hI hK
      generalize l 13 = b13 at hI hK
      generalize l 14 = b14 at hI hK
      generalize l 15 = b15 at hI hK
      generalize l 16 = b16 at hI hK
      generalize l 17 = b17 at hI hK
      generalize l 18 = b18 at hI hK
      generalize l 19 = b19 at hI hK
      generalize l 20 = b20 at hI hK
      generalize l 21 = b21 at hI hK
      generalize l 22 = b22 at hI hK
      generalize l 23 = b23 at hI hK
      generalize l 24 = b24 at hI hK
      generalize l 25 = b25 at hI hK
      generalize l 26 = b26 at hI hK
      clear l
      obtain ⟨g, hW, rfl⟩ := hI
      simp only [sel_true]
      go_simp
      exact hK _ _ ⟨g, hW, rfl⟩
    refine Dag.Steps.cons rfl (fun l a W hI hi hd K hK => ?_) ?_
    · change I1 w0 gx gy gz a0 a1 b0_ b1_ c0 c1 x0 x1 y0 y1 z0 z1 px0 px1 py0 py1 pz0 pz1 k (l 0) (l 1) (l 2) (l 3) (l 4) (l 5) (l 6) (l 7) (l 8) (l 9) (l 10) (l 11) (l 12) (l 13) (l 14) (l 15) (l 16) (l 17) (l 18) (l 19) (l 20) (l 21) (l 22) (l 23) (l 24) (l 25) (l 26) a W at hI
      have h3 : l 3 = true := hd 3 (by simp [need1])
      rw [h3, hi] at hI
      replace hK : ∀ a' w', I1 w0 gx gy gz a0 a1 b0_ b1_ c0 c1 x0 x1 y0 y1 z0 z1 px0 px1 py0 py1 pz0 pz1 k (l 0) (l 1) (l 2) true true (l 5) (l 6) (l 7) (l 8) (l 9) (l 10) (l 11) (l 12) (l 13) (l 14) (l 15) (l 16) (l 17) (l 18) (l 19) (l 20) (l 21) (l 22) (l 23) (l 24) (l 25) (l 26) a' w' → K a' w' := fun a' w' h => hK a' w' (by
        show I1 w0 gx gy gz a0 a1 b0_ b1_ c0 c1 x0 x1 y0 y1 z0 z1 px0 px1 py0 py1 pz0 pz1 k (l 0) (l 1) (l 2) (l 3) true (l 5) (l 6) (l 7) (l 8) (l 9) (l 10) (l 11) (l 12) (l 13) (l 14) (l 15) (l 16) (l 17) (l 18) (l 19) (l 20) (l 21) (l 22) (l 23) (l 24) (l 25) (l 26) a' w'
        rw [h3]; exact h)
      clear hd hi h3
      generalize l 0 = b0 at hI hK
      generalize l 1 = b1 at hI hK
      generalize l 2 = b2 at hI hK
      generalize l 5 = b5 at hI hK
      generalize l 6 = b6 at hI hK
      generalize l 7 = b7 at hI hK
      generalize l 8 = b8 at hI hK
      generalize l 9 = b9 at hI hK
      generalize l 10 = b10 at hI hK
      generalize l 11 = b11 at hI hK
      generalize l 12 = b12 at hI hK
      generalize l 13 = b13 at hI hK
      generalize l 14 = b14 at hI hK
      generalize l 15 = b15 at hI hK
      generalize l 16 = b16 at hI hK
      generalize l 17 = b17 at hI hK
      generalize l 18 = b18 at hI hK
      generalize l 19 = b19 at hI hK
      generalize l 20 = b20 at hI hK
      generalize l 21 = b21 at hI hK
      generalize l 22 = b22 at hI hK
      generalize l 23 = b23 at hI hK
      generalize l 24 = b24 at hI hK
      generalize l 25 = b25 at hI hK
      generalize l 26 = b26 at hI hK
      clear l
      obtain ⟨g, hW, rfl⟩ := hI
      simp only [sel_true]
      have c1 := ((show Below w0.heap.size w0 W from hW.bl).cell (p := ⟨gx, 1, none⟩) X.out.lt).trans X.out.c1
      go_simp
      exact hK _ _ ⟨g, hW, rfl⟩
    refine Dag.Steps.cons rfl (fun l a W hI hi hd K hK => ?_) ?_
    · change I1 w0 gx gy gz a0 a1 b0_ b1_ c0 c1 x0 x1 y0 y1 z0 z1 px0 px1 py0 py1 pz0 pz1 k (l 0) (l 1) (l 2) (l 3) (l 4) (l 5) (l 6) (l 7) (l 8) (l 9) (l 10) (l 11) (l 12) (l 13) (l 14) (l 15) (l 16) (l 17) (l 18) (l 19) (l 20) (l 21) (l 22) (l 23) (l 24) (l 25) (l 26) a W at hI
      have h4 : l 4 = true := hd 4 (by simp [need1])
      rw [h4, hi] at hI
      replace hK : ∀ a' w', I1 w0 gx gy gz a0 a1 b0_ b1_ c0 c1 x0 x1 y0 y1 z0 z1 px0 px1 py0 py1 pz0 pz1 k (l 0) (l 1) (l 2) (l 3) true true (l 6) (l 7) (l 8) (l 9) (l 10) (l 11) (l 12) (l 13) (l 14) (l 15) (l 16) (l 17) (l 18) (l 19) (l 20) (l 21) (l 22) (l 23) (l 24) (l 25) (l 26) a' w' → K a' w' := fun a' w' h => hK a' w' (by
        show I1 w0 gx gy gz a0 a1 b0_ b1_ c0 c1 x0 x1 y0 y1 z0 z1 px0 px1 py0 py1 pz0 pz1 k (l 0) (l 1) (l 2) (l 3) (l 4) true (l 6) (l 7) (l 8) (l 9) (l 10) (l 11) (l 12) (l 13) (l 14) (l 15) (l 16) (l 17) (l 18) (l 19) (l 20) (l 21) (l 22) (l 23) (l 24) (l 25) (l 26) a' w'
        rw [h4]; exact h)
      clear hd hi h4
      generalize l 0 = b0 at hI hK
      generalize l 1 = b1 at hI hK
      generalize l 2 = b2 at hI hK
      generalize l 3 = b3 at hI hK
      generalize l 6 = b6 at hI hK
      generalize l 7 = b7 at hI hK
      generalize l 8 = b8 at hI hK
      generalize l 9 = b9 at hI hK
      generalize l 10 = b10 at hI hK
      generalize l 11 = b11 at hI hK
      generalize l 12 = b12 at hI hK
      generalize l 13 = b13 at hI hK
      generalize l 14 = b14 at hI hK
      generalize l 15 = b15 at hI hK
      generalize l 16 = b16 at hI hK
      generalize l 17 = b17 at hI hK
      generalize l 18 = b18 at hI hK
      generalize l 19 = b19 at hI hK
      generalize l 20 = b20 at hI hK
      generalize l 21 = b21 at hI hK
      generalize l 22 = b22 at hI hK
      generalize l 23 = b23 at hI hK
      generalize l 24 = b24 at hI hK
      generalize l 25 = b25 at hI hK
      generalize l 26 = b26 at hI hK
      clear l
      obtain ⟨g, hW, rfl⟩ := hI
      simp only [sel_true]
      go_simp
      refine (Cx1.out _).mono ?_
      rintro e w1 ⟨rfl, rfl⟩
      exact hK _ _ ⟨g, hW, rfl⟩
    refine Dag.Steps.cons rfl (fun l a W hI hi hd K hK => ?_) ?_
    · change I1 w0 gx gy gz a0 a1 b0_ b1_ c0 c1 x0 x1 y0 y1 z0 z1 px0 px1 py0 py1 pz0 pz1 k (l 0) (l 1) (l 2) (l 3) (l 4) (l 5) (l 6) (l 7) (l 8) (l 9) (l 10) (l 11) (l 12) (l 13) (l 14) (l 15) (l 16) (l 17) (l 18) (l 19) (l 20) (l 21) (l 22) (l 23) (l 24) (l 25) (l 26) a W at hI
      have h2 : l 2 = true := hd 2 (by simp [need1])
      have h5 : l 5 = true := hd 5 (by simp [need1])
      rw [h2, h5, hi] at hI
      replace hK : ∀ a' w', I1 w0 gx gy gz a0 a1 b0_ b1_ c0 c1 x0 x1 y0 y1 z0 z1 px0 px1 py0 py1 pz0 pz1 k (l 0) (l 1) true (l 3) (l 4) true true (l 7) (l 8) (l 9) (l 10) (l 11) (l 12) (l 13) (l 14) (l 15) (l 16) (l 17) (l 18) (l 19) (l 20) (l 21) (l 22) (l 23) (l 24) (l 25) (l 26) a' w' → K a' w' := fun a' w' h => hK a' w' (by
        show I1 w0 gx gy gz a0 a1 b0_ b1_ c0 c1 x0 x1 y0 y1 z0 z1 px0 px1 py0 py1 pz0 pz1 k (l 0) (l 1) (l 2) (l 3) (l 4) (l 5) true (l 7) (l 8) (l 9) (l 10) (l 11) (l 12) (l 13) (l 14) (l 15) (l 16) (l 17) (l 18) (l 19) (l 20) (l 21) (l 22) (l 23) (l 24) (l 25) (l 26) a' w'
        rw [h2, h5]; exact h)
      clear hd hi h2 h5
      generalize l 0 = b0 at hI hK
      generalize l 1 = b1 at hI hK
      generalize l 3 = b3 at hI hK
      generalize l 4 = b4 at hI hK
      generalize l 7 = b7 at hI hK
      generalize l 8 = b8 at hI hK
      generalize l 9 = b9 at hI hK
      generalize l 10 = b10 at hI hK
      generalize l 11 = b11 at hI hK
      generalize l 12 = b12 at hI hK
      generalize l 13 = b13 at hI hK
      generalize l 14 = b14 at hI hK
      generalize l 15 = b15 at hI hK
      generalize l 16 = b16 at hI hK
      generalize l 17 = b17 at hI hK
      generalize l 18 = b18 at hI hK
      generalize l 19 = b19 at hI hK
      generalize l 20 = b20 at hI hK
      generalize l 21 = b21 at hI hK
      generalize l 22 = b22 at hI hK
      generalize l 23 = b23 at hI hK
      generalize l 24 = b24 at hI hK
      generalize l 25 = b25 at hI hK
      generalize l 26 = b26 at hI hK
      clear l
      obtain ⟨g, hW, rfl⟩ := hI
      simp only [sel_true]
      go_simp
      refine (Ox.out _).mono ?_
      rintro e w1 ⟨rfl, hb⟩
      exact hK _ _ ⟨g, hW.call hb, rfl⟩
    refine Dag.Steps.cons rfl (fun l a W hI hi hd K hK => ?_) ?_
    · change I1 w0 gx gy gz a0 a1 b0_ b1_ c0 c1 x0 x1 y0 y1 z0 z1 px0 px1 py0 py1 pz0 pz1 k (l 0) (l 1) (l 2) (l 3) (l 4) (l 5) (l 6) (l 7) (l 8) (l 9) (l 10) (l 11) (l 12) (l 13) (l 14) (l 15) (l 16) (l 17) (l 18) (l 19) (l 20) (l 21) (l 22) (l 23) (l 24) (l 25) (l 26) a W at hI
      rw [hi] at hI
      replace hK : ∀ a' w', I1 w0 gx gy gz a0 a1 b0_ b1_ c0 c1 x0 x1 y0 y1 z0 z1 px0 px1 py0 py1 pz0 pz1 k (l 0) (l 1) (l 2) (l 3) (l 4) (l 5) (l 6) true (l 8) (l 9) (l 10) (l 11) (l 12) (l 13) (l 14) (l 15) (l 16) (l 17) (l 18) (l 19) (l 20) (l 21) (l 22) (l 23) (l 24) (l 25) (l 26) a' w' → K a' w' := fun a' w' h => hK a' w' (by
        exact h)
      clear hd hi 
      generalize l 0 = b0 at hI hK
      generalize l 1 = b1 at hI hK
      generalize l 2 = b2 at hI hK
      generalize l 3 = b3 at hI hK
      generalize l 4 = b4 at hI hK
      generalize l 5 = b5 at hI hK
      generalize l 6 = b6 at hI hK
      generalize l 8 = b8 at hI hK
      generalize l 9 = b9 at hI hK
      generalize l 10 = b10 at hI hK
      generalize l 11 = b11 at hI hK
      generalize l 12 = b12 at hI hK
      generalize l 13 = b13 at hI hK
      generalize l 14 = b14 at hI hK
      generalize l 15 = b15 at hI hK
      generalize l 16 = b16 at hI hK
      generalize l 17 = b17 at hI hK
      generalize l 18 = b18 at hI hK
      generalize l 19 = b19 at hI hK
      generalize l 20 = b20 at hI hK
      generalize l 21 = b21 at hI hK
      generalize l 22 = b22 at hI hK
      generalize l 23 = b23 at hI hK
      generalize l 24 = b24 at hI hK
      generalize l 25 = b25 at hI hK
      generalize l 26 = b26 at hI hK
      clear l
      obtain ⟨g, hW, rfl⟩ := hI
      simp only [sel_true]
      go_simp
      exact hK _ _ ⟨g, hW, rfl⟩
    refine Dag.Steps.cons rfl (fun l a W hI hi hd K hK => ?_) ?_
    · change I1 w0 gx gy gz a0 a1 b0_ b1_ c0 c1 x0 x1 y0 y1 z0 z1 px0 px1 py0 py1 pz0 pz1 k (l 0) (l 1) (l 2) (l 3) (l 4) (l 5) (l 6) (l 7) (l 8) (l 9) (l 10) (l 11) (l 12) (l 13) (l 14) (l 15) (l 16) (l 17) (l 18) (l 19) (l 20) (l 21) (l 22) (l 23) (l 24) (l 25) (l 26) a W at hI
      have h7 : l 7 = true := hd 7 (by simp [need1])
      rw [h7, hi] at hI
      replace hK : ∀ a' w', I1 w0 gx gy gz a0 a1 b0_ b1_ c0 c1 x0 x1 y0 y1 z0 z1 px0 px1 py0 py1 pz0 pz1 k (l 0) (l 1) (l 2) (l 3) (l 4) (l 5) (l 6) true true (l 9) (l 10) (l 11) (l 12) (l 13) (l 14) (l 15) (l 16) (l 17) (l 18) (l 19) (l 20) (l 21) (l 22) (l 23) (l 24) (l 25) (l 26) a' w' → K a' w' := fun a' w' h => hK a' w' (by
        show I1 w0 gx gy gz a0 a1 b0_ b1_ c0 c1 x0 x1 y0 y1 z0 z1 px0 px1 py0 py1 pz0 pz1 k (l 0) (l 1) (l 2) (l 3) (l 4) (l 5) (l 6) (l 7) true (l 9) (l 10) (l 11) (l 12) (l 13) (l 14) (l 15) (l 16) (l 17) (l 18) (l 19) (l 20) (l 21) (l 22) (l 23) (l 24) (l 25) (l 26) a' w'
        rw [h7]; exact h)
      clear hd hi h7
      generalize l 0 = b0 at hI hK
      generalize l 1 = b1 at hI hK
      generalize l 2 = b2 at hI hK
      generalize l 3 = b3 at hI hK
      generalize l 4 = b4 at hI hK
      generalize l 5 = b5 at hI hK
      generalize l 6 = b6 at hI hK
      generalize l 9 = b9 at hI hK
      generalize l 10 = b10 at hI hK
      generalize l 11 = b11 at hI hK
      generalize l 12 = b12 at hI hK
      generalize l 13 = b13 at hI hK
      generalize l 14 = b14 at hI hK
      generalize l 15 = b15 at hI hK
      generalize l 16 = b16 at hI hK
      generalize l 17 = b17 at hI hK
      generalize l 18 = b18 at hI hK
      generalize l 19 = b19 at hI hK
      generalize l 20 = b20 at hI hK
      generalize l 21 = b21 at hI hK
      generalize l 22 = b22 at hI hK
      generalize l 23 = b23 at hI hK
      generalize l 24 = b24 at hI hK
      generalize l 25 = b25 at hI hK
      generalize l 26 = b26 at hI hK
      clear l
      obtain ⟨g, hW, rfl⟩ := hI
      simp only [sel_true]
      have c0 := ((show Below w0.heap.size w0 W from hW.bl).cell (p := ⟨gy, 0, none⟩) Y.out.lt).trans Y.out.c0
      go_simp
      exact hK _ _ ⟨g, hW, rfl⟩
    refine Dag.Steps.cons rfl (fun l a W hI hi hd K hK => ?_) ?_
    · change I1 w0 gx gy gz a0 a1 b0_ b1_ c0 c1 x0 x1 y0 y1 z0 z1 px0 px1 py0 py1 pz0 pz1 k (l 0) (l 1) (l 2) (l 3) (l 4) (l 5) (l 6) (l 7) (l 8) (l 9) (l 10) (l 11) (l 12) (l 13) (l 14) (l 15) (l 16) (l 17) (l 18) (l 19) (l 20) (l 21) (l 22) (l 23) (l 24) (l 25) (l 26) a W at hI
      have h8 : l 8 = true := hd 8 (by simp [need1])
      rw [h8, hi] at hI
      replace hK : ∀ a' w', I1 w0 gx gy gz a0 a1 b0_ b1_ c0 c1 x0 x1 y0 y1 z0 z1 px0 px1 py0 py1 pz0 pz1 k (l 0) (l 1) (l 2) (l 3) (l 4) (l 5) (l 6) (l 7) true true (l 10) (l 11) (l 12) (l 13) (l 14) (l 15) (l 16) (l 17) (l 18) (l 19) (l 20) (l 21) (l 22) (l 23) (l 24) (l 25) (l 26) a' w' → K a' w' := fun a' w' h => hK a' w' (by
        show I1 w0 gx gy gz a0 a1 b0_ b1_ c0 c1 x0 x1 y0 y1 z0 z1 px0 px1 py0 py1 pz0 pz1 k (l 0) (l 1) (l 2) (l 3) (l 4) (l 5) (l 6) (l 7) (l 8) true (l 10) (l 11) (l 12) (l 13) (l 14) (l 15) (l 16) (l 17) (l 18) (l 19) (l 20) (l 21) (l 22) (l 23) (l 24) (l 25) (l 26) a' w'
        rw [h8]; exact h)
      clear hd hi h8
      generalize l 0 = b0 at hI hK
      generalize l 1 = b1 at hI hK
      generalize l 2 = b2 at hI hK
      generalize l 3 = b3 at hI hK
      generalize l 4 = b4 at hI hK
      generalize l 5 = b5 at hI hK
      generalize l 6 = b6 at hI hK
      generalize l 7 = b7 at hI hK
      generalize l 10 = b10 at hI hK
      generalize l 11 = b11 at hI hK
      generalize l 12 = b12 at hI hK
      generalize l 13 = b13 at hI hK
      generalize l 14 = b14 at hI hK
      generalize l 15 = b15 at hI hK
      generalize l 16 = b16 at hI hK
      generalize l 17 = b17 at hI hK
      generalize l 18 = b18 at hI hK
      generalize l 19 = b19 at hI hK
      generalize l 20 = b20 at hI hK
      generalize l 21 = b21 at hI hK
      generalize l 22 = b22 at hI hK
      generalize l 23 = b23 at hI hK
      generalize l 24 = b24 at hI hK
      generalize l 25 = b25 at hI hK
      generalize l 26 = b26 at hI hK
      clear l
      obtain ⟨g, hW, rfl⟩ := hI
      simp only [sel_true]
      go_simp
      refine (Cy0.out _).mono ?_
      rintro e w1 ⟨rfl, rfl⟩
      exact hK _ _ ⟨g, hW, rfl⟩
    refine Dag.Steps.cons rfl (fun l a W hI hi hd K hK => ?_) ?_
    · change I1 w0 gx gy gz a0 a1 b0_ b1_ c0 c1 x0 x1 y0 y1 z0 z1 px0 px1 py0 py1 pz0 pz1 k (l 0) (l 1) (l 2) (l 3) (l 4) (l 5) (l 6) (l 7) (l 8) (l 9) (l 10) (l 11) (l 12) (l 13) (l 14) (l 15) (l 16) (l 17) (l 18) (l 19) (l 20) (l 21) (l 22) (l 23) (l 24) (l 25) (l 26) a W at hI
      rw [hi] at hI
      replace hK : ∀ a' w', I1 w0 gx gy gz a0 a1 b0_ b1_ c0 c1 x0 x1 y0 y1 z0 z1 px0 px1 py0 py1 pz0 pz1 k (l 0) (l 1) (l 2) (l 3) (l 4) (l 5) (l 6) (l 7) (l 8) (l 9) true (l 11) (l 12) (l 13) (l 14) (l 15) (l 16) (l 17) (l 18) (l 19) (l 20) (l 21) (l 22) (l 23) (l 24) (l 25) (l 26) a' w' → K a' w' := fun a' w' h => hK a' w' (by
        exact h)
      clear hd hi 
      generalize l 0 = b0 at hI hK
      generalize l 1 = b1 at hI hK
      generalize l 2 = b2 at hI hK
      generalize l 3 = b3 at hI hK
      generalize l 4 = b4 at hI hK
      generalize l 5 = b5 at hI hK
      generalize l 6 = b6 at hI hK
      generalize l 7 = b7 at hI hK
      generalize l 8 = b8 at hI hK
      generalize l 9 = b9 at hI hK
      generalize l 11 = b11 at hI hK
      generalize l 12 = b12 at hI hK
      generalize l 13 = b13 at hI hK
      generalize l 14 = b14 at hI hK
      generalize l 15 = b15 at hI hK
      generalize l 16 = b16 at hI hK
      generalize l 17 = b17 at hI hK
      generalize l 18 = b18 at hI hK
      generalize l 19 = b19 at hI hK
      generalize l 20 = b20 at hI hK
      generalize l 21 = b21 at hI hK
      generalize l 22 = b22 at hI hK
      generalize l 23 = b23 at hI hK
      generalize l 24 = b24 at hI hK
      generalize l 25 = b25 at hI hK
      generalize l 26 = b26 at hI hK
      clear l
      obtain ⟨g, hW, rfl⟩ := hI
      simp only [sel_true]
      go_simp
      exact hK _ _ ⟨g, hW, rfl⟩
    refine Dag.Steps.cons rfl (fun l a W hI hi hd K hK => ?_) ?_
    · change I1 w0 gx gy gz a0 a1 b0_ b1_ c0 c1 x0 x1 y0 y1 z0 z1 px0 px1 py0 py1 pz0 pz1 k (l 0) (l 1) (l 2) (l 3) (l 4) (l 5) (l 6) (l 7) (l 8) (l 9) (l 10) (l 11) (l 12) (l 13) (l 14) (l 15) (l 16) (l 17) (l 18) (l 19) (l 20) (l 21) (l 22) (l 23) (l 24) (l 25) (l 26) a W at hI
      have h10 : l 10 = true := hd 10 (by simp [need1])
      rw [h10, hi] at hI
      replace hK : ∀ a' w', I1 w0 gx gy gz a0 a1 b0_ b1_ c0 c1 x0 x1 y0 y1 z0 z1 px0 px1 py0 py1 pz0 pz1 k (l 0) (l 1) (l 2) (l 3) (l 4) (l 5) (l 6) (l 7) (l 8) (l 9) true true (l 12) (l 13) (l 14) (l 15) (l 16) (l 17) (l 18) (l 19) (l 20) (l 21) (l 22) (l 23) (l 24) (l 25) (l 26) a' w' → K a' w' := fun a' w' h => hK a' w' (by
        show I1 w0 gx gy gz a0 a1 b0_ b1_ c0 c1 x0 x1 y0 y1 z0 z1 px0 px1 py0 py1 pz0 pz1 k (l 0) (l 1) (l 2) (l 3) (l 4) (l 5) (l 6) (l 7) (l 8) (l 9) (l 10) true (l 12) (l 13) (l 14) (l 15) (l 16) (l 17) (l 18) (l 19) (l 20) (l 21) (l 22) (l 23) (l 24) (l 25) (l 26) a' w'
        rw [h10]; exact h)
      clear hd hi h10
      generalize l 0 = b0 at hI hK
      generalize l 1 = b1 at hI hK
      generalize l 2 = b2 at hI hK
      generalize l 3 = b3 at hI hK
      generalize l 4 = b4 at hI hK
      generalize l 5 = b5 at hI hK
      generalize l 6 = b6 at hI hK
      generalize l 7 = b7 at hI hK
      generalize l 8 = b8 at hI hK
      generalize l 9 = b9 at hI hK
      generalize l 12 = b12 at hI hK
      generalize l 13 = b13 at hI hK
      generalize l 14 = b14 at hI hK
      generalize l 15 = b15 at hI hK
      generalize l 16 = b16 at hI hK
      generalize l 17 = b17 at hI hK
      generalize l 18 = b18 at hI hK
      generalize l 19 = b19 at hI hK
      generalize l 20 = b20 at hI hK
      generalize l 21 = b21 at hI hK
      generalize l 22 = b22 at hI hK
      generalize l 23 = b23 at hI hK
      generalize l 24 = b24 at hI hK
      generalize l 25 = b25 at hI hK
      generalize l 26 = b26 at hI hK
      clear l
      obtain ⟨g, hW, rfl⟩ := hI
      simp only [sel_true]
      have c1 := ((show Below w0.heap.size w0 W from hW.bl).cell (p := ⟨gy, 1, none⟩) Y.out.lt).trans Y.out.c1
      go_simp
      exact hK _ _ ⟨g, hW, rfl⟩
    refine Dag.Steps.cons rfl (fun l a W hI hi hd K hK => ?_) ?_
    · change I1 w0 gx gy gz a0 a1 b0_ b1_ c0 c1 x0 x1 y0 y1 z0 z1 px0 px1 py0 py1 pz0 pz1 k (l 0) (l 1) (l 2) (l 3) (l 4) (l 5) (l 6) (l 7) (l 8) (l 9) (l 10) (l 11) (l 12) (l 13) (l 14) (l 15) (l 16) (l 17) (l 18) (l 19) (l 20) (l 21) (l 22) (l 23) (l 24) (l 25) (l 26) a W at hI
      have h11 : l 11 = true := hd 11 (by simp [need1])
      rw [h11, hi] at hI
      replace hK : ∀ a' w', I1 w0 gx gy gz a0 a1 b0_ b1_ c0 c1 x0 x1 y0 y1 z0 z1 px0 px1 py0 py1 pz0 pz1 k (l 0) (l 1) (l 2) (l 3) (l 4) (l 5) (l 6) (l 7) (l 8) (l 9) (l 10) true true (l 13) (l 14) (l 15) (l 16) (l 17) (l 18) (l 19) (l 20) (l 21) (l 22) (l 23) (l 24) (l 25) (l 26) a' w' → K a' w' := fun a' w' h => hK a' w' (by
        show I1 w0 gx gy gz a0 a1 b0_ b1_ c0 c1 x0 x1 y0 y1 z0 z1 px0 px1 py0 py1 pz0 pz1 k (l 0) (l 1) (l 2) (l 3) (l 4) (l 5) (l 6) (l 7) (l 8) (l 9) (l 10) (l 11) true (l 13) (l 14) (l 15) (l 16) (l 17) (l 18) (l 19) (l 20) (l 21) (l 22) (l 23) (l 24) (l 25) (l 26) a' w'
        rw [h11]; exact h)
      clear hd hi h11
      generalize l 0 = b0 at hI hK
      generalize l 1 = b1 at hI hK
      generalize l 2 = b2 at hI hK
      generalize l 3 = b3 at hI hK
      generalize l 4 = b4 at hI hK
      generalize l 5 = b5 at hI hK
      generalize l 6 = b6 at hI hK
      generalize l 7 = b7 at hI hK
      generalize l 8 = b8 at hI hK
      generalize l 9 = b9 at hI hK
      generalize l 10 = b10 at hI hK
      generalize l 13 = b13 at hI hK
      generalize l 14 = b14 at hI hK
      generalize l 15 = b15 at hI hK
      generalize l 16 = b16 at hI hK
      generalize l 17 = b17 at hI hK
      generalize l 18 = b18 at hI hK
      generalize l 19 = b19 at hI hK
      generalize l 20 = b20 at hI hK
      generalize l 21 = b21 at hI hK
      generalize l 22 = b22 at hI hK
      generalize l 23 = b23 at hI hK
      generalize l 24 = b24 at hI hK
      generalize l 25 = b25 at hI hK
      generalize l 26 = b26 at hI hK
      clear l
      obtain ⟨g, hW, rfl⟩ := hI
      simp only [sel_true]
      go_simp
      refine (Cy1.out _).mono ?_
      rintro e w1 ⟨rfl, rfl⟩
      exact hK _ _ ⟨g, hW, rfl⟩
    refine Dag.Steps.cons rfl (fun l a W hI hi hd K hK => ?_) ?_
    · change I1 w0 gx gy gz a0 a1 b0_ b1_ c0 c1 x0 x1 y0 y1 z0 z1 px0 px1 py0 py1 pz0 pz1 k (l 0) (l 1) (l 2) (l 3) (l 4) (l 5) (l 6) (l 7) (l 8) (l 9) (l 10) (l 11) (l 12) (l 13) (l 14) (l 15) (l 16) (l 17) (l 18) (l 19) (l 20) (l 21) (l 22) (l 23) (l 24) (l 25) (l 26) a W at hI
      have h9 : l 9 = true := hd 9 (by simp [need1])
      have h12 : l 12 = true := hd 12 (by simp [need1])
      rw [h9, h12, hi] at hI
      replace hK : ∀ a' w', I1 w0 gx gy gz a0 a1 b0_ b1_ c0 c1 x0 x1 y0 y1 z0 z1 px0 px1 py0 py1 pz0 pz1 k (l 0) (l 1) (l 2) (l 3) (l 4) (l 5) (l 6) (l 7) (l 8) true (l 10) (l 11) true true (l 14) (l 15) (l 16) (l 17) (l 18) (l 19) (l 20) (l 21) (l 22) (l 23) (l 24) (l 25) (l 26) a' w' → K a' w' := fun a' w' h => hK a' w' (by
        show I1 w0 gx gy gz a0 a1 b0_ b1_ c0 c1 x0 x1 y0 y1 z0 z1 px0 px1 py0 py1 pz0 pz1 k (l 0) (l 1) (l 2) (l 3) (l 4) (l 5) (l 6) (l 7) (l 8) (l 9) (l 10) (l 11) (l 12) true (l 14) (l 15) (l 16) (l 17) (l 18) (l 19) (l 20) (l 21) (l 22) (l 23) (l 24) (l 25) (l 26) a' w'
        rw [h9, h12]; exact h)
      clear hd hi h9 h12
      generalize l 0 = b0 at hI hK
      generalize l 1 = b1 at hI hK
      generalize l 2 = b2 at hI hK
      generalize l 3 = b3 at hI hK
      generalize l 4 = b4 at hI hK
      generalize l 5 = b5 at hI hK
      generalize l 6 = b6 at hI hK
      generalize l 7 = b7 at hI hK
      generalize l 8 = b8 at hI hK
      generalize l 10 = b10 at hI hK
      generalize l 11 = b11 at hI hK
      generalize l 14 = b14 at hI hK
      generalize l 15 = b15 at hI hK
      generalize l 16 = b16 at hI hK
      generalize l 17 = b17 at hI hK
      generalize l 18 = b18 at hI hK
      generalize l 19 = b19 at hI hK
      generalize l 20 = b20 at hI hK
      generalize l 21 = b21 at hI hK
      generalize l 22 = b22 at hI hK
      generalize l 23 = b23 at hI hK
      generalize l 24 = b24 at hI hK
      generalize l 25 = b25 at hI hK
      generalize l 26 = b26 at hI hK
      clear l
      obtain ⟨g, hW, rfl⟩ := hI
      simp only [sel_true]
      go_simp
      refine (Oy.out _).mono ?_
      rintro e w1 ⟨rfl, hb⟩
      exact hK _ _ ⟨g, hW.call hb, rfl⟩
    refine Dag.Steps.cons rfl (fun l a W hI hi hd K hK => ?_) ?_
    · change I1 w0 gx gy gz a0 a1 b0_ b1_ c0 c1 x0 x1 y0 y1 z0 z1 px0 px1 py0 py1 pz0 pz1 k (l 0) (l 1) (l 2) (l 3) (l 4) (l 5) (l 6) (l 7) (l 8) (l 9) (l 10) (l 11) (l 12) (l 13) (l 14) (l 15) (l 16) (l 17) (l 18) (l 19) (l 20) (l 21) (l 22) (l 23) (l 24) (l 25) (l 26) a W at hI
      rw [hi] at hI
      replace hK : ∀ a' w', I1 w0 gx gy gz a0 a1 b0_ b1_ c0 c1 x0 x1 y0 y1 z0 z1 px0 px1 py0 py1 pz0 pz1 k (l 0) (l 1) (l 2) (l 3) (l 4) (l 5) (l 6) (l 7) (l 8) (l 9) (l 10) (l 11) (l 12) (l 13) true (l 15) (l 16) (l 17) (l 18) (l 19) (l 20) (l 21) (l 22) (l 23) (l 24) (l 25) (l 26) a' w' → K a' w' := fun a' w' h => hK a' w' (by
        exact h)
      clear hd hi 
      generalize l 0 = b0 at hI hK
      generalize l 1 = b1 at hI hK
      generalize l 2 = b2 at hI hK
      generalize l 3 = b3 at hI hK
      generalize l 4 = b4 at hI hK
      generalize l 5 = b5 at hI hK
      generalize l 6 = b6 at hI hK
      generalize l 7 = b7 at hI hK
      generalize l 8 = b8 at hI hK
      generalize l 9 = b9 at hI hK
      generalize l 10 = b10 at hI hK
      generalize l 11 = b11 at hI hK
      generalize l 12 = b12 at hI hK
      generalize l 13 = b13 at hI hK
      generalize l 15 = b15 at hI hK
      generalize l 16 = b16 at hI hK
      generalize l 17 = b17 at hI hK
      generalize l 18 = b18 at hI hK
      generalize l 19 = b19 at hI hK
      generalize l 20 = b20 at hI hK
      generalize l 21 = b21 at hI hK
      generalize l 22 = b22 at hI hK
      generalize l 23 = b23 at hI hK
      generalize l 24 = b24 at hI hK
      generalize l 25 = b25 at hI hK
      generalize l 26 = b26 at hI hK
      clear l
      obtain ⟨g, hW, rfl⟩ := hI
      simp only [sel_true]
      go_simp
      exact hK _ _ ⟨g, hW, rfl⟩
    refine Dag.Steps.cons rfl (fun l a W hI hi hd K hK => ?_) ?_
    · change I1 w0 gx gy gz a0 a1 b0_ b1_ c0 c1 x0 x1 y0 y1 z0 z1 px0 px1 py0 py1 pz0 pz1 k (l 0) (l 1) (l 2) (l 3) (l 4) (l 5) (l 6) (l 7) (l 8) (l 9) (l 10) (l 11) (l 12) (l 13) (l 14) (l 15) (l 16) (l 17) (l 18) (l 19) (l 20) (l 21) (l 22) (l 23) (l 24) (l 25) (l 26) a W at hI
      have h14 : l 14 = true := hd 14 (by simp [need1])
      rw [h14, hi] at hI
      replace hK : ∀ a' w', I1 w0 gx gy gz a0 a1 b0_ b1_ c0 c1 x0 x1 y0 y1 z0 z1 px0 px1 py0 py1 pz0 pz1 k (l 0) (l 1) (l 2) (l 3) (l 4) (l 5) (l 6) (l 7) (l 8) (l 9) (l 10) (l 11) (l 12) (l 13) true true (l 16) (l 17) (l 18) (l 19) (l 20) (l 21) (l 22) (l 23) (l 24) (l 25) (l 26) a' w' → K a' w' := fun a' w' h => hK a' w' (by
        show I1 w0 gx gy gz a0 a1 b0_ b1_ c0 c1 x0 x1 y0 y1 z0 z1 px0 px1 py0 py1 pz0 pz1 k (l 0) (l 1) (l 2) (l 3) (l 4) (l 5) (l 6) (l 7) (l 8) (l 9) (l 10) (l 11) (l 12) (l 13) (l 14) true (l 16) (l 17) (l 18) (l 19) (l 20) (l 21) (l 22) (l 23) (l 24) (l 25) (l 26) a' w'
        rw [h14]; exact h)
      clear hd hi h14
      generalize l 0 = b0 at hI hK
      generalize l 1 = b1 at hI hK
      generalize l 2 = b2 at hI hK
      generalize l 3 = b3 at hI hK
      generalize l 4 = b4 at hI hK
      generalize l 5 = b5 at hI hK
      generalize l 6 = b6 at hI hK
      generalize l 7 = b7 at hI hK
      generalize l 8 = b8 at hI hK
      generalize l 9 = b9 at hI hK
      generalize l 10 = b10 at hI hK
      generalize l 11 = b11 at hI hK
      generalize l 12 = b12 at hI hK
      generalize l 13 = b13 at hI hK
      generalize l 16 = b16 at hI hK
      generalize l 17 = b17 at hI hK
      generalize l 18 = b18 at hI hK
      generalize l 19 = b19 at hI hK
      generalize l 20 = b20 at hI hK
      generalize l 21 = b21 at hI hK
      generalize l 22 = b22 at hI hK
      generalize l 23 = b23 at hI hK
      generalize l 24 = b24 at hI hK
      generalize l 25 = b25 at hI hK
      generalize l 26 = b26 at hI hK
      clear l
      obtain ⟨g, hW, rfl⟩ := hI
      simp only [sel_true]
      have c0 := ((show Below w0.heap.size w0 W from hW.bl).cell (p := ⟨gz, 0, none⟩) Z.out.lt).trans Z.out.c0
      go_simp
      exact hK _ _ ⟨g, hW, rfl⟩
    refine Dag.Steps.cons rfl (fun l a W hI hi hd K hK => ?_) ?_
    · change I1 w0 gx gy gz a0 a1 b0_ b1_ c0 c1 x0 x1 y0 y1 z0 z1 px0 px1 py0 py1 pz0 pz1 k (l 0) (l 1) (l 2) (l 3) (l 4) (l 5) (l 6) (l 7) (l 8) (l 9) (l 10) (l 11) (l 12) (l 13) (l 14) (l 15) (l 16) (l 17) (l 18) (l 19) (l 20) (l 21) (l 22) (l 23) (l 24) (l 25) (l 26) a W at hI
      have h15 : l 15 = true := hd 15 (by simp [need1])
      rw [h15, hi] at hI
      replace hK : ∀ a' w', I1 w0 gx gy gz a0 a1 b0_ b1_ c0 c1 x0 x1 y0 y1 z0 z1 px0 px1 py0 py1 pz0 pz1 k (l 0) (l 1) (l 2) (l 3) (l 4) (l 5) (l 6) (l 7) (l 8) (l 9) (l 10) (l 11) (l 12) (l 13) (l 14) true true (l 17) (l 18) (l 19) (l 20) (l 21) (l 22) (l 23) (l 24) (l 25) (l 26) a' w' → K a' w' := fun a' w' h => hK a' w' (by
        show I1 w0 gx gy gz a0 a1 b0_ b1_ c0 c1 x0 x1 y0 y1 z0 z1 px0 px1 py0 py1 pz0 pz1 k (l 0) (l 1) (l 2) (l 3) (l 4) (l 5) (l 6) (l 7) (l 8) (l 9) (l 10) (l 11) (l 12) (l 13) (l 14) (l 15) true (l 17) (l 18) (l 19) (l 20) (l 21) (l 22) (l 23) (l 24) (l 25) (l 26) a' w'
        rw [h15]; exact h)
      clear hd hi h15
      generalize l 0 = b0 at hI hK
      generalize l 1 = b1 at hI hK
      generalize l 2 = b2 at hI hK
      generalize l 3 = b3 at hI hK
      generalize l 4 = b4 at hI hK
      generalize l 5 = b5 at hI hK
      generalize l 6 = b6 at hI hK
      generalize l 7 = b7 at hI hK
      generalize l 8 = b8 at hI hK
      generalize l 9 = b9 at hI hK
      generalize l 10 = b10 at hI hK
      generalize l 11 = b11 at hI hK
      generalize l 12 = b12 at hI hK
      generalize l 13 = b13 at hI hK
      generalize l 14 = b14 at hI hK
      generalize l 17 = b17 at hI hK
      generalize l 18 = b18 at hI hK
      generalize l 19 = b19 at hI hK
      generalize l 20 = b20 at hI hK
      generalize l 21 = b21 at hI hK
      generalize l 22 = b22 at hI hK
      generalize l 23 = b23 at hI hK
      generalize l 24 = b24 at hI hK
      generalize l 25 = b25 at hI hK
      generalize l 26 = b26 at hI hK
      clear l
      obtain ⟨g, hW, rfl⟩ := hI
      simp only [sel_true]
      go_simp
      refine (Cz0.out _).mono ?_
      rintro e w1 ⟨rfl, rfl⟩
      exact hK _ _ ⟨g, hW, rfl⟩
    refine Dag.Steps.cons rfl (fun l a W hI hi hd K hK => ?_) ?_
    · change I1 w0 gx gy gz a0 a1 b0_ b1_ c0 c1 x0 x1 y0 y1 z0 z1 px0 px1 py0 py1 pz0 pz1 k (l 0) (l 1) (l 2) (l 3) (l 4) (l 5) (l 6) (l 7) (l 8) (l 9) (l 10) (l 11) (l 12) (l 13) (l 14) (l 15) (l 16) (l 17) (l 18) (l 19) (l 20) (l 21) (l 22) (l 23) (l 24) (l 25) (l 26) a W at hI
      rw [hi] at hI
      replace hK : ∀ a' w', I1 w0 gx gy gz a0 a1 b0_ b1_ c0 c1 x0 x1 y0 y1 z0 z1 px0 px1 py0 py1 pz0 pz1 k (l 0) (l 1) (l 2) (l 3) (l 4) (l 5) (l 6) (l 7) (l 8) (l 9) (l 10) (l 11) (l 12) (l 13) (l 14) (l 15) (l 16) true (l 18) (l 19) (l 20) (l 21) (l 22) (l 23) (l 24) (l 25) (l 26) a' w' → K a' w' := fun a' w' h => hK a' w' (by
        exact h)
      clear hd hi 
      generalize l 0 = b0 at hI hK
      generalize l 1 = b1 at hI hK
      generalize l 2 = b2 at hI hK
      generalize l 3 = b3 at hI hK
      generalize l 4 = b4 at hI hK
      generalize l 5 = b5 at hI hK
      generalize l 6 = b6 at hI hK
      generalize l 7 = b7 at hI hK
      generalize l 8 = b8 at hI hK
      generalize l 9 = b9 at hI hK
      generalize l 10 = b10 at hI hK
      generalize l 11 = b11 at hI hK
      generalize l 12 = b12 at hI hK
      generalize l 13 = b13 at hI hK
      generalize l 14 = b14 at hI hK
      generalize l 15 = b15 at hI hK
      generalize l 16 = b16 at hI hK
      generalize l 18 = b18 at hI hK
      generalize l 19 = b19 at hI hK
      generalize l 20 = b20 at hI hK
      generalize l 21 = b21 at hI hK
      generalize l 22 = b22 at hI hK
      generalize l 23 = b23 at hI hK
      generalize l 24 = b24 at hI hK
      generalize l 25 = b25 at hI hK
      generalize l 26 = b26 at hI hK
      clear l
      obtain ⟨g, hW, rfl⟩ := hI
      simp only [sel_true]
      go_simp
      exact hK _ _ ⟨g, hW, rfl⟩
    refine Dag.Steps.cons rfl (fun l a W hI hi hd K hK => ?_) ?_
    · change I1 w0 gx gy gz a0 a1 b0_ b1_ c0 c1 x0 x1 y0 y1 z0 z1 px0 px1 py0 py1 pz0 pz1 k (l 0) (l 1) (l 2) (l 3) (l 4) (l 5) (l 6) (l 7) (l 8) (l 9) (l 10) (l 11) (l 12) (l 13) (l 14) (l 15) (l 16) (l 17) (l 18) (l 19) (l 20) (l 21) (l 22) (l 23) (l 24) (l 25) (l 26) a W at hI
      have h17 : l 17 = true := hd 17 (by simp [need1])
      rw [h17, hi] at hI
      replace hK : ∀ a' w', I1 w0 gx gy gz a0 a1 b0_ b1_ c0 c1 x0 x1 y0 y1 z0 z1 px0 px1 py0 py1 pz0 pz1 k (l 0) (l 1) (l 2) (l 3) (l 4) (l 5) (l 6) (l 7) (l 8) (l 9) (l 10) (l 11) (l 12) (l 13) (l 14) (l 15) (l 16) true true (l 19) (l 20) (l 21) (l 22) (l 23) (l 24) (l 25) (l 26) a' w' → K a' w' := fun a' w' h => hK a' w' (by
        show I1 w0 gx gy gz a0 a1 b0_ b1_ c0 c1 x0 x1 y0 y1 z0 z1 px0 px1 py0 py1 pz0 pz1 k (l 0) (l 1) (l 2) (l 3) (l 4) (l 5) (l 6) (l 7) (l 8) (l 9) (l 10) (l 11) (l 12) (l 13) (l 14) (l 15) (l 16) (l 17) true (l 19) (l 20) (l 21) (l 22) (l 23) (l 24) (l 25) (l 26) a' w'
        rw [h17]; exact h)
      clear hd hi h17
      generalize l 0 = b0 at hI hK
      generalize l 1 = b1 at hI hK
      generalize l 2 = b2 at hI hK
      generalize l 3 = b3 at hI hK
      generalize l 4 = b4 at hI hK
      generalize l 5 = b5 at hI hK
      generalize l 6 = b6 at hI hK
      generalize l 7 = b7 at hI hK
      generalize l 8 = b8 at hI hK
      generalize l 9 = b9 at hI hK
      generalize l 10 = b10 at hI hK
      generalize l 11 = b11 at hI hK
      generalize l 12 = b12 at hI hK
      generalize l 13 = b13 at hI hK
      generalize l 14 = b14 at hI hK
      generalize l 15 = b15 at hI hK
      generalize l 16 = b16 at hI hK
      generalize l 19 = b19 at hI hK
      generalize l 20 = b20 at hI hK
      generalize l 21 = b21 at hI hK
      generalize l 22 = b22 at hI hK
      generalize l 23 = b23 at hI hK
      generalize l 24 = b24 at hI hK
      generalize l 25 = b25 at hI hK
      generalize l 26 = b26 at hI hK
      clear l
      obtain ⟨g, hW, rfl⟩ := hI
      simp only [sel_true]
      have c1 := ((show Below w0.heap.size w0 W from hW.bl).cell (p := ⟨gz, 1, none⟩) Z.out.lt).trans Z.out.c1
      go_simp
      exact hK _ _ ⟨g, hW, rfl⟩
    refine Dag.Steps.cons rfl (fun l a W hI hi hd K hK => ?_) ?_
    · change I1 w0 gx gy gz a0 a1 b0_ b1_ c0 c1 x0 x1 y0 y1 z0 z1 px0 px1 py0 py1 pz0 pz1 k (l 0) (l 1) (l 2) (l 3) (l 4) (l 5) (l 6) (l 7) (l 8) (l 9) (l 10) (l 11) (l 12) (l 13) (l 14) (l 15) (l 16) (l 17) (l 18) (l 19) (l 20) (l 21) (l 22) (l 23) (l 24) (l 25) (l 26) a W at hI
      have h18 : l 18 = true := hd 18 (by simp [need1])
      rw [h18, hi] at hI
      replace hK : ∀ a' w', I1 w0 gx gy gz a0 a1 b0_ b1_ c0 c1 x0 x1 y0 y1 z0 z1 px0 px1 py0 py1 pz0 pz1 k (l 0) (l 1) (l 2) (l 3) (l 4) (l 5) (l 6) (l 7) (l 8) (l 9) (l 10) (l 11) (l 12) (l 13) (l 14) (l 15) (l 16) (l 17) true true (l 20) (l 21) (l 22) (l 23) (l 24) (l 25) (l 26) a' w' → K a' w' := fun a' w' h => hK a' w' (by
        show I1 w0 gx gy gz a0 a1 b0_ b1_ c0 c1 x0 x1 y0 y1 z0 z1 px0 px1 py0 py1 pz0 pz1 k (l 0) (l 1) (l 2) (l 3) (l 4) (l 5) (l 6) (l 7) (l 8) (l 9) (l 10) (l 11) (l 12) (l 13) (l 14) (l 15) (l 16) (l 17) (l 18) true (l 20) (l 21) (l 22) (l 23) (l 24) (l 25) (l 26) a' w'
        rw [h18]; exact h)
      clear hd hi h18
      generalize l 0 = b0 at hI hK
      generalize l 1 = b1 at hI hK
      generalize l 2 = b2 at hI hK
      generalize l 3 = b3 at hI hK
      generalize l 4 = b4 at hI hK
      generalize l 5 = b5 at hI hK
      generalize l 6 = b6 at hI hK
      generalize l 7 = b7 at hI hK
      generalize l 8 = b8 at hI hK
      generalize l 9 = b9 at hI hK
      generalize l 10 = b10 at hI hK
      generalize l 11 = b11 at hI hK
      generalize l 12 = b12 at hI hK
      generalize l 13 = b13 at hI hK
      generalize l 14 = b14 at hI hK
      generalize l 15 = b15 at hI hK
      generalize l 16 = b16 at hI hK
      generalize l 17 = b17 at hI hK
      generalize l 20 = b20 at hI hK
      generalize l 21 = b21 at hI hK
      generalize l 22 = b22 at hI hK
      generalize l 23 = b23 at hI hK
      generalize l 24 = b24 at hI hK
      generalize l 25 = b25 at hI hK
      generalize l 26 = b26 at hI hK
      clear l
      obtain ⟨g, hW, rfl⟩ := hI
      simp only [sel_true]
      go_simp
      refine (Cz1.out _).mono ?_
      rintro e w1 ⟨rfl, rfl⟩
      exact hK _ _ ⟨g, hW, rfl⟩
    refine Dag.Steps.cons rfl (fun l a W hI hi hd K hK => ?_) ?_
    · change I1 w0 gx gy gz a0 a1 b0_ b1_ c0 c1 x0 x1 y0 y1 z0 z1 px0 px1 py0 py1 pz0 pz1 k (l 0) (l 1) (l 2) (l 3) (l 4) (l 5) (l 6) (l 7) (l 8) (l 9) (l 10) (l 11) (l 12) (l 13) (l 14) (l 15) (l 16) (l 17) (l 18) (l 19) (l 20) (l 21) (l 22) (l 23) (l 24) (l 25) (l 26) a W at hI
      have h16 : l 16 = true := hd 16 (by simp [need1])
      have h19 : l 19 = true := hd 19 (by simp [need1])
      rw [h16, h19, hi] at hI
      replace hK : ∀ a' w', I1 w0 gx gy gz a0 a1 b0_ b1_ c0 c1 x0 x1 y0 y1 z0 z1 px0 px1 py0 py1 pz0 pz1 k (l 0) (l 1) (l 2) (l 3) (l 4) (l 5) (l 6) (l 7) (l 8) (l 9) (l 10) (l 11) (l 12) (l 13) (l 14) (l 15) true (l 17) (l 18) true true (l 21) (l 22) (l 23) (l 24) (l 25) (l 26) a' w' → K a' w' := fun a' w' h => hK a' w' (by
        show I1 w0 gx gy gz a0 a1 b0_ b1_ c0 c1 x0 x1 y0 y1 z0 z1 px0 px1 py0 py1 pz0 pz1 k (l 0) (l 1) (l 2) (l 3) (l 4) (l 5) (l 6) (l 7) (l 8) (l 9) (l 10) (l 11) (l 12) (l 13) (l 14) (l 15) (l 16) (l 17) (l 18) (l 19) true (l 21) (l 22) (l 23) (l 24) (l 25) (l 26) a' w'
        rw [h16, h19]; exact h)
      clear hd hi h16 h19
      generalize l 0 = b0 at hI hK
      generalize l 1 = b1 at hI hK
      generalize l 2 = b2 at hI hK
      generalize l 3 = b3 at hI hK
      generalize l 4 = b4 at hI hK
      generalize l 5 = b5 at hI hK
      generalize l 6 = b6 at hI hK
      generalize l 7 = b7 at hI hK
      generalize l 8 = b8 at hI hK
      generalize l 9 = b9 at hI hK
      generalize l 10 = b10 at hI hK
      generalize l 11 = b11 at hI hK
      generalize l 12 = b12 at hI hK
      generalize l 13 = b13 at hI hK
      generalize l 14 = b14 at hI hK
      generalize l 15 = b15 at hI hK
      generalize l 17 = b17 at hI hK
      generalize l 18 = b18 at hI hK
      generalize l 21 = b21 at hI hK
      generalize l 22 = b22 at hI hK
      generalize l 23 = b23 at hI hK
      generalize l 24 = b24 at hI hK
      generalize l 25 = b25 at hI hK
      generalize l 26 = b26 at hI hK
      clear l
      obtain ⟨g, hW, rfl⟩ := hI
      simp only [sel_true]
      go_simp
      refine (Oz.out _).mono ?_
      rintro e w1 ⟨rfl, hb⟩
      exact hK _ _ ⟨g, hW.call hb, rfl⟩
    refine Dag.Steps.cons rfl (fun l a W hI hi hd K hK => ?_) ?_
    · change I1 w0 gx gy gz a0 a1 b0_ b1_ c0 c1 x0 x1 y0 y1 z0 z1 px0 px1 py0 py1 pz0 pz1 k (l 0) (l 1) (l 2) (l 3) (l 4) (l 5) (l 6) (l 7) (l 8) (l 9) (l 10) (l 11) (l 12) (l 13) (l 14) (l 15) (l 16) (l 17) (l 18) (l 19) (l 20) (l 21) (l 22) (l 23) (l 24) (l 25) (l 26) a W at hI
      rw [hi] at hI
      replace hK : ∀ a' w', I1 w0 gx gy gz a0 a1 b0_ b1_ c0 c1 x0 x1 y0 y1 z0 z1 px0 px1 py0 py1 pz0 pz1 k (l 0) (l 1) (l 2) (l 3) (l 4) (l 5) (l 6) (l 7) (l 8) (l 9) (l 10) (l 11) (l 12) (l 13) (l 14) (l 15) (l 16) (l 17) (l 18) (l 19) (l 20) true (l 22) (l 23) (l 24) (l 25) (l 26) a' w' → K a' w' := fun a' w' h => hK a' w' (by
        exact h)
      clear hd hi 
      generalize l 0 = b0 at hI hK
      generalize l 1 = b1 at hI hK
      generalize l 2 = b2 at hI hK
      generalize l 3 = b3 at hI hK
      generalize l 4 = b4 at hI hK
      generalize l 5 = b5 at hI hK
      generalize l 6 = b6 at hI hK
      generalize l 7 = b7 at hI hK
      generalize l 8 = b8 at hI hK
      generalize l 9 = b9 at hI hK
      generalize l 10 = b10 at hI hK
      generalize l 11 = b11 at hI hK
      generalize l 12 = b12 at hI hK
      generalize l 13 = b13 at hI hK
      generalize l 14 = b14 at hI hK
      generalize l 15 = b15 at hI hK
      generalize l 16 = b16 at hI hK
      generalize l 17 = b17 at hI hK
      generalize l 18 = b18 at hI hK
      generalize l 19 = b19 at hI hK
      generalize l 20 = b20 at hI hK
      generalize l 22 = b22 at hI hK
      generalize l 23 = b23 at hI hK
      generalize l 24 = b24 at hI hK
      generalize l 25 = b25 at hI hK
      generalize l 26 = b26 at hI hK
      clear l
      obtain ⟨g, hW, rfl⟩ := hI
      simp only [sel_true]
      go_simp
      exact hK _ _ ⟨_, (hW.alloc 0 (by omega) rfl).congr (fun j hj => by (obtain rfl | rfl | rfl : j = 0 ∨ j = 1 ∨ j = 2 := by omega) <;> rfl) (fun j hj => by (obtain rfl | rfl | rfl : j = 0 ∨ j = 1 ∨ j = 2 := by omega) <;> rfl), rfl⟩
    refine Dag.Steps.cons rfl (fun l a W hI hi hd K hK => ?_) ?_
    · change I1 w0 gx gy gz a0 a1 b0_ b1_ c0 c1 x0 x1 y0 y1 z0 z1 px0 px1 py0 py1 pz0 pz1 k (l 0) (l 1) (l 2) (l 3) (l 4) (l 5) (l 6) (l 7) (l 8) (l 9) (l 10) (l 11) (l 12) (l 13) (l 14) (l 15) (l 16) (l 17) (l 18) (l 19) (l 20) (l 21) (l 22) (l 23) (l 24) (l 25) (l 26) a W at hI
      rw [hi] at hI
      replace hK : ∀ a' w', I1 w0 gx gy gz a0 a1 b0_ b1_ c0 c1 x0 x1 y0 y1 z0 z1 px0 px1 py0 py1 pz0 pz1 k (l 0) (l 1) (l 2) (l 3) (l 4) (l 5) (l 6) (l 7) (l 8) (l 9) (l 10) (l 11) (l 12) (l 13) (l 14) (l 15) (l 16) (l 17) (l 18) (l 19) (l 20) (l 21) true (l 23) (l 24) (l 25) (l 26) a' w' → K a' w' := fun a' w' h => hK a' w' (by
        exact h)
      clear hd hi 
      generalize l 0 = b0 at hI hK
      generalize l 1 = b1 at hI hK
      generalize l 2 = b2 at hI hK
      generalize l 3 = b3 at hI hK
      generalize l 4 = b4 at hI hK
      generalize l 5 = b5 at hI hK
      generalize l 6 = b6 at hI hK
      generalize l 7 = b7 at hI hK
      generalize l 8 = b8 at hI hK
      generalize l 9 = b9 at hI hK
      generalize l 10 = b10 at hI hK
      generalize l 11 = b11 at hI hK
      generalize l 12 = b12 at hI hK
      generalize l 13 = b13 at hI hK
      generalize l 14 = b14 at hI hK
      generalize l 15 = b15 at hI hK
      generalize l 16 = b16 at hI hK
      generalize l 17 = b17 at hI hK
      generalize l 18 = b18 at hI hK
      generalize l 19 = b19 at hI hK
      generalize l 20 = b20 at hI hK
      generalize l 21 = b21 at hI hK
      generalize l 23 = b23 at hI hK
      generalize l 24 = b24 at hI hK
      generalize l 25 = b25 at hI hK
      generalize l 26 = b26 at hI hK
      clear l
      obtain ⟨g, hW, rfl⟩ := hI
      simp only [sel_true]
      go_simp
      exact hK _ _ ⟨_, (hW.alloc 1 (by omega) rfl).congr (fun j hj => by (obtain rfl | rfl | rfl : j = 0 ∨ j = 1 ∨ j = 2 := by omega) <;> rfl) (fun j hj => by (obtain rfl | rfl | rfl : j = 0 ∨ j = 1 ∨ j = 2 := by omega) <;> rfl), rfl⟩
    refine Dag.Steps.cons rfl (fun l a W hI hi hd K hK => ?_) ?_
    · change I1 w0 gx gy gz a0 a1 b0_ b1_ c0 c1 x0 x1 y0 y1 z0 z1 px0 px1 py0 py1 pz0 pz1 k (l 0) (l 1) (l 2) (l 3) (l 4) (l 5) (l 6) (l 7) (l 8) (l 9) (l 10) (l 11) (l 12) (l 13) (l 14) (l 15) (l 16) (l 17) (l 18) (l 19) (l 20) (l 21) (l 22) (l 23) (l 24) (l 25) (l 26) a W at hI
      rw [hi] at hI
      replace hK : ∀ a' w', I1 w0 gx gy gz a0 a1 b0_ b1_ c0 c1 x0 x1 y0 y1 z0 z1 px0 px1 py0 py1 pz0 pz1 k (l 0) (l 1) (l 2) (l 3) (l 4) (l 5) (l 6) (l 7) (l 8) (l 9) (l 10) (l 11) (l 12) (l 13) (l 14) (l 15) (l 16) (l 17) (l 18) (l 19) (l 20) (l 21) (l 22) true (l 24) (l 25) (l 26) a' w' → K a' w' := fun a' w' h => hK a' w' (by
        exact h)
      clear hd hi 
      generalize l 0 = b0 at hI hK
      generalize l 1 = b1 at hI hK
      generalize l 2 = b2 at hI hK
      generalize l 3 = b3 at hI hK
      generalize l 4 = b4 at hI hK
      generalize l 5 = b5 at hI hK
      generalize l 6 = b6 at hI hK
      generalize l 7 = b7 at hI hK
      generalize l 8 = b8 at hI hK
      generalize l 9 = b9 at hI hK
      generalize l 10 = b10 at hI hK
      generalize l 11 = b11 at hI hK
      generalize l 12 = b12 at hI hK
      generalize l 13 = b13 at hI hK
      generalize l 14 = b14 at hI hK
      generalize l 15 = b15 at hI hK
      generalize l 16 = b16 at hI hK
      generalize l 17 = b17 at hI hK
      generalize l 18 = b18 at hI hK
      generalize l 19 = b19 at hI hK
      generalize l 20 = b20 at hI hK
      generalize l 21 = b21 at hI hK
      generalize l 22 = b22 at hI hK
      generalize l 24 = b24 at hI hK
      generalize l 25 = b25 at hI hK
      generalize l 26 = b26 at hI hK
      clear l
      obtain ⟨g, hW, rfl⟩ := hI
      simp only [sel_true]
      go_simp
      exact hK _ _ ⟨_, (hW.alloc 2 (by omega) rfl).congr (fun j hj => by (obtain rfl | rfl | rfl : j = 0 ∨ j = 1 ∨ j = 2 := by omega) <;> rfl) (fun j hj => by (obtain rfl | rfl | rfl : j = 0 ∨ j = 1 ∨ j = 2 := by omega) <;> rfl), rfl⟩
    refine Dag.Steps.cons rfl (fun l a W hI hi hd K hK => ?_) ?_
    · change I1 w0 gx gy gz a0 a1 b0_ b1_ c0 c1 x0 x1 y0 y1 z0 z1 px0 px1 py0 py1 pz0 pz1 k (l 0) (l 1) (l 2) (l 3) (l 4) (l 5) (l 6) (l 7) (l 8) (l 9) (l 10) (l 11) (l 12) (l 13) (l 14) (l 15) (l 16) (l 17) (l 18) (l 19) (l 20) (l 21) (l 22) (l 23) (l 24) (l 25) (l 26) a W at hI
      have h21 : l 21 = true := hd 21 (by simp [need1])
      have h6 : l 6 = true := hd 6 (by simp [need1])
      have h22 : l 22 = true := hd 22 (by simp [need1])
      have h23 : l 23 = true := hd 23 (by simp [need1])
      rw [h21, h6, h22, h23, hi] at hI
      replace hK : ∀ a' w', I1 w0 gx gy gz a0 a1 b0_ b1_ c0 c1 x0 x1 y0 y1 z0 z1 px0 px1 py0 py1 pz0 pz1 k (l 0) (l 1) (l 2) (l 3) (l 4) (l 5) true (l 7) (l 8) (l 9) (l 10) (l 11) (l 12) (l 13) (l 14) (l 15) (l 16) (l 17) (l 18) (l 19) (l 20) true true true true (l 25) (l 26) a' w' → K a' w' := fun a' w' h => hK a' w' (by
        show I1 w0 gx gy gz a0 a1 b0_ b1_ c0 c1 x0 x1 y0 y1 z0 z1 px0 px1 py0 py1 pz0 pz1 k (l 0) (l 1) (l 2) (l 3) (l 4) (l 5) (l 6) (l 7) (l 8) (l 9) (l 10) (l 11) (l 12) (l 13) (l 14) (l 15) (l 16) (l 17) (l 18) (l 19) (l 20) (l 21) (l 22) (l 23) true (l 25) (l 26) a' w'
        rw [h21, h6, h22, h23]; exact h)
      clear hd hi h21 h6 h22 h23
      generalize l 0 = b0 at hI hK
      generalize l 1 = b1 at hI hK
      generalize l 2 = b2 at hI hK
      generalize l 3 = b3 at hI hK
      generalize l 4 = b4 at hI hK
      generalize l 5 = b5 at hI hK
      generalize l 7 = b7 at hI hK
      generalize l 8 = b8 at hI hK
      generalize l 9 = b9 at hI hK
      generalize l 10 = b10 at hI hK
      generalize l 11 = b11 at hI hK
      generalize l 12 = b12 at hI hK
      generalize l 13 = b13 at hI hK
      generalize l 14 = b14 at hI hK
      generalize l 15 = b15 at hI hK
      generalize l 16 = b16 at hI hK
      generalize l 17 = b17 at hI hK
      generalize l 18 = b18 at hI hK
      generalize l 19 = b19 at hI hK
      generalize l 20 = b20 at hI hK
      generalize l 25 = b25 at hI hK
      generalize l 26 = b26 at hI hK
      clear l
      obtain ⟨g, hW, rfl⟩ := hI
      simp only [sel_true]
      have hbx := (hW.box 0 (by omega) rfl).2
      obtain ⟨c0, c1, f0, f1, _⟩ := hbx
      go_simp
      exact hK _ _ ⟨g, (hW.store 0 (by omega) rfl).congr (fun j hj => by (obtain rfl | rfl | rfl : j = 0 ∨ j = 1 ∨ j = 2 := by omega) <;> rfl) (fun j hj => by (obtain rfl | rfl | rfl : j = 0 ∨ j = 1 ∨ j = 2 := by omega) <;> rfl), rfl⟩
    refine Dag.Steps.cons rfl (fun l a W hI hi hd K hK => ?_) ?_
    · change I1 w0 gx gy gz a0 a1 b0_ b1_ c0 c1 x0 x1 y0 y1 z0 z1 px0 px1 py0 py1 pz0 pz1 k (l 0) (l 1) (l 2) (l 3) (l 4) (l 5) (l 6) (l 7) (l 8) (l 9) (l 10) (l 11) (l 12) (l 13) (l 14) (l 15) (l 16) (l 17) (l 18) (l 19) (l 20) (l 21) (l 22) (l 23) (l 24) (l 25) (l 26) a W at hI
      have h22 : l 22 = true := hd 22 (by simp [need1])
      have h13 : l 13 = true := hd 13 (by simp [need1])
      have h21 : l 21 = true := hd 21 (by simp [need1])
      have h23 : l 23 = true := hd 23 (by simp [need1])
      rw [h22, h13, h21, h23, hi] at hI
      replace hK : ∀ a' w', I1 w0 gx gy gz a0 a1 b0_ b1_ c0 c1 x0 x1 y0 y1 z0 z1 px0 px1 py0 py1 pz0 pz1 k (l 0) (l 1) (l 2) (l 3) (l 4) (l 5) (l 6) (l 7) (l 8) (l 9) (l 10) (l 11) (l 12) true (l 14) (l 15) (l 16) (l 17) (l 18) (l 19) (l 20) true true true (l 24) true (l 26) a' w' → K a' w' := fun a' w' h => hK a' w' (by
        show I1 w0 gx gy gz a0 a1 b0_ b1_ c0 c1 x0 x1 y0 y1 z0 z1 px0 px1 py0 py1 pz0 pz1 k (l 0) (l 1) (l 2) (l 3) (l 4) (l 5) (l 6) (l 7) (l 8) (l 9) (l 10) (l 11) (l 12) (l 13) (l 14) (l 15) (l 16) (l 17) (l 18) (l 19) (l 20) (l 21) (l 22) (l 23) (l 24) true (l 26) a' w'
        rw [h22, h13, h21, h23]; exact h)
      clear hd hi h22 h13 h21 h23
      generalize l 0 = b0 at hI hK
      generalize l 1 = b1 at hI hK
      generalize l 2 = b2 at hI hK
      generalize l 3 = b3 at hI hK
      generalize l 4 = b4 at hI hK
      generalize l 5 = b5 at hI hK
      generalize l 6 = b6 at hI hK
      generalize l 7 = b7 at hI hK
      generalize l 8 = b8 at hI hK
      generalize l 9 = b9 at hI hK
      generalize l 10 = b10 at hI hK
      generalize l 11 = b11 at hI hK
      generalize l 12 = b12 at hI hK
      generalize l 14 = b14 at hI hK
      generalize l 15 = b15 at hI hK
      generalize l 16 = b16 at hI hK
      generalize l 17 = b17 at hI hK
      generalize l 18 = b18 at hI hK
      generalize l 19 = b19 at hI hK
      generalize l 20 = b20 at hI hK
      generalize l 24 = b24 at hI hK
      generalize l 26 = b26 at hI hK
      clear l
      obtain ⟨g, hW, rfl⟩ := hI
      simp only [sel_true]
      have hbx := (hW.box 1 (by omega) rfl).2
      obtain ⟨c0, c1, f0, f1, _⟩ := hbx
      go_simp
      exact hK _ _ ⟨g, (hW.store 1 (by omega) rfl).congr (fun j hj => by (obtain rfl | rfl | rfl : j = 0 ∨ j = 1 ∨ j = 2 := by omega) <;> rfl) (fun j hj => by (obtain rfl | rfl | rfl : j = 0 ∨ j = 1 ∨ j = 2 := by omega) <;> rfl), rfl⟩
    refine Dag.Steps.cons rfl (fun l a W hI hi hd K hK => ?_) ?_
    · change I1 w0 gx gy gz a0 a1 b0_ b1_ c0 c1 x0 x1 y0 y1 z0 z1 px0 px1 py0 py1 pz0 pz1 k (l 0) (l 1) (l 2) (l 3) (l 4) (l 5) (l 6) (l 7) (l 8) (l 9) (l 10) (l 11) (l 12) (l 13) (l 14) (l 15) (l 16) (l 17) (l 18) (l 19) (l 20) (l 21) (l 22) (l 23) (l 24) (l 25) (l 26) a W at hI
      have h23 : l 23 = true := hd 23 (by simp [need1])
      have h20 : l 20 = true := hd 20 (by simp [need1])
      have h21 : l 21 = true := hd 21 (by simp [need1])
      have h22 : l 22 = true := hd 22 (by simp [need1])
      rw [h23, h20, h21, h22, hi] at hI
      replace hK : ∀ a' w', I1 w0 gx gy gz a0 a1 b0_ b1_ c0 c1 x0 x1 y0 y1 z0 z1 px0 px1 py0 py1 pz0 pz1 k (l 0) (l 1) (l 2) (l 3) (l 4) (l 5) (l 6) (l 7) (l 8) (l 9) (l 10) (l 11) (l 12) (l 13) (l 14) (l 15) (l 16) (l 17) (l 18) (l 19) true true true true (l 24) (l 25) true a' w' → K a' w' := fun a' w' h => hK a' w' (by
        show I1 w0 gx gy gz a0 a1 b0_ b1_ c0 c1 x0 x1 y0 y1 z0 z1 px0 px1 py0 py1 pz0 pz1 k (l 0) (l 1) (l 2) (l 3) (l 4) (l 5) (l 6) (l 7) (l 8) (l 9) (l 10) (l 11) (l 12) (l 13) (l 14) (l 15) (l 16) (l 17) (l 18) (l 19) (l 20) (l 21) (l 22) (l 23) (l 24) (l 25) true a' w'
        rw [h23, h20, h21, h22]; exact h)
      clear hd hi h23 h20 h21 h22
      generalize l 0 = b0 at hI hK
      generalize l 1 = b1 at hI hK
      generalize l 2 = b2 at hI hK
      generalize l 3 = b3 at hI hK
      generalize l 4 = b4 at hI hK
      generalize l 5 = b5 at hI hK
      generalize l 6 = b6 at hI hK
      generalize l 7 = b7 at hI hK
      generalize l 8 = b8 at hI hK
      generalize l 9 = b9 at hI hK
      generalize l 10 = b10 at hI hK
      generalize l 11 = b11 at hI hK
      generalize l 12 = b12 at hI hK
      generalize l 13 = b13 at hI hK
      generalize l 14 = b14 at hI hK
      generalize l 15 = b15 at hI hK
      generalize l 16 = b16 at hI hK
      generalize l 17 = b17 at hI hK
      generalize l 18 = b18 at hI hK
      generalize l 19 = b19 at hI hK
      generalize l 24 = b24 at hI hK
      generalize l 25 = b25 at hI hK
      clear l
      obtain ⟨g, hW, rfl⟩ := hI
      simp only [sel_true]
      have hbx := (hW.box 2 (by omega) rfl).2
      obtain ⟨c0, c1, f0, f1, _⟩ := hbx
      go_simp
      exact hK _ _ ⟨g, (hW.store 2 (by omega) rfl).congr (fun j hj => by (obtain rfl | rfl | rfl : j = 0 ∨ j = 1 ∨ j = 2 := by omega) <;> rfl) (fun j hj => by (obtain rfl | rfl | rfl : j = 0 ∨ j = 1 ∨ j = 2 := by omega) <;> rfl), rfl⟩
    exact Dag.Steps.nil rfl
  case hd =>
    intro l a W hI hall
    change I1 w0 gx gy gz a0 a1 b0_ b1_ c0 c1 x0 x1 y0 y1 z0 z1 px0 px1 py0 py1 pz0 pz1 k (l 0) (l 1) (l 2) (l 3) (l 4) (l 5) (l 6) (l 7) (l 8) (l 9) (l 10) (l 11) (l 12) (l 13) (l 14) (l 15) (l 16) (l 17) (l 18) (l 19) (l 20) (l 21) (l 22) (l 23) (l 24) (l 25) (l 26) a W at hI
    rw [hall 0 (by decide), hall 1 (by decide), hall 2 (by decide), hall 3 (by decide), hall 4 (by decide), hall 5 (by decide), hall 6 (by decide), hall 7 (by decide), hall 8 (by decide), hall 9 (by decide), hall 10 (by decide), hall 11 (by decide), hall 12 (by decide), hall 13 (by decide), hall 14 (by decide), hall 15 (by decide), hall 16 (by decide), hall 17 (by decide), hall 18 (by decide), hall 19 (by decide), hall 20 (by decide), hall 21 (by decide), hall 22 (by decide), hall 23 (by decide), hall 24 (by decide), hall 25 (by decide), hall 26 (by decide)] at hI
    clear hall
    obtain ⟨g, hW, rfl⟩ := hI
    simp only [sel_true]
    have G0 : Box2 W (g 0) (.int .u32 a0) (.int .u32 a1) := (hW.box 0 (by omega) rfl).2
    have G1 : Box2 W (g 1) (.int .u32 b0_) (.int .u32 b1_) := (hW.box 1 (by omega) rfl).2
    have G2 : Box2 W (g 2) (.int .u32 c0) (.int .u32 c1) := (hW.box 2 (by omega) rfl).2
    have hbW := hW.bl
    clear hW l
    generalize g 0 = g0 at *
    generalize g 1 = g1 at *
    generalize g 2 = g2 at *
    clear g
    have X' := X.out.below (show Below w0.heap.size w0 W from hbW) X.out.lt
    have Y' := Y.out.below (show Below w0.heap.size w0 W from hbW) Y.out.lt
    obtain ⟨v0, v1, _, _, _⟩ := X'
    obtain ⟨v2, v3, _, _, _⟩ := Y'
    replace hbW := Lib.hid (HW.out.trans hbW)
    replace G0 := Lib.hid G0; replace G1 := Lib.hid G1; replace G2 := Lib.hid G2
    clear X Y Z HW
    go_wp2_with fail
    go_quiet (first | exact quiet_w (Cx0.out _) | exact quiet_w (Cx1.out _) | exact quiet_w (Cy0.out _) | exact quiet_w (Cy1.out _))
    have HS' := HS
    go_wp2_with (go_at_call 39; (with_reducible refine (Ot.out _).mono ?_); rintro e w3 ⟨rfl, hb3⟩)
    clear v0 v1 v2 v3 HS' HS
    have q3 : Bl W (w3.alloc (.cells #[.int .u32 tw0, .int .u32 tw1] 32)) := ((Bl.drewN (Bl.refl W) _).call hb3).alloc _
    have GT : Box2 (w3.alloc (.cells #[.int .u32 tw0, .int .u32 tw1] 32)) w3.heap.size (.int .u32 tw0) (.int .u32 tw1) := Box2.new w3 _ _ 32 _ rfl
    replace G0 := G0.out.below (show Below W.heap.size W _ from q3) G0.out.lt
    replace G1 := G1.out.below (show Below W.heap.size W _ from q3) G1.out.lt
    replace G2 := G2.out.below (show Below W.heap.size W _ from q3) G2.out.lt
    replace hbW := hbW.out.trans q3
    clear hb3 q3
    generalize w3.alloc (.cells #[.int .u32 tw0, .int .u32 tw1] 32) = w5 at *
    generalize w3.heap.size = gt at *
    replace hbW := Lib.hid hbW
    replace G0 := Lib.hid G0; replace G1 := Lib.hid G1; replace G2 := Lib.hid G2; replace GT := Lib.hid GT
    skip
    refine Dag.wp_region_dag (by kernel_rfl) need2 (fun l a W => I2 w5 gx gy gz g0 g1 g2 gt a0 a1 b0_ b1_ c0 c1 tw0 tw1 ac m0 m1 x0 x1 y0 y1 z0 z1 px0 px1 py0 py1 pz0 pz1 k t (l 0) (l 1) (l 2) (l 3) (l 4) (l 5) a W) (by kernel_rfl) (by kernel_rfl) ?h02 ?hs2 ?hd2
    case h02 =>
      have hf : ∀ j, j < 3 → t3 false false false j = false := fun j hj => by (obtain rfl | rfl | rfl : j = 0 ∨ j = 1 ∨ j = 2 := by omega) <;> rfl
      exact ⟨fun _ => 0, ⟨Bl.drewN (Bl.refl w5) 1, fun j hj h => (by rw [hf j hj] at h; cases h), fun i j hi hj hn h => (by rw [hf i hi] at h; cases h), fun j hj h => (by rw [hf j hj] at h; cases h)⟩, rfl⟩
    case hs2 =>
      refine Dag.Steps.cons rfl (fun l a W hI hi hd K hK => ?_) ?_
      · change I2 w5 gx gy gz g0 g1 g2 gt a0 a1 b0_ b1_ c0 c1 tw0 tw1 ac m0 m1 x0 x1 y0 y1 z0 z1 px0 px1 py0 py1 pz0 pz1 k t (l 0) (l 1) (l 2) (l 3) (l 4) (l 5) a W at hI
        rw [hi] at hI
        replace hK : ∀ a' w', I2 w5 gx gy gz g0 g1 g2 gt a0 a1 b0_ b1_ c0 c1 tw0 tw1 ac m0 m1 x0 x1 y0 y1 z0 z1 px0 px1 py0 py1 pz0 pz1 k t true (l 1) (l 2) (l 3) (l 4) (l 5) a' w' → K a' w' := fun a' w' h => hK a' w' (by
          exact h)
        clear hd hi 
        generalize l 1 = b1 at hI hK
        generalize l 2 = b2 at hI hK
        generalize l 3 = b3 at hI hK
        generalize l 4 = b4 at hI hK
        generalize l 5 = b5 at hI hK
        clear l
        obtain ⟨g, hW, rfl⟩ := hI
        simp only [sel_true]
        obtain ⟨c0, c1, f0, f1, _⟩ := G0.out.below (show Below w5.heap.size w5 W from hW.bl) G0.out.lt
        go_simp
        exact hK _ _ ⟨g, hW, rfl⟩
      refine Dag.Steps.cons rfl (fun l a W hI hi hd K hK => ?_) ?_
      · change I2 w5 gx gy gz g0 g1 g2 gt a0 a1 b0_ b1_ c0 c1 tw0 tw1 ac m0 m1 x0 x1 y0 y1 z0 z1 px0 px1 py0 py1 pz0 pz1 k t (l 0) (l 1) (l 2) (l 3) (l 4) (l 5) a W at hI
        rw [hi] at hI
        replace hK : ∀ a' w', I2 w5 gx gy gz g0 g1 g2 gt a0 a1 b0_ b1_ c0 c1 tw0 tw1 ac m0 m1 x0 x1 y0 y1 z0 z1 px0 px1 py0 py1 pz0 pz1 k t (l 0) true (l 2) (l 3) (l 4) (l 5) a' w' → K a' w' := fun a' w' h => hK a' w' (by
          exact h)
        clear hd hi 
        generalize l 0 = b0 at hI hK
        generalize l 2 = b2 at hI hK
        generalize l 3 = b3 at hI hK
        generalize l 4 = b4 at hI hK
        generalize l 5 = b5 at hI hK
        clear l
        obtain ⟨g, hW, rfl⟩ := hI
        simp only [sel_true]
        obtain ⟨c0, c1, f0, f1, _⟩ := G0.out.below (show Below w5.heap.size w5 W from hW.bl) G0.out.lt
        go_simp
        exact hK _ _ ⟨g, hW, rfl⟩
      refine Dag.Steps.cons rfl (fun l a W hI hi hd K hK => ?_) ?_
      · change I2 w5 gx gy gz g0 g1 g2 gt a0 a1 b0_ b1_ c0 c1 tw0 tw1 ac m0 m1 x0 x1 y0 y1 z0 z1 px0 px1 py0 py1 pz0 pz1 k t (l 0) (l 1) (l 2) (l 3) (l 4) (l 5) a W at hI
        have h1 : l 1 = true := hd 1 (by simp [need2])
        rw [h1, hi] at hI
        replace hK : ∀ a' w', I2 w5 gx gy gz g0 g1 g2 gt a0 a1 b0_ b1_ c0 c1 tw0 tw1 ac m0 m1 x0 x1 y0 y1 z0 z1 px0 px1 py0 py1 pz0 pz1 k t (l 0) true true (l 3) (l 4) (l 5) a' w' → K a' w' := fun a' w' h => hK a' w' (by
          show I2 w5 gx gy gz g0 g1 g2 gt a0 a1 b0_ b1_ c0 c1 tw0 tw1 ac m0 m1 x0 x1 y0 y1 z0 z1 px0 px1 py0 py1 pz0 pz1 k t (l 0) (l 1) true (l 3) (l 4) (l 5) a' w'
          rw [h1]; exact h)
        clear hd hi h1
        generalize l 0 = b0 at hI hK
        generalize l 3 = b3 at hI hK
        generalize l 4 = b4 at hI hK
        generalize l 5 = b5 at hI hK
        clear l
        obtain ⟨g, hW, rfl⟩ := hI
        simp only [sel_true]
        go_simp
        refine (CJ.out _).mono ?_
        rintro e w1 ⟨rfl, hb⟩
        exact hK _ _ ⟨g, hW.call hb, rfl⟩
      refine Dag.Steps.cons rfl (fun l a W hI hi hd K hK => ?_) ?_
      · change I2 w5 gx gy gz g0 g1 g2 gt a0 a1 b0_ b1_ c0 c1 tw0 tw1 ac m0 m1 x0 x1 y0 y1 z0 z1 px0 px1 py0 py1 pz0 pz1 k t (l 0) (l 1) (l 2) (l 3) (l 4) (l 5) a W at hI
        have h0 : l 0 = true := hd 0 (by simp [need2])
        have h2 : l 2 = true := hd 2 (by simp [need2])
        rw [h0, h2, hi] at hI
        replace hK : ∀ a' w', I2 w5 gx gy gz g0 g1 g2 gt a0 a1 b0_ b1_ c0 c1 tw0 tw1 ac m0 m1 x0 x1 y0 y1 z0 z1 px0 px1 py0 py1 pz0 pz1 k t true (l 1) true true (l 4) (l 5) a' w' → K a' w' := fun a' w' h => hK a' w' (by
          show I2 w5 gx gy gz g0 g1 g2 gt a0 a1 b0_ b1_ c0 c1 tw0 tw1 ac m0 m1 x0 x1 y0 y1 z0 z1 px0 px1 py0 py1 pz0 pz1 k t (l 0) (l 1) (l 2) true (l 4) (l 5) a' w'
          rw [h0, h2]; exact h)
        clear hd hi h0 h2
        generalize l 1 = b1 at hI hK
        generalize l 4 = b4 at hI hK
        generalize l 5 = b5 at hI hK
        clear l
        obtain ⟨g, hW, rfl⟩ := hI
        simp only [sel_true]
        go_simp
        refine (CM.out _).mono ?_
        rintro e w1 ⟨rfl, hb⟩
        exact hK _ _ ⟨g, hW.call hb, rfl⟩
      refine Dag.Steps.cons rfl (fun l a W hI hi hd K hK => ?_) ?_
      · change I2 w5 gx gy gz g0 g1 g2 gt a0 a1 b0_ b1_ c0 c1 tw0 tw1 ac m0 m1 x0 x1 y0 y1 z0 z1 px0 px1 py0 py1 pz0 pz1 k t (l 0) (l 1) (l 2) (l 3) (l 4) (l 5) a W at hI
        rw [hi] at hI
        replace hK : ∀ a' w', I2 w5 gx gy gz g0 g1 g2 gt a0 a1 b0_ b1_ c0 c1 tw0 tw1 ac m0 m1 x0 x1 y0 y1 z0 z1 px0 px1 py0 py1 pz0 pz1 k t (l 0) (l 1) (l 2) (l 3) true (l 5) a' w' → K a' w' := fun a' w' h => hK a' w' (by
          exact h)
        clear hd hi 
        generalize l 0 = b0 at hI hK
        generalize l 1 = b1 at hI hK
        generalize l 2 = b2 at hI hK
        generalize l 3 = b3 at hI hK
        generalize l 5 = b5 at hI hK
        clear l
        obtain ⟨g, hW, rfl⟩ := hI
        simp only [sel_true]
        go_simp
        exact hK _ _ ⟨_, (hW.alloc 0 (by omega) rfl).congr (fun j hj => by (obtain rfl | rfl | rfl : j = 0 ∨ j = 1 ∨ j = 2 := by omega) <;> rfl) (fun j hj => by (obtain rfl | rfl | rfl : j = 0 ∨ j = 1 ∨ j = 2 := by omega) <;> rfl), rfl⟩
      refine Dag.Steps.cons rfl (fun l a W hI hi hd K hK => ?_) ?_
      · change I2 w5 gx gy gz g0 g1 g2 gt a0 a1 b0_ b1_ c0 c1 tw0 tw1 ac m0 m1 x0 x1 y0 y1 z0 z1 px0 px1 py0 py1 pz0 pz1 k t (l 0) (l 1) (l 2) (l 3) (l 4) (l 5) a W at hI
        have h4 : l 4 = true := hd 4 (by simp [need2])
        have h3 : l 3 = true := hd 3 (by simp [need2])
        rw [h4, h3, hi] at hI
        replace hK : ∀ a' w', I2 w5 gx gy gz g0 g1 g2 gt a0 a1 b0_ b1_ c0 c1 tw0 tw1 ac m0 m1 x0 x1 y0 y1 z0 z1 px0 px1 py0 py1 pz0 pz1 k t (l 0) (l 1) (l 2) true true true a' w' → K a' w' := fun a' w' h => hK a' w' (by
          show I2 w5 gx gy gz g0 g1 g2 gt a0 a1 b0_ b1_ c0 c1 tw0 tw1 ac m0 m1 x0 x1 y0 y1 z0 z1 px0 px1 py0 py1 pz0 pz1 k t (l 0) (l 1) (l 2) (l 3) (l 4) true a' w'
          rw [h4, h3]; exact h)
        clear hd hi h4 h3
        generalize l 0 = b0 at hI hK
        generalize l 1 = b1 at hI hK
        generalize l 2 = b2 at hI hK
        clear l
        obtain ⟨g, hW, rfl⟩ := hI
        simp only [sel_true]
        obtain ⟨c0, c1, f0, f1, _⟩ := (hW.box 0 (by omega) rfl).2
        go_simp
        exact hK _ _ ⟨g, (hW.store 0 (by omega) rfl).congr (fun j hj => by (obtain rfl | rfl | rfl : j = 0 ∨ j = 1 ∨ j = 2 := by omega) <;> rfl) (fun j hj => by (obtain rfl | rfl | rfl : j = 0 ∨ j = 1 ∨ j = 2 := by omega) <;> rfl), rfl⟩
      exact Dag.Steps.nil rfl
    case hd2 =>
      intro l a W hI hall
      change I2 w5 gx gy gz g0 g1 g2 gt a0 a1 b0_ b1_ c0 c1 tw0 tw1 ac m0 m1 x0 x1 y0 y1 z0 z1 px0 px1 py0 py1 pz0 pz1 k t (l 0) (l 1) (l 2) (l 3) (l 4) (l 5) a W at hI
      rw [hall 0 (by decide), hall 1 (by decide), hall 2 (by decide), hall 3 (by decide), hall 4 (by decide), hall 5 (by decide)] at hI
      clear hall
      obtain ⟨g, hW, rfl⟩ := hI
      simp only [sel_true]
      have GM : Box2 W (g 0) (.int .u32 m0) (.int .u32 m1) := (hW.box 0 (by omega) rfl).2
      have hb5 := hW.bl
      clear hW l
      generalize g 0 = gm at *
      clear g
      have HB : Hid (∀ w', Bl W w' → Box2 w' g0 (.int .u32 a0) (.int .u32 a1) ∧ Box2 w' g1 (.int .u32 b0_) (.int .u32 b1_) ∧ Box2 w' g2 (.int .u32 c0) (.int .u32 c1) ∧ Box2 w' gt (.int .u32 tw0) (.int .u32 tw1) ∧ Box2 w' gm (.int .u32 m0) (.int .u32 m1)) := Lib.hid fun w' h =>
        ⟨(G0.out.below (show Below w5.heap.size w5 W from hb5) G0.out.lt).call (h), (G1.out.below (show Below w5.heap.size w5 W from hb5) G1.out.lt).call (h), (G2.out.below (show Below w5.heap.size w5 W from hb5) G2.out.lt).call (h),
          (GT.out.below (show Below w5.heap.size w5 W from hb5) GT.out.lt).call (h), GM.call (h)⟩
      replace hbW := Lib.hid (hbW.out.trans hb5)
      obtain ⟨⟨v0, v1, _, _, _⟩, ⟨v2, v3, _, _, _⟩, ⟨v4, v5, _, _, _⟩, ⟨v6, v7, _, _, _⟩, ⟨v8, v9, _, _, _⟩⟩ := HB.out W (Bl.refl W)
      have hb7 := Bl.refl W
      obtain ⟨im0, wr0, wr1, wr2, wr3, wr4, wr5, wr6, wr7, wr8, wr9, wr10, wr11, wr12, _⟩ := HWR.out
      clear G0 G1 G2 GT GM hb5 HWR
      go_wp2_with (go_at_call 11; (with_reducible refine (bl_calls CP.out (by assumption)).mono ?_); rintro e w6 ⟨rfl, hb6⟩)
      replace HB : Hid (∀ w', Bl w6 w' → Box2 w' g0 (.int .u32 a0) (.int .u32 a1) ∧ Box2 w' g1 (.int .u32 b0_) (.int .u32 b1_) ∧ Box2 w' g2 (.int .u32 c0) (.int .u32 c1) ∧ Box2 w' gt (.int .u32 tw0) (.int .u32 tw1) ∧ Box2 w' gm (.int .u32 m0) (.int .u32 m1)) := Lib.hid fun w' h => HB.out w' (hb6.trans h)
      replace hbW := Lib.hid (hbW.out.trans hb6)
      have HWR := Lib.hid (And.intro im0 (And.intro wr0 (And.intro wr1 (And.intro wr2 (And.intro wr3 (And.intro wr4 (And.intro wr5 (And.intro wr6 (And.intro wr7 (And.intro wr8 (And.intro wr9 (And.intro wr10 (And.intro wr11 (And.intro wr12 trivial))))))))))))))
      clear v0 v1 v2 v3 v4 v5 v6 v7 v8 v9 hb7 hb6 im0 wr0 wr1 wr2 wr3 wr4 wr5 wr6 wr7 wr8 wr9 wr10 wr11 wr12
      refine Dag.wp_region_dag (by kernel_rfl) need6 (fun l a W => I6 w6 gx gy gz g0 g1 g2 gt gm a0 a1 b0_ b1_ c0 c1 tw0 tw1 ac m0 m1 s0 s1 u0 u1 d0 d1 e0 e1 f0 f1 h0 h1 i0 i1 j0 j1 k0 k1 l0 l1 n0 n1 o0 o1 q0 q1 r0 r1 t0 t1 x0 x1 y0 y1 z0 z1 px0 px1 py0 py1 pz0 pz1 k t (l 0) (l 1) (l 2) (l 3) (l 4) (l 5) (l 6) (l 7) (l 8) (l 9) (l 10) (l 11) (l 12) (l 13) (l 14) (l 15) (l 16) (l 17) (l 18) (l 19) (l 20) (l 21) (l 22) (l 23) (l 24) (l 25) (l 26) (l 27) (l 28) (l 29) (l 30) (l 31) (l 32) (l 33) (l 34) (l 35) (l 36) (l 37) (l 38) (l 39) (l 40) (l 41) (l 42) (l 43) (l 44) (l 45) (l 46) (l 47) (l 48) (l 49) (l 50) (l 51) (l 52) (l 53) (l 54) (l 55) (l 56) (l 57) (l 58) (l 59) (l 60) (l 61) (l 62) (l 63) (l 64) (l 65) (l 66) (l 67) (l 68) (l 69) (l 70) (l 71) (l 72) (l 73) (l 74) (l 75) (l 76) (l 77) (l 78) (l 79) (l 80) (l 81) (l 82) (l 83) (l 84) (l 85) (l 86) (l 87) (l 88) (l 89) (l 90) (l 91) (l 92) (l 93) (l 94) (l 95) (l 96) (l 97) (l 98) (l 99) (l 100) (l 101) a W) (by kernel_rfl) (by kernel_rfl) ?h06 ?hs6 ?hd6
      case h06 => exact ⟨Bl.drewN (Bl.refl w6) 1, rfl⟩
      case hs6 =>
        refine Dag.Steps.cons rfl (fun l a W hI hi hd K hK => ?_) ?_
        · skip
          simp only [hi] at hI
          simp only [upd_def, Nat.reduceBEq, Bool.false_or, Bool.true_or] at hK
          clear hd hi 
          obtain ⟨hW, rfl⟩ := hI
          simp only [sel_true]
          obtain ⟨c0, c1, _, _, _⟩ := (HB.out W hW).1
          go_simp
          exact hK _ _ ⟨hW, rfl⟩
        refine Dag.Steps.cons rfl (fun l a W hI hi hd K hK => ?_) ?_
        · skip
          simp only [hi] at hI
          simp only [upd_def, Nat.reduceBEq, Bool.false_or, Bool.true_or] at hK
          clear hd hi 
          obtain ⟨hW, rfl⟩ := hI
          simp only [sel_true]
          obtain ⟨c0, c1, _, _, _⟩ := (HB.out W hW).2.1
          go_simp
          exact hK _ _ ⟨hW, rfl⟩
        refine Dag.Steps.cons rfl (fun l a W hI hi hd K hK => ?_) ?_
        · have hh0 : l 0 = true := hd 0 (by simp [need6]); have hh1 : l 1 = true := hd 1 (by simp [need6]); skip
          simp only [hh0, hh1, hi] at hI
          simp only [upd_def, Nat.reduceBEq, Bool.false_or, Bool.true_or, hh0, hh1] at hK
          clear hd hi hh0 hh1
          obtain ⟨hW, rfl⟩ := hI
          simp only [sel_true]
          go_simp
          refine (bl_calls A1.out hW).mono ?_
          rintro e w7 ⟨rfl, hb⟩
          exact hK _ _ ⟨hb, rfl⟩
        refine Dag.Steps.cons rfl (fun l a W hI hi hd K hK => ?_) ?_
        · skip
          simp only [hi] at hI
          simp only [upd_def, Nat.reduceBEq, Bool.false_or, Bool.true_or] at hK
          clear hd hi 
          obtain ⟨hW, rfl⟩ := hI
          simp only [sel_true]
          go_simp
          exact hK _ _ ⟨hW, rfl⟩
        refine Dag.Steps.cons rfl (fun l a W hI hi hd K hK => ?_) ?_
        · skip
          simp only [hi] at hI
          simp only [upd_def, Nat.reduceBEq, Bool.false_or, Bool.true_or] at hK
          clear hd hi 
          obtain ⟨hW, rfl⟩ := hI
          simp only [sel_true]
          go_simp
          exact hK _ _ ⟨hW, rfl⟩
        refine Dag.Steps.cons rfl (fun l a W hI hi hd K hK => ?_) ?_
        · have hh3 : l 3 = true := hd 3 (by simp [need6]); have hh4 : l 4 = true := hd 4 (by simp [need6]); skip
          simp only [hh3, hh4, hi] at hI
          simp only [upd_def, Nat.reduceBEq, Bool.false_or, Bool.true_or, hh3, hh4] at hK
          clear hd hi hh3 hh4
          obtain ⟨hW, rfl⟩ := hI
          simp only [sel_true]
          obtain ⟨im0, wr0, wr1, wr2, wr3, wr4, wr5, wr6, wr7, wr8, wr9, wr10, wr11, wr12, _⟩ := HWR.out
          go_simp
          exact hK _ _ ⟨hW, rfl⟩
        refine Dag.Steps.cons rfl (fun l a W hI hi hd K hK => ?_) ?_
        · skip
          simp only [hi] at hI
          simp only [upd_def, Nat.reduceBEq, Bool.false_or, Bool.true_or] at hK
          clear hd hi 
          obtain ⟨hW, rfl⟩ := hI
          simp only [sel_true]
          go_simp
          exact hK _ _ ⟨hW, rfl⟩
        refine Dag.Steps.cons rfl (fun l a W hI hi hd K hK => ?_) ?_
        · skip
          simp only [hi] at hI
          simp only [upd_def, Nat.reduceBEq, Bool.false_or, Bool.true_or] at hK
          clear hd hi 
          obtain ⟨hW, rfl⟩ := hI
          simp only [sel_true]
          go_simp
          exact hK _ _ ⟨hW, rfl⟩
        refine Dag.Steps.cons rfl (fun l a W hI hi hd K hK => ?_) ?_
        · have hh6 : l 6 = true := hd 6 (by simp [need6]); have hh7 : l 7 = true := hd 7 (by simp [need6]); skip
          simp only [hh6, hh7, hi] at hI
          simp only [upd_def, Nat.reduceBEq, Bool.false_or, Bool.true_or, hh6, hh7] at hK
          clear hd hi hh6 hh7
          obtain ⟨hW, rfl⟩ := hI
          simp only [sel_true]
          obtain ⟨im0, wr0, wr1, wr2, wr3, wr4, wr5, wr6, wr7, wr8, wr9, wr10, wr11, wr12, _⟩ := HWR.out
          go_simp
          exact hK _ _ ⟨hW, rfl⟩
        refine Dag.Steps.cons rfl (fun l a W hI hi hd K hK => ?_) ?_
        · have hh2 : l 2 = true := hd 2 (by simp [need6]); have hh5 : l 5 = true := hd 5 (by simp [need6]); have hh8 : l 8 = true := hd 8 (by simp [need6]); skip
          simp only [hh2, hh5, hh8, hi] at hI
          simp only [upd_def, Nat.reduceBEq, Bool.false_or, Bool.true_or, hh2, hh5, hh8] at hK
          clear hd hi hh2 hh5 hh8
          obtain ⟨hW, rfl⟩ := hI
          simp only [sel_true]
          go_simp
          refine (bl_calls O1.out hW).mono ?_
          rintro e w7 ⟨rfl, hb⟩
          exact hK _ _ ⟨hb, rfl⟩
        refine Dag.Steps.cons rfl (fun l a W hI hi hd K hK => ?_) ?_
        · have hh2 : l 2 = true := hd 2 (by simp [need6]); have hh9 : l 9 = true := hd 9 (by simp [need6]); skip
          simp only [hh2, hh9, hi] at hI
          simp only [upd_def, Nat.reduceBEq, Bool.false_or, Bool.true_or, hh2, hh9] at hK
          clear hd hi hh2 hh9
          obtain ⟨hW, rfl⟩ := hI
          simp only [sel_true]
          go_simp
          refine (bl_calls E1.out hW).mono ?_
          rintro e w7 ⟨rfl, hb⟩
          exact hK _ _ ⟨hb, rfl⟩
        refine Dag.Steps.cons rfl (fun l a W hI hi hd K hK => ?_) ?_
        · have hh10 : l 10 = true := hd 10 (by simp [need6]); skip
          simp only [hh10, hi] at hI
          simp only [upd_def, Nat.reduceBEq, Bool.false_or, Bool.true_or, hh10] at hK
          clear hd hi hh10
          obtain ⟨hW, rfl⟩ := hI
          simp only [sel_true]
          go_simp
          exact hK _ _ ⟨hW, rfl⟩
        refine Dag.Steps.cons rfl (fun l a W hI hi hd K hK => ?_) ?_
        · have hh11 : l 11 = true := hd 11 (by simp [need6]); skip
          simp only [hh11, hi] at hI
          simp only [upd_def, Nat.reduceBEq, Bool.false_or, Bool.true_or, hh11] at hK
          clear hd hi hh11
          obtain ⟨hW, rfl⟩ := hI
          simp only [sel_true]
          obtain ⟨c0, c1, _, _, _⟩ := (HB.out W hW).1
          go_simp
          exact hK _ _ ⟨hW, rfl⟩
        refine Dag.Steps.cons rfl (fun l a W hI hi hd K hK => ?_) ?_
        · have hh11 : l 11 = true := hd 11 (by simp [need6]); skip
          simp only [hh11, hi] at hI
          simp only [upd_def, Nat.reduceBEq, Bool.false_or, Bool.true_or, hh11] at hK
          clear hd hi hh11
          obtain ⟨hW, rfl⟩ := hI
          simp only [sel_true]
          obtain ⟨c0, c1, _, _, _⟩ := (HB.out W hW).2.1
          go_simp
          exact hK _ _ ⟨hW, rfl⟩
        refine Dag.Steps.cons rfl (fun l a W hI hi hd K hK => ?_) ?_
        · have hh11 : l 11 = true := hd 11 (by simp [need6]); have hh12 : l 12 = true := hd 12 (by simp [need6]); have hh13 : l 13 = true := hd 13 (by simp [need6]); skip
          simp only [hh11, hh12, hh13, hi] at hI
          simp only [upd_def, Nat.reduceBEq, Bool.false_or, Bool.true_or, hh11, hh12, hh13] at hK
          clear hd hi hh11 hh12 hh13
          obtain ⟨hW, rfl⟩ := hI
          simp only [sel_true]
          go_simp
          refine (bl_calls S1.out hW).mono ?_
          rintro e w7 ⟨rfl, hb⟩
          exact hK _ _ ⟨hb, rfl⟩
        refine Dag.Steps.cons rfl (fun l a W hI hi hd K hK => ?_) ?_
        · have hh11 : l 11 = true := hd 11 (by simp [need6]); skip
          simp only [hh11, hi] at hI
          simp only [upd_def, Nat.reduceBEq, Bool.false_or, Bool.true_or, hh11] at hK
          clear hd hi hh11
          obtain ⟨hW, rfl⟩ := hI
          simp only [sel_true]
          go_simp
          exact hK _ _ ⟨hW, rfl⟩
        refine Dag.Steps.cons rfl (fun l a W hI hi hd K hK => ?_) ?_
        · have hh11 : l 11 = true := hd 11 (by simp [need6]); skip
          simp only [hh11, hi] at hI
          simp only [upd_def, Nat.reduceBEq, Bool.false_or, Bool.true_or, hh11] at hK
          clear hd hi hh11
          obtain ⟨hW, rfl⟩ := hI
          simp only [sel_true]
          go_simp
          exact hK _ _ ⟨hW, rfl⟩
        refine Dag.Steps.cons rfl (fun l a W hI hi hd K hK => ?_) ?_
        · have hh11 : l 11 = true := hd 11 (by simp [need6]); have hh15 : l 15 = true := hd 15 (by simp [need6]); have hh16 : l 16 = true := hd 16 (by simp [need6]); skip
          simp only [hh11, hh15, hh16, hi] at hI
          simp only [upd_def, Nat.reduceBEq, Bool.false_or, Bool.true_or, hh11, hh15, hh16] at hK
          clear hd hi hh11 hh15 hh16
          obtain ⟨hW, rfl⟩ := hI
          simp only [sel_true]
          obtain ⟨im0, wr0, wr1, wr2, wr3, wr4, wr5, wr6, wr7, wr8, wr9, wr10, wr11, wr12, _⟩ := HWR.out
          go_simp
          exact hK _ _ ⟨hW, rfl⟩
        refine Dag.Steps.cons rfl (fun l a W hI hi hd K hK => ?_) ?_
        · have hh11 : l 11 = true := hd 11 (by simp [need6]); skip
          simp only [hh11, hi] at hI
          simp only [upd_def, Nat.reduceBEq, Bool.false_or, Bool.true_or, hh11] at hK
          clear hd hi hh11
          obtain ⟨hW, rfl⟩ := hI
          simp only [sel_true]
          go_simp
          exact hK _ _ ⟨hW, rfl⟩
        refine Dag.Steps.cons rfl (fun l a W hI hi hd K hK => ?_) ?_
        · have hh11 : l 11 = true := hd 11 (by simp [need6]); skip
          simp only [hh11, hi] at hI
          simp only [upd_def, Nat.reduceBEq, Bool.false_or, Bool.true_or, hh11] at hK
          clear hd hi hh11
          obtain ⟨hW, rfl⟩ := hI
          simp only [sel_true]
          go_simp
          exact hK _ _ ⟨hW, rfl⟩
        refine Dag.Steps.cons rfl (fun l a W hI hi hd K hK => ?_) ?_
        · have hh11 : l 11 = true := hd 11 (by simp [need6]); have hh18 : l 18 = true := hd 18 (by simp [need6]); have hh19 : l 19 = true := hd 19 (by simp [need6]); skip
          simp only [hh11, hh18, hh19, hi] at hI
          simp only [upd_def, Nat.reduceBEq, Bool.false_or, Bool.true_or, hh11, hh18, hh19] at hK
          clear hd hi hh11 hh18 hh19
          obtain ⟨hW, rfl⟩ := hI
          simp only [sel_true]
          obtain ⟨im0, wr0, wr1, wr2, wr3, wr4, wr5, wr6, wr7, wr8, wr9, wr10, wr11, wr12, _⟩ := HWR.out
          go_simp
          exact hK _ _ ⟨hW, rfl⟩
        refine Dag.Steps.cons rfl (fun l a W hI hi hd K hK => ?_) ?_
        · have hh11 : l 11 = true := hd 11 (by simp [need6]); have hh14 : l 14 = true := hd 14 (by simp [need6]); have hh17 : l 17 = true := hd 17 (by simp [need6]); have hh20 : l 20 = true := hd 20 (by simp [need6]); skip
          simp only [hh11, hh14, hh17, hh20, hi] at hI
          simp only [upd_def, Nat.reduceBEq, Bool.false_or, Bool.true_or, hh11, hh14, hh17, hh20] at hK
          clear hd hi hh11 hh14 hh17 hh20
          obtain ⟨hW, rfl⟩ := hI
          simp only [sel_true]
          go_simp
          refine (bl_calls O2.out hW).mono ?_
          rintro e w7 ⟨rfl, hb⟩
          exact hK _ _ ⟨hb, rfl⟩
        refine Dag.Steps.cons rfl (fun l a W hI hi hd K hK => ?_) ?_
        · have hh11 : l 11 = true := hd 11 (by simp [need6]); have hh14 : l 14 = true := hd 14 (by simp [need6]); have hh21 : l 21 = true := hd 21 (by simp [need6]); skip
          simp only [hh11, hh14, hh21, hi] at hI
          simp only [upd_def, Nat.reduceBEq, Bool.false_or, Bool.true_or, hh11, hh14, hh21] at hK
          clear hd hi hh11 hh14 hh21
          obtain ⟨hW, rfl⟩ := hI
          simp only [sel_true]
          go_simp
          refine (bl_calls E2.out hW).mono ?_
          rintro e w7 ⟨rfl, hb⟩
          exact hK _ _ ⟨hb, rfl⟩
        refine Dag.Steps.cons rfl (fun l a W hI hi hd K hK => ?_) ?_
        · have hh11 : l 11 = true := hd 11 (by simp [need6]); have hh22 : l 22 = true := hd 22 (by simp [need6]); skip
          simp only [hh11, hh22, hi] at hI
          simp only [upd_def, Nat.reduceBEq, Bool.false_or, Bool.true_or, hh11, hh22] at hK
          clear hd hi hh11 hh22
          obtain ⟨hW, rfl⟩ := hI
          simp only [sel_true]
          go_simp
          exact hK _ _ ⟨hW, rfl⟩
        refine Dag.Steps.cons rfl (fun l a W hI hi hd K hK => ?_) ?_
        · have hh22 : l 22 = true := hd 22 (by simp [need6]); have hh23 : l 23 = true := hd 23 (by simp [need6]); skip
          simp only [hh22, hh23, hi] at hI
          simp only [upd_def, Nat.reduceBEq, Bool.false_or, Bool.true_or, hh22, hh23] at hK
          clear hd hi hh22 hh23
          obtain ⟨hW, rfl⟩ := hI
          simp only [sel_true]
          go_simp
          exact hK _ _ ⟨hW, rfl⟩
        refine Dag.Steps.cons rfl (fun l a W hI hi hd K hK => ?_) ?_
        · have hh24 : l 24 = true := hd 24 (by simp [need6]); skip
          simp only [hh24, hi] at hI
          simp only [upd_def, Nat.reduceBEq, Bool.false_or, Bool.true_or, hh24] at hK
          clear hd hi hh24
          obtain ⟨hW, rfl⟩ := hI
          simp only [sel_true]
          obtain ⟨c0, c1, _, _, _⟩ := (HB.out W hW).1
          go_simp
          exact hK _ _ ⟨hW, rfl⟩
        refine Dag.Steps.cons rfl (fun l a W hI hi hd K hK => ?_) ?_
        · have hh24 : l 24 = true := hd 24 (by simp [need6]); skip
          simp only [hh24, hi] at hI
          simp only [upd_def, Nat.reduceBEq, Bool.false_or, Bool.true_or, hh24] at hK
          clear hd hi hh24
          obtain ⟨hW, rfl⟩ := hI
          simp only [sel_true]
          obtain ⟨c0, c1, _, _, _⟩ := (HB.out W hW).2.1
          go_simp
          exact hK _ _ ⟨hW, rfl⟩
        refine Dag.Steps.cons rfl (fun l a W hI hi hd K hK => ?_) ?_
        · have hh24 : l 24 = true := hd 24 (by simp [need6]); have hh25 : l 25 = true := hd 25 (by simp [need6]); have hh26 : l 26 = true := hd 26 (by simp [need6]); skip
          simp only [hh24, hh25, hh26, hi] at hI
          simp only [upd_def, Nat.reduceBEq, Bool.false_or, Bool.true_or, hh24, hh25, hh26] at hK
          clear hd hi hh24 hh25 hh26
          obtain ⟨hW, rfl⟩ := hI
          simp only [sel_true]
          go_simp
          refine (bl_calls M1.out hW).mono ?_
          rintro e w7 ⟨rfl, hb⟩
          exact hK _ _ ⟨hb, rfl⟩
        refine Dag.Steps.cons rfl (fun l a W hI hi hd K hK => ?_) ?_
        · have hh24 : l 24 = true := hd 24 (by simp [need6]); skip
          simp only [hh24, hi] at hI
          simp only [upd_def, Nat.reduceBEq, Bool.false_or, Bool.true_or, hh24] at hK
          clear hd hi hh24
          obtain ⟨hW, rfl⟩ := hI
          simp only [sel_true]
          go_simp
          exact hK _ _ ⟨hW, rfl⟩
        refine Dag.Steps.cons rfl (fun l a W hI hi hd K hK => ?_) ?_
        · have hh24 : l 24 = true := hd 24 (by simp [need6]); skip
          simp only [hh24, hi] at hI
          simp only [upd_def, Nat.reduceBEq, Bool.false_or, Bool.true_or, hh24] at hK
          clear hd hi hh24
          obtain ⟨hW, rfl⟩ := hI
          simp only [sel_true]
          go_simp
          exact hK _ _ ⟨hW, rfl⟩
        refine Dag.Steps.cons rfl (fun l a W hI hi hd K hK => ?_) ?_
        · have hh24 : l 24 = true := hd 24 (by simp [need6]); have hh28 : l 28 = true := hd 28 (by simp [need6]); have hh29 : l 29 = true := hd 29 (by simp [need6]); skip
          simp only [hh24, hh28, hh29, hi] at hI
          simp only [upd_def, Nat.reduceBEq, Bool.false_or, Bool.true_or, hh24, hh28, hh29] at hK
          clear hd hi hh24 hh28 hh29
          obtain ⟨hW, rfl⟩ := hI
          simp only [sel_true]
          obtain ⟨im0, wr0, wr1, wr2, wr3, wr4, wr5, wr6, wr7, wr8, wr9, wr10, wr11, wr12, _⟩ := HWR.out
          go_simp
          exact hK _ _ ⟨hW, rfl⟩
        refine Dag.Steps.cons rfl (fun l a W hI hi hd K hK => ?_) ?_
        · have hh24 : l 24 = true := hd 24 (by simp [need6]); skip
          simp only [hh24, hi] at hI
          simp only [upd_def, Nat.reduceBEq, Bool.false_or, Bool.true_or, hh24] at hK
          clear hd hi hh24
          obtain ⟨hW, rfl⟩ := hI
          simp only [sel_true]
          go_simp
          exact hK _ _ ⟨hW, rfl⟩
        refine Dag.Steps.cons rfl (fun l a W hI hi hd K hK => ?_) ?_
        · have hh24 : l 24 = true := hd 24 (by simp [need6]); skip
          simp only [hh24, hi] at hI
          simp only [upd_def, Nat.reduceBEq, Bool.false_or, Bool.true_or, hh24] at hK
          clear hd hi hh24
          obtain ⟨hW, rfl⟩ := hI
          simp only [sel_true]
          go_simp
          exact hK _ _ ⟨hW, rfl⟩
        refine Dag.Steps.cons rfl (fun l a W hI hi hd K hK => ?_) ?_
        · have hh24 : l 24 = true := hd 24 (by simp [need6]); have hh31 : l 31 = true := hd 31 (by simp [need6]); have hh32 : l 32 = true := hd 32 (by simp [need6]); skip
          simp only [hh24, hh31, hh32, hi] at hI
          simp only [upd_def, Nat.reduceBEq, Bool.false_or, Bool.true_or, hh24, hh31, hh32] at hK
          clear hd hi hh24 hh31 hh32
          obtain ⟨hW, rfl⟩ := hI
          simp only [sel_true]
          obtain ⟨im0, wr0, wr1, wr2, wr3, wr4, wr5, wr6, wr7, wr8, wr9, wr10, wr11, wr12, _⟩ := HWR.out
          go_simp
          exact hK _ _ ⟨hW, rfl⟩
        refine Dag.Steps.cons rfl (fun l a W hI hi hd K hK => ?_) ?_
        · have hh24 : l 24 = true := hd 24 (by simp [need6]); have hh30 : l 30 = true := hd 30 (by simp [need6]); have hh33 : l 33 = true := hd 33 (by simp [need6]); skip
          simp only [hh24, hh30, hh33, hi] at hI
          simp only [upd_def, Nat.reduceBEq, Bool.false_or, Bool.true_or, hh24, hh30, hh33] at hK
          clear hd hi hh24 hh30 hh33
          obtain ⟨hW, rfl⟩ := hI
          simp only [sel_true]
          obtain ⟨im0, wr0, wr1, wr2, wr3, wr4, wr5, wr6, wr7, wr8, wr9, wr10, wr11, wr12, _⟩ := HWR.out
          go_simp
          exact hK _ _ ⟨hW, rfl⟩
        refine Dag.Steps.cons rfl (fun l a W hI hi hd K hK => ?_) ?_
        · have hh24 : l 24 = true := hd 24 (by simp [need6]); skip
          simp only [hh24, hi] at hI
          simp only [upd_def, Nat.reduceBEq, Bool.false_or, Bool.true_or, hh24] at hK
          clear hd hi hh24
          obtain ⟨hW, rfl⟩ := hI
          simp only [sel_true]
          go_simp
          exact hK _ _ ⟨hW, rfl⟩
        refine Dag.Steps.cons rfl (fun l a W hI hi hd K hK => ?_) ?_
        · have hh24 : l 24 = true := hd 24 (by simp [need6]); skip
          simp only [hh24, hi] at hI
          simp only [upd_def, Nat.reduceBEq, Bool.false_or, Bool.true_or, hh24] at hK
          clear hd hi hh24
          obtain ⟨hW, rfl⟩ := hI
          simp only [sel_true]
          go_simp
          exact hK _ _ ⟨hW, rfl⟩
        refine Dag.Steps.cons rfl (fun l a W hI hi hd K hK => ?_) ?_
        · have hh24 : l 24 = true := hd 24 (by simp [need6]); have hh35 : l 35 = true := hd 35 (by simp [need6]); have hh36 : l 36 = true := hd 36 (by simp [need6]); skip
          simp only [hh24, hh35, hh36, hi] at hI
          simp only [upd_def, Nat.reduceBEq, Bool.false_or, Bool.true_or, hh24, hh35, hh36] at hK
          clear hd hi hh24 hh35 hh36
          obtain ⟨hW, rfl⟩ := hI
          simp only [sel_true]
          obtain ⟨im0, wr0, wr1, wr2, wr3, wr4, wr5, wr6, wr7, wr8, wr9, wr10, wr11, wr12, _⟩ := HWR.out
          go_simp
          exact hK _ _ ⟨hW, rfl⟩
        refine Dag.Steps.cons rfl (fun l a W hI hi hd K hK => ?_) ?_
        · have hh24 : l 24 = true := hd 24 (by simp [need6]); skip
          simp only [hh24, hi] at hI
          simp only [upd_def, Nat.reduceBEq, Bool.false_or, Bool.true_or, hh24] at hK
          clear hd hi hh24
          obtain ⟨hW, rfl⟩ := hI
          simp only [sel_true]
          go_simp
          exact hK _ _ ⟨hW, rfl⟩
        refine Dag.Steps.cons rfl (fun l a W hI hi hd K hK => ?_) ?_
        · have hh24 : l 24 = true := hd 24 (by simp [need6]); skip
          simp only [hh24, hi] at hI
          simp only [upd_def, Nat.reduceBEq, Bool.false_or, Bool.true_or, hh24] at hK
          clear hd hi hh24
          obtain ⟨hW, rfl⟩ := hI
          simp only [sel_true]
          go_simp
          exact hK _ _ ⟨hW, rfl⟩
        refine Dag.Steps.cons rfl (fun l a W hI hi hd K hK => ?_) ?_
        · have hh24 : l 24 = true := hd 24 (by simp [need6]); have hh38 : l 38 = true := hd 38 (by simp [need6]); have hh39 : l 39 = true := hd 39 (by simp [need6]); skip
          simp only [hh24, hh38, hh39, hi] at hI
          simp only [upd_def, Nat.reduceBEq, Bool.false_or, Bool.true_or, hh24, hh38, hh39] at hK
          clear hd hi hh24 hh38 hh39
          obtain ⟨hW, rfl⟩ := hI
          simp only [sel_true]
          obtain ⟨im0, wr0, wr1, wr2, wr3, wr4, wr5, wr6, wr7, wr8, wr9, wr10, wr11, wr12, _⟩ := HWR.out
          go_simp
          exact hK _ _ ⟨hW, rfl⟩
        refine Dag.Steps.cons rfl (fun l a W hI hi hd K hK => ?_) ?_
        · have hh24 : l 24 = true := hd 24 (by simp [need6]); have hh37 : l 37 = true := hd 37 (by simp [need6]); have hh40 : l 40 = true := hd 40 (by simp [need6]); skip
          simp only [hh24, hh37, hh40, hi] at hI
          simp only [upd_def, Nat.reduceBEq, Bool.false_or, Bool.true_or, hh24, hh37, hh40] at hK
          clear hd hi hh24 hh37 hh40
          obtain ⟨hW, rfl⟩ := hI
          simp only [sel_true]
          obtain ⟨im0, wr0, wr1, wr2, wr3, wr4, wr5, wr6, wr7, wr8, wr9, wr10, wr11, wr12, _⟩ := HWR.out
          go_simp
          exact hK _ _ ⟨hW, rfl⟩
        refine Dag.Steps.cons rfl (fun l a W hI hi hd K hK => ?_) ?_
        · have hh24 : l 24 = true := hd 24 (by simp [need6]); have hh27 : l 27 = true := hd 27 (by simp [need6]); have hh34 : l 34 = true := hd 34 (by simp [need6]); have hh41 : l 41 = true := hd 41 (by simp [need6]); skip
          simp only [hh24, hh27, hh34, hh41, hi] at hI
          simp only [upd_def, Nat.reduceBEq, Bool.false_or, Bool.true_or, hh24, hh27, hh34, hh41] at hK
          clear hd hi hh24 hh27 hh34 hh41
          obtain ⟨hW, rfl⟩ := hI
          simp only [sel_true]
          go_simp
          refine (bl_calls O3.out hW).mono ?_
          rintro e w7 ⟨rfl, hb⟩
          exact hK _ _ ⟨hb, rfl⟩
        refine Dag.Steps.cons rfl (fun l a W hI hi hd K hK => ?_) ?_
        · have hh24 : l 24 = true := hd 24 (by simp [need6]); have hh27 : l 27 = true := hd 27 (by simp [need6]); have hh42 : l 42 = true := hd 42 (by simp [need6]); skip
          simp only [hh24, hh27, hh42, hi] at hI
          simp only [upd_def, Nat.reduceBEq, Bool.false_or, Bool.true_or, hh24, hh27, hh42] at hK
          clear hd hi hh24 hh27 hh42
          obtain ⟨hW, rfl⟩ := hI
          simp only [sel_true]
          go_simp
          refine (bl_calls E3.out hW).mono ?_
          rintro e w7 ⟨rfl, hb⟩
          exact hK _ _ ⟨hb, rfl⟩
        refine Dag.Steps.cons rfl (fun l a W hI hi hd K hK => ?_) ?_
        · have hh24 : l 24 = true := hd 24 (by simp [need6]); have hh43 : l 43 = true := hd 43 (by simp [need6]); skip
          simp only [hh24, hh43, hi] at hI
          simp only [upd_def, Nat.reduceBEq, Bool.false_or, Bool.true_or, hh24, hh43] at hK
          clear hd hi hh24 hh43
          obtain ⟨hW, rfl⟩ := hI
          simp only [sel_true]
          go_simp
          exact hK _ _ ⟨hW, rfl⟩
        refine Dag.Steps.cons rfl (fun l a W hI hi hd K hK => ?_) ?_
        · have hh43 : l 43 = true := hd 43 (by simp [need6]); have hh44 : l 44 = true := hd 44 (by simp [need6]); skip
          simp only [hh43, hh44, hi] at hI
          simp only [upd_def, Nat.reduceBEq, Bool.false_or, Bool.true_or, hh43, hh44] at hK
          clear hd hi hh43 hh44
          obtain ⟨hW, rfl⟩ := hI
          simp only [sel_true]
          go_simp
          exact hK _ _ ⟨hW, rfl⟩
        refine Dag.Steps.cons rfl (fun l a W hI hi hd K hK => ?_) ?_
        · have hh45 : l 45 = true := hd 45 (by simp [need6]); skip
          simp only [hh45, hi] at hI
          simp only [upd_def, Nat.reduceBEq, Bool.false_or, Bool.true_or, hh45] at hK
          clear hd hi hh45
          obtain ⟨hW, rfl⟩ := hI
          simp only [sel_true]
          obtain ⟨c0, c1, _, _, _⟩ := (HB.out W hW).1
          go_simp
          exact hK _ _ ⟨hW, rfl⟩
        refine Dag.Steps.cons rfl (fun l a W hI hi hd K hK => ?_) ?_
        · have hh45 : l 45 = true := hd 45 (by simp [need6]); skip
          simp only [hh45, hi] at hI
          simp only [upd_def, Nat.reduceBEq, Bool.false_or, Bool.true_or, hh45] at hK
          clear hd hi hh45
          obtain ⟨hW, rfl⟩ := hI
          simp only [sel_true]
          obtain ⟨c0, c1, _, _, _⟩ := (HB.out W hW).2.1
          go_simp
          exact hK _ _ ⟨hW, rfl⟩
        refine Dag.Steps.cons rfl (fun l a W hI hi hd K hK => ?_) ?_
        · have hh45 : l 45 = true := hd 45 (by simp [need6]); have hh46 : l 46 = true := hd 46 (by simp [need6]); have hh47 : l 47 = true := hd 47 (by simp [need6]); skip
          simp only [hh45, hh46, hh47, hi] at hI
          simp only [upd_def, Nat.reduceBEq, Bool.false_or, Bool.true_or, hh45, hh46, hh47] at hK
          clear hd hi hh45 hh46 hh47
          obtain ⟨hW, rfl⟩ := hI
          simp only [sel_true]
          go_simp
          refine (bl_calls A1.out hW).mono ?_
          rintro e w7 ⟨rfl, hb⟩
          exact hK _ _ ⟨hb, rfl⟩
        refine Dag.Steps.cons rfl (fun l a W hI hi hd K hK => ?_) ?_
        · have hh45 : l 45 = true := hd 45 (by simp [need6]); skip
          simp only [hh45, hi] at hI
          simp only [upd_def, Nat.reduceBEq, Bool.false_or, Bool.true_or, hh45] at hK
          clear hd hi hh45
          obtain ⟨hW, rfl⟩ := hI
          simp only [sel_true]
          obtain ⟨c0, c1, _, _, _⟩ := (HB.out W hW).2.2.1
          go_simp
          exact hK _ _ ⟨hW, rfl⟩
        refine Dag.Steps.cons rfl (fun l a W hI hi hd K hK => ?_) ?_
        · have hh45 : l 45 = true := hd 45 (by simp [need6]); have hh48 : l 48 = true := hd 48 (by simp [need6]); have hh49 : l 49 = true := hd 49 (by simp [need6]); skip
          simp only [hh45, hh48, hh49, hi] at hI
          simp only [upd_def, Nat.reduceBEq, Bool.false_or, Bool.true_or, hh45, hh48, hh49] at hK
          clear hd hi hh45 hh48 hh49
          obtain ⟨hW, rfl⟩ := hI
          simp only [sel_true]
          go_simp
          refine (bl_calls A2.out hW).mono ?_
          rintro e w7 ⟨rfl, hb⟩
          exact hK _ _ ⟨hb, rfl⟩
        refine Dag.Steps.cons rfl (fun l a W hI hi hd K hK => ?_) ?_
        · have hh45 : l 45 = true := hd 45 (by simp [need6]); skip
          simp only [hh45, hi] at hI
          simp only [upd_def, Nat.reduceBEq, Bool.false_or, Bool.true_or, hh45] at hK
          clear hd hi hh45
          obtain ⟨hW, rfl⟩ := hI
          simp only [sel_true]
          obtain ⟨c0, c1, _, _, _⟩ := (HB.out W hW).1
          go_simp
          exact hK _ _ ⟨hW, rfl⟩
        refine Dag.Steps.cons rfl (fun l a W hI hi hd K hK => ?_) ?_
        · have hh45 : l 45 = true := hd 45 (by simp [need6]); skip
          simp only [hh45, hi] at hI
          simp only [upd_def, Nat.reduceBEq, Bool.false_or, Bool.true_or, hh45] at hK
          clear hd hi hh45
          obtain ⟨hW, rfl⟩ := hI
          simp only [sel_true]
          obtain ⟨c0, c1, _, _, _⟩ := (HB.out W hW).2.1
          go_simp
          exact hK _ _ ⟨hW, rfl⟩
        refine Dag.Steps.cons rfl (fun l a W hI hi hd K hK => ?_) ?_
        · have hh45 : l 45 = true := hd 45 (by simp [need6]); skip
          simp only [hh45, hi] at hI
          simp only [upd_def, Nat.reduceBEq, Bool.false_or, Bool.true_or, hh45] at hK
          clear hd hi hh45
          obtain ⟨hW, rfl⟩ := hI
          simp only [sel_true]
          obtain ⟨c0, c1, _, _, _⟩ := (HB.out W hW).2.2.1
          go_simp
          exact hK _ _ ⟨hW, rfl⟩
        refine Dag.Steps.cons rfl (fun l a W hI hi hd K hK => ?_) ?_
        · have hh45 : l 45 = true := hd 45 (by simp [need6]); have hh50 : l 50 = true := hd 50 (by simp [need6]); have hh52 : l 52 = true := hd 52 (by simp [need6]); have hh53 : l 53 = true := hd 53 (by simp [need6]); skip
          simp only [hh45, hh50, hh52, hh53, hi] at hI
          simp only [upd_def, Nat.reduceBEq, Bool.false_or, Bool.true_or, hh45, hh50, hh52, hh53] at hK
          clear hd hi hh45 hh50 hh52 hh53
          obtain ⟨hW, rfl⟩ := hI
          simp only [sel_true]
          go_simp
          refine (bl_calls A3.out hW).mono ?_
          rintro e w7 ⟨rfl, hb⟩
          exact hK _ _ ⟨hb, rfl⟩
        refine Dag.Steps.cons rfl (fun l a W hI hi hd K hK => ?_) ?_
        · have hh45 : l 45 = true := hd 45 (by simp [need6]); have hh51 : l 51 = true := hd 51 (by simp [need6]); have hh54 : l 54 = true := hd 54 (by simp [need6]); skip
          simp only [hh45, hh51, hh54, hi] at hI
          simp only [upd_def, Nat.reduceBEq, Bool.false_or, Bool.true_or, hh45, hh51, hh54] at hK
          clear hd hi hh45 hh51 hh54
          obtain ⟨hW, rfl⟩ := hI
          simp only [sel_true]
          go_simp
          refine (bl_calls A4.out hW).mono ?_
          rintro e w7 ⟨rfl, hb⟩
          exact hK _ _ ⟨hb, rfl⟩
        refine Dag.Steps.cons rfl (fun l a W hI hi hd K hK => ?_) ?_
        · have hh45 : l 45 = true := hd 45 (by simp [need6]); have hh50 : l 50 = true := hd 50 (by simp [need6]); have hh55 : l 55 = true := hd 55 (by simp [need6]); skip
          simp only [hh45, hh50, hh55, hi] at hI
          simp only [upd_def, Nat.reduceBEq, Bool.false_or, Bool.true_or, hh45, hh50, hh55] at hK
          clear hd hi hh45 hh50 hh55
          obtain ⟨hW, rfl⟩ := hI
          simp only [sel_true]
          go_simp
          refine (bl_calls E4.out hW).mono ?_
          rintro e w7 ⟨rfl, hb⟩
          exact hK _ _ ⟨hb, rfl⟩
        refine Dag.Steps.cons rfl (fun l a W hI hi hd K hK => ?_) ?_
        · have hh45 : l 45 = true := hd 45 (by simp [need6]); have hh56 : l 56 = true := hd 56 (by simp [need6]); skip
          simp only [hh45, hh56, hi] at hI
          simp only [upd_def, Nat.reduceBEq, Bool.false_or, Bool.true_or, hh45, hh56] at hK
          clear hd hi hh45 hh56
          obtain ⟨hW, rfl⟩ := hI
          simp only [sel_true]
          go_simp
          exact hK _ _ ⟨hW, rfl⟩
        refine Dag.Steps.cons rfl (fun l a W hI hi hd K hK => ?_) ?_
        · have hh56 : l 56 = true := hd 56 (by simp [need6]); have hh57 : l 57 = true := hd 57 (by simp [need6]); skip
          simp only [hh56, hh57, hi] at hI
          simp only [upd_def, Nat.reduceBEq, Bool.false_or, Bool.true_or, hh56, hh57] at hK
          clear hd hi hh56 hh57
          obtain ⟨hW, rfl⟩ := hI
          simp only [sel_true]
          go_simp
          exact hK _ _ ⟨hW, rfl⟩
        refine Dag.Steps.cons rfl (fun l a W hI hi hd K hK => ?_) ?_
        · have hh58 : l 58 = true := hd 58 (by simp [need6]); skip
          simp only [hh58, hi] at hI
          simp only [upd_def, Nat.reduceBEq, Bool.false_or, Bool.true_or, hh58] at hK
          clear hd hi hh58
          obtain ⟨hW, rfl⟩ := hI
          simp only [sel_true]
          obtain ⟨c0, c1, _, _, _⟩ := (HB.out W hW).1
          go_simp
          exact hK _ _ ⟨hW, rfl⟩
        refine Dag.Steps.cons rfl (fun l a W hI hi hd K hK => ?_) ?_
        · have hh58 : l 58 = true := hd 58 (by simp [need6]); skip
          simp only [hh58, hi] at hI
          simp only [upd_def, Nat.reduceBEq, Bool.false_or, Bool.true_or, hh58] at hK
          clear hd hi hh58
          obtain ⟨hW, rfl⟩ := hI
          simp only [sel_true]
          obtain ⟨c0, c1, _, _, _⟩ := (HB.out W hW).2.1
          go_simp
          exact hK _ _ ⟨hW, rfl⟩
        refine Dag.Steps.cons rfl (fun l a W hI hi hd K hK => ?_) ?_
        · have hh58 : l 58 = true := hd 58 (by simp [need6]); skip
          simp only [hh58, hi] at hI
          simp only [upd_def, Nat.reduceBEq, Bool.false_or, Bool.true_or, hh58] at hK
          clear hd hi hh58
          obtain ⟨hW, rfl⟩ := hI
          simp only [sel_true]
          obtain ⟨c0, c1, _, _, _⟩ := (HB.out W hW).2.2.1
          go_simp
          exact hK _ _ ⟨hW, rfl⟩
        refine Dag.Steps.cons rfl (fun l a W hI hi hd K hK => ?_) ?_
        · have hh58 : l 58 = true := hd 58 (by simp [need6]); have hh60 : l 60 = true := hd 60 (by simp [need6]); have hh61 : l 61 = true := hd 61 (by simp [need6]); skip
          simp only [hh58, hh60, hh61, hi] at hI
          simp only [upd_def, Nat.reduceBEq, Bool.false_or, Bool.true_or, hh58, hh60, hh61] at hK
          clear hd hi hh58 hh60 hh61
          obtain ⟨hW, rfl⟩ := hI
          simp only [sel_true]
          go_simp
          refine (bl_calls A3.out hW).mono ?_
          rintro e w7 ⟨rfl, hb⟩
          exact hK _ _ ⟨hb, rfl⟩
        refine Dag.Steps.cons rfl (fun l a W hI hi hd K hK => ?_) ?_
        · have hh58 : l 58 = true := hd 58 (by simp [need6]); have hh59 : l 59 = true := hd 59 (by simp [need6]); have hh62 : l 62 = true := hd 62 (by simp [need6]); skip
          simp only [hh58, hh59, hh62, hi] at hI
          simp only [upd_def, Nat.reduceBEq, Bool.false_or, Bool.true_or, hh58, hh59, hh62] at hK
          clear hd hi hh58 hh59 hh62
          obtain ⟨hW, rfl⟩ := hI
          simp only [sel_true]
          go_simp
          refine (bl_calls M2.out hW).mono ?_
          rintro e w7 ⟨rfl, hb⟩
          exact hK _ _ ⟨hb, rfl⟩
        refine Dag.Steps.cons rfl (fun l a W hI hi hd K hK => ?_) ?_
        · have hh58 : l 58 = true := hd 58 (by simp [need6]); skip
          simp only [hh58, hi] at hI
          simp only [upd_def, Nat.reduceBEq, Bool.false_or, Bool.true_or, hh58] at hK
          clear hd hi hh58
          obtain ⟨hW, rfl⟩ := hI
          simp only [sel_true]
          obtain ⟨c0, c1, _, _, _⟩ := (HB.out W hW).1
          go_simp
          exact hK _ _ ⟨hW, rfl⟩
        refine Dag.Steps.cons rfl (fun l a W hI hi hd K hK => ?_) ?_
        · have hh58 : l 58 = true := hd 58 (by simp [need6]); skip
          simp only [hh58, hi] at hI
          simp only [upd_def, Nat.reduceBEq, Bool.false_or, Bool.true_or, hh58] at hK
          clear hd hi hh58
          obtain ⟨hW, rfl⟩ := hI
          simp only [sel_true]
          obtain ⟨c0, c1, _, _, _⟩ := (HB.out W hW).2.1
          go_simp
          exact hK _ _ ⟨hW, rfl⟩
        refine Dag.Steps.cons rfl (fun l a W hI hi hd K hK => ?_) ?_
        · have hh58 : l 58 = true := hd 58 (by simp [need6]); have hh63 : l 63 = true := hd 63 (by simp [need6]); have hh64 : l 64 = true := hd 64 (by simp [need6]); have hh65 : l 65 = true := hd 65 (by simp [need6]); skip
          simp only [hh58, hh63, hh64, hh65, hi] at hI
          simp only [upd_def, Nat.reduceBEq, Bool.false_or, Bool.true_or, hh58, hh63, hh64, hh65] at hK
          clear hd hi hh58 hh63 hh64 hh65
          obtain ⟨hW, rfl⟩ := hI
          simp only [sel_true]
          go_simp
          refine (bl_calls M1.out hW).mono ?_
          rintro e w7 ⟨rfl, hb⟩
          exact hK _ _ ⟨hb, rfl⟩
        refine Dag.Steps.cons rfl (fun l a W hI hi hd K hK => ?_) ?_
        · have hh58 : l 58 = true := hd 58 (by simp [need6]); skip
          simp only [hh58, hi] at hI
          simp only [upd_def, Nat.reduceBEq, Bool.false_or, Bool.true_or, hh58] at hK
          clear hd hi hh58
          obtain ⟨hW, rfl⟩ := hI
          simp only [sel_true]
          obtain ⟨c0, c1, _, _, _⟩ := (HB.out W hW).1
          go_simp
          exact hK _ _ ⟨hW, rfl⟩
        refine Dag.Steps.cons rfl (fun l a W hI hi hd K hK => ?_) ?_
        · have hh58 : l 58 = true := hd 58 (by simp [need6]); skip
          simp only [hh58, hi] at hI
          simp only [upd_def, Nat.reduceBEq, Bool.false_or, Bool.true_or, hh58] at hK
          clear hd hi hh58
          obtain ⟨hW, rfl⟩ := hI
          simp only [sel_true]
          obtain ⟨c0, c1, _, _, _⟩ := (HB.out W hW).2.2.1
          go_simp
          exact hK _ _ ⟨hW, rfl⟩
        refine Dag.Steps.cons rfl (fun l a W hI hi hd K hK => ?_) ?_
        · have hh58 : l 58 = true := hd 58 (by simp [need6]); have hh66 : l 66 = true := hd 66 (by simp [need6]); have hh67 : l 67 = true := hd 67 (by simp [need6]); have hh68 : l 68 = true := hd 68 (by simp [need6]); skip
          simp only [hh58, hh66, hh67, hh68, hi] at hI
          simp only [upd_def, Nat.reduceBEq, Bool.false_or, Bool.true_or, hh58, hh66, hh67, hh68] at hK
          clear hd hi hh58 hh66 hh67 hh68
          obtain ⟨hW, rfl⟩ := hI
          simp only [sel_true]
          go_simp
          refine (bl_calls M3.out hW).mono ?_
          rintro e w7 ⟨rfl, hb⟩
          exact hK _ _ ⟨hb, rfl⟩
        refine Dag.Steps.cons rfl (fun l a W hI hi hd K hK => ?_) ?_
        · have hh58 : l 58 = true := hd 58 (by simp [need6]); have hh66 : l 66 = true := hd 66 (by simp [need6]); have hh69 : l 69 = true := hd 69 (by simp [need6]); skip
          simp only [hh58, hh66, hh69, hi] at hI
          simp only [upd_def, Nat.reduceBEq, Bool.false_or, Bool.true_or, hh58, hh66, hh69] at hK
          clear hd hi hh58 hh66 hh69
          obtain ⟨hW, rfl⟩ := hI
          simp only [sel_true]
          go_simp
          refine (bl_calls A5.out hW).mono ?_
          rintro e w7 ⟨rfl, hb⟩
          exact hK _ _ ⟨hb, rfl⟩
        refine Dag.Steps.cons rfl (fun l a W hI hi hd K hK => ?_) ?_
        · have hh58 : l 58 = true := hd 58 (by simp [need6]); have hh63 : l 63 = true := hd 63 (by simp [need6]); have hh70 : l 70 = true := hd 70 (by simp [need6]); skip
          simp only [hh58, hh63, hh70, hi] at hI
          simp only [upd_def, Nat.reduceBEq, Bool.false_or, Bool.true_or, hh58, hh63, hh70] at hK
          clear hd hi hh58 hh63 hh70
          obtain ⟨hW, rfl⟩ := hI
          simp only [sel_true]
          go_simp
          refine (bl_calls E5.out hW).mono ?_
          rintro e w7 ⟨rfl, hb⟩
          exact hK _ _ ⟨hb, rfl⟩
        refine Dag.Steps.cons rfl (fun l a W hI hi hd K hK => ?_) ?_
        · have hh58 : l 58 = true := hd 58 (by simp [need6]); have hh71 : l 71 = true := hd 71 (by simp [need6]); skip
          simp only [hh58, hh71, hi] at hI
          simp only [upd_def, Nat.reduceBEq, Bool.false_or, Bool.true_or, hh58, hh71] at hK
          clear hd hi hh58 hh71
          obtain ⟨hW, rfl⟩ := hI
          simp only [sel_true]
          go_simp
          exact hK _ _ ⟨hW, rfl⟩
        refine Dag.Steps.cons rfl (fun l a W hI hi hd K hK => ?_) ?_
        · have hh71 : l 71 = true := hd 71 (by simp [need6]); have hh72 : l 72 = true := hd 72 (by simp [need6]); skip
          simp only [hh71, hh72, hi] at hI
          simp only [upd_def, Nat.reduceBEq, Bool.false_or, Bool.true_or, hh71, hh72] at hK
          clear hd hi hh71 hh72
          obtain ⟨hW, rfl⟩ := hI
          simp only [sel_true]
          go_simp
          exact hK _ _ ⟨hW, rfl⟩
        refine Dag.Steps.cons rfl (fun l a W hI hi hd K hK => ?_) ?_
        · have hh73 : l 73 = true := hd 73 (by simp [need6]); skip
          simp only [hh73, hi] at hI
          simp only [upd_def, Nat.reduceBEq, Bool.false_or, Bool.true_or, hh73] at hK
          clear hd hi hh73
          obtain ⟨hW, rfl⟩ := hI
          simp only [sel_true]
          go_simp
          exact hK _ _ ⟨hW, rfl⟩
        refine Dag.Steps.cons rfl (fun l a W hI hi hd K hK => ?_) ?_
        · have hh73 : l 73 = true := hd 73 (by simp [need6]); have hh74 : l 74 = true := hd 74 (by simp [need6]); skip
          simp only [hh73, hh74, hi] at hI
          simp only [upd_def, Nat.reduceBEq, Bool.false_or, Bool.true_or, hh73, hh74] at hK
          clear hd hi hh73 hh74
          obtain ⟨hW, rfl⟩ := hI
          simp only [sel_true]
          obtain ⟨im0, wr0, wr1, wr2, wr3, wr4, wr5, wr6, wr7, wr8, wr9, wr10, wr11, wr12, _⟩ := HWR.out
          go_simp
          exact hK _ _ ⟨hW, rfl⟩
        refine Dag.Steps.cons rfl (fun l a W hI hi hd K hK => ?_) ?_
        · have hh73 : l 73 = true := hd 73 (by simp [need6]); have hh75 : l 75 = true := hd 75 (by simp [need6]); skip
          simp only [hh73, hh75, hi] at hI
          simp only [upd_def, Nat.reduceBEq, Bool.false_or, Bool.true_or, hh73, hh75] at hK
          clear hd hi hh73 hh75
          obtain ⟨hW, rfl⟩ := hI
          simp only [sel_true]
          go_simp
          exact hK _ _ ⟨hW, rfl⟩
        refine Dag.Steps.cons rfl (fun l a W hI hi hd K hK => ?_) ?_
        · have hh73 : l 73 = true := hd 73 (by simp [need6]); have hh76 : l 76 = true := hd 76 (by simp [need6]); skip
          simp only [hh73, hh76, hi] at hI
          simp only [upd_def, Nat.reduceBEq, Bool.false_or, Bool.true_or, hh73, hh76] at hK
          clear hd hi hh73 hh76
          obtain ⟨hW, rfl⟩ := hI
          simp only [sel_true]
          go_simp
          exact hK _ _ ⟨hW, rfl⟩
        refine Dag.Steps.cons rfl (fun l a W hI hi hd K hK => ?_) ?_
        · have hh77 : l 77 = true := hd 77 (by simp [need6]); skip
          simp only [hh77, hi] at hI
          simp only [upd_def, Nat.reduceBEq, Bool.false_or, Bool.true_or, hh77] at hK
          clear hd hi hh77
          obtain ⟨hW, rfl⟩ := hI
          simp only [sel_true]
          obtain ⟨c0, c1, _, _, _⟩ := (HB.out W hW).2.2.2.2
          go_simp
          exact hK _ _ ⟨hW, rfl⟩
        refine Dag.Steps.cons rfl (fun l a W hI hi hd K hK => ?_) ?_
        · have hh77 : l 77 = true := hd 77 (by simp [need6]); skip
          simp only [hh77, hi] at hI
          simp only [upd_def, Nat.reduceBEq, Bool.false_or, Bool.true_or, hh77] at hK
          clear hd hi hh77
          obtain ⟨hW, rfl⟩ := hI
          simp only [sel_true]
          go_simp
          exact hK _ _ ⟨hW, rfl⟩
        refine Dag.Steps.cons rfl (fun l a W hI hi hd K hK => ?_) ?_
        · have hh77 : l 77 = true := hd 77 (by simp [need6]); skip
          simp only [hh77, hi] at hI
          simp only [upd_def, Nat.reduceBEq, Bool.false_or, Bool.true_or, hh77] at hK
          clear hd hi hh77
          obtain ⟨hW, rfl⟩ := hI
          simp only [sel_true]
          go_simp
          exact hK _ _ ⟨hW, rfl⟩
        refine Dag.Steps.cons rfl (fun l a W hI hi hd K hK => ?_) ?_
        · have hh77 : l 77 = true := hd 77 (by simp [need6]); have hh79 : l 79 = true := hd 79 (by simp [need6]); have hh80 : l 80 = true := hd 80 (by simp [need6]); skip
          simp only [hh77, hh79, hh80, hi] at hI
          simp only [upd_def, Nat.reduceBEq, Bool.false_or, Bool.true_or, hh77, hh79, hh80] at hK
          clear hd hi hh77 hh79 hh80
          obtain ⟨hW, rfl⟩ := hI
          simp only [sel_true]
          obtain ⟨im0, wr0, wr1, wr2, wr3, wr4, wr5, wr6, wr7, wr8, wr9, wr10, wr11, wr12, _⟩ := HWR.out
          go_simp
          exact hK _ _ ⟨hW, rfl⟩
        refine Dag.Steps.cons rfl (fun l a W hI hi hd K hK => ?_) ?_
        · have hh77 : l 77 = true := hd 77 (by simp [need6]); skip
          simp only [hh77, hi] at hI
          simp only [upd_def, Nat.reduceBEq, Bool.false_or, Bool.true_or, hh77] at hK
          clear hd hi hh77
          obtain ⟨hW, rfl⟩ := hI
          simp only [sel_true]
          go_simp
          exact hK _ _ ⟨hW, rfl⟩
        refine Dag.Steps.cons rfl (fun l a W hI hi hd K hK => ?_) ?_
        · have hh77 : l 77 = true := hd 77 (by simp [need6]); skip
          simp only [hh77, hi] at hI
          simp only [upd_def, Nat.reduceBEq, Bool.false_or, Bool.true_or, hh77] at hK
          clear hd hi hh77
          obtain ⟨hW, rfl⟩ := hI
          simp only [sel_true]
          go_simp
          exact hK _ _ ⟨hW, rfl⟩
        refine Dag.Steps.cons rfl (fun l a W hI hi hd K hK => ?_) ?_
        · have hh77 : l 77 = true := hd 77 (by simp [need6]); have hh82 : l 82 = true := hd 82 (by simp [need6]); have hh83 : l 83 = true := hd 83 (by simp [need6]); skip
          simp only [hh77, hh82, hh83, hi] at hI
          simp only [upd_def, Nat.reduceBEq, Bool.false_or, Bool.true_or, hh77, hh82, hh83] at hK
          clear hd hi hh77 hh82 hh83
          obtain ⟨hW, rfl⟩ := hI
          simp only [sel_true]
          obtain ⟨im0, wr0, wr1, wr2, wr3, wr4, wr5, wr6, wr7, wr8, wr9, wr10, wr11, wr12, _⟩ := HWR.out
          go_simp
          exact hK _ _ ⟨hW, rfl⟩
        refine Dag.Steps.cons rfl (fun l a W hI hi hd K hK => ?_) ?_
        · have hh77 : l 77 = true := hd 77 (by simp [need6]); have hh81 : l 81 = true := hd 81 (by simp [need6]); have hh84 : l 84 = true := hd 84 (by simp [need6]); skip
          simp only [hh77, hh81, hh84, hi] at hI
          simp only [upd_def, Nat.reduceBEq, Bool.false_or, Bool.true_or, hh77, hh81, hh84] at hK
          clear hd hi hh77 hh81 hh84
          obtain ⟨hW, rfl⟩ := hI
          simp only [sel_true]
          obtain ⟨im0, wr0, wr1, wr2, wr3, wr4, wr5, wr6, wr7, wr8, wr9, wr10, wr11, wr12, _⟩ := HWR.out
          go_simp
          exact hK _ _ ⟨hW, rfl⟩
        refine Dag.Steps.cons rfl (fun l a W hI hi hd K hK => ?_) ?_
        · have hh77 : l 77 = true := hd 77 (by simp [need6]); have hh85 : l 85 = true := hd 85 (by simp [need6]); skip
          simp only [hh77, hh85, hi] at hI
          simp only [upd_def, Nat.reduceBEq, Bool.false_or, Bool.true_or, hh77, hh85] at hK
          clear hd hi hh77 hh85
          obtain ⟨hW, rfl⟩ := hI
          simp only [sel_true]
          go_simp
          refine (bl_calls O4.out hW).mono ?_
          rintro e w7 ⟨rfl, hb⟩
          exact hK _ _ ⟨hb, rfl⟩
        refine Dag.Steps.cons rfl (fun l a W hI hi hd K hK => ?_) ?_
        · have hh77 : l 77 = true := hd 77 (by simp [need6]); have hh78 : l 78 = true := hd 78 (by simp [need6]); have hh86 : l 86 = true := hd 86 (by simp [need6]); skip
          simp only [hh77, hh78, hh86, hi] at hI
          simp only [upd_def, Nat.reduceBEq, Bool.false_or, Bool.true_or, hh77, hh78, hh86] at hK
          clear hd hi hh77 hh78 hh86
          obtain ⟨hW, rfl⟩ := hI
          simp only [sel_true]
          go_simp
          refine (bl_calls E6.out hW).mono ?_
          rintro e w7 ⟨rfl, hb⟩
          exact hK _ _ ⟨hb, rfl⟩
        refine Dag.Steps.cons rfl (fun l a W hI hi hd K hK => ?_) ?_
        · have hh77 : l 77 = true := hd 77 (by simp [need6]); have hh87 : l 87 = true := hd 87 (by simp [need6]); skip
          simp only [hh77, hh87, hi] at hI
          simp only [upd_def, Nat.reduceBEq, Bool.false_or, Bool.true_or, hh77, hh87] at hK
          clear hd hi hh77 hh87
          obtain ⟨hW, rfl⟩ := hI
          simp only [sel_true]
          go_simp
          exact hK _ _ ⟨hW, rfl⟩
        refine Dag.Steps.cons rfl (fun l a W hI hi hd K hK => ?_) ?_
        · have hh87 : l 87 = true := hd 87 (by simp [need6]); have hh88 : l 88 = true := hd 88 (by simp [need6]); skip
          simp only [hh87, hh88, hi] at hI
          simp only [upd_def, Nat.reduceBEq, Bool.false_or, Bool.true_or, hh87, hh88] at hK
          clear hd hi hh87 hh88
          obtain ⟨hW, rfl⟩ := hI
          simp only [sel_true]
          go_simp
          exact hK _ _ ⟨hW, rfl⟩
        refine Dag.Steps.cons rfl (fun l a W hI hi hd K hK => ?_) ?_
        · have hh89 : l 89 = true := hd 89 (by simp [need6]); skip
          simp only [hh89, hi] at hI
          simp only [upd_def, Nat.reduceBEq, Bool.false_or, Bool.true_or, hh89] at hK
          clear hd hi hh89
          obtain ⟨hW, rfl⟩ := hI
          simp only [sel_true]
          obtain ⟨c0, c1, _, _, _⟩ := (HB.out W hW).1
          go_simp
          exact hK _ _ ⟨hW, rfl⟩
        refine Dag.Steps.cons rfl (fun l a W hI hi hd K hK => ?_) ?_
        · have hh89 : l 89 = true := hd 89 (by simp [need6]); skip
          simp only [hh89, hi] at hI
          simp only [upd_def, Nat.reduceBEq, Bool.false_or, Bool.true_or, hh89] at hK
          clear hd hi hh89
          obtain ⟨hW, rfl⟩ := hI
          simp only [sel_true]
          obtain ⟨c0, c1, _, _, _⟩ := (HB.out W hW).2.2.2.1
          go_simp
          exact hK _ _ ⟨hW, rfl⟩
        refine Dag.Steps.cons rfl (fun l a W hI hi hd K hK => ?_) ?_
        · have hh89 : l 89 = true := hd 89 (by simp [need6]); have hh90 : l 90 = true := hd 90 (by simp [need6]); have hh91 : l 91 = true := hd 91 (by simp [need6]); skip
          simp only [hh89, hh90, hh91, hi] at hI
          simp only [upd_def, Nat.reduceBEq, Bool.false_or, Bool.true_or, hh89, hh90, hh91] at hK
          clear hd hi hh89 hh90 hh91
          obtain ⟨hW, rfl⟩ := hI
          simp only [sel_true]
          go_simp
          refine (bl_calls M4.out hW).mono ?_
          rintro e w7 ⟨rfl, hb⟩
          exact hK _ _ ⟨hb, rfl⟩
        refine Dag.Steps.cons rfl (fun l a W hI hi hd K hK => ?_) ?_
        · have hh89 : l 89 = true := hd 89 (by simp [need6]); skip
          simp only [hh89, hi] at hI
          simp only [upd_def, Nat.reduceBEq, Bool.false_or, Bool.true_or, hh89] at hK
          clear hd hi hh89
          obtain ⟨hW, rfl⟩ := hI
          simp only [sel_true]
          obtain ⟨c0, c1, _, _, _⟩ := (HB.out W hW).2.2.2.1
          go_simp
          exact hK _ _ ⟨hW, rfl⟩
        refine Dag.Steps.cons rfl (fun l a W hI hi hd K hK => ?_) ?_
        · have hh89 : l 89 = true := hd 89 (by simp [need6]); have hh92 : l 92 = true := hd 92 (by simp [need6]); have hh93 : l 93 = true := hd 93 (by simp [need6]); skip
          simp only [hh89, hh92, hh93, hi] at hI
          simp only [upd_def, Nat.reduceBEq, Bool.false_or, Bool.true_or, hh89, hh92, hh93] at hK
          clear hd hi hh89 hh92 hh93
          obtain ⟨hW, rfl⟩ := hI
          simp only [sel_true]
          go_simp
          refine (bl_calls D1.out hW).mono ?_
          rintro e w7 ⟨rfl, hb⟩
          exact hK _ _ ⟨hb, rfl⟩
        refine Dag.Steps.cons rfl (fun l a W hI hi hd K hK => ?_) ?_
        · have hh89 : l 89 = true := hd 89 (by simp [need6]); skip
          simp only [hh89, hi] at hI
          simp only [upd_def, Nat.reduceBEq, Bool.false_or, Bool.true_or, hh89] at hK
          clear hd hi hh89
          obtain ⟨hW, rfl⟩ := hI
          simp only [sel_true]
          obtain ⟨c0, c1, _, _, _⟩ := (HB.out W hW).1
          go_simp
          exact hK _ _ ⟨hW, rfl⟩
        refine Dag.Steps.cons rfl (fun l a W hI hi hd K hK => ?_) ?_
        · have hh89 : l 89 = true := hd 89 (by simp [need6]); have hh94 : l 94 = true := hd 94 (by simp [need6]); have hh95 : l 95 = true := hd 95 (by simp [need6]); skip
          simp only [hh89, hh94, hh95, hi] at hI
          simp only [upd_def, Nat.reduceBEq, Bool.false_or, Bool.true_or, hh89, hh94, hh95] at hK
          clear hd hi hh89 hh94 hh95
          obtain ⟨hW, rfl⟩ := hI
          simp only [sel_true]
          go_simp
          refine (bl_calls E7.out hW).mono ?_
          rintro e w7 ⟨rfl, hb⟩
          exact hK _ _ ⟨hb, rfl⟩
        refine Dag.Steps.cons rfl (fun l a W hI hi hd K hK => ?_) ?_
        · have hh89 : l 89 = true := hd 89 (by simp [need6]); have hh96 : l 96 = true := hd 96 (by simp [need6]); skip
          simp only [hh89, hh96, hi] at hI
          simp only [upd_def, Nat.reduceBEq, Bool.false_or, Bool.true_or, hh89, hh96] at hK
          clear hd hi hh89 hh96
          obtain ⟨hW, rfl⟩ := hI
          simp only [sel_true]
          go_simp
          exact hK _ _ ⟨hW, rfl⟩
        refine Dag.Steps.cons rfl (fun l a W hI hi hd K hK => ?_) ?_
        · have hh96 : l 96 = true := hd 96 (by simp [need6]); have hh97 : l 97 = true := hd 97 (by simp [need6]); skip
          simp only [hh96, hh97, hi] at hI
          simp only [upd_def, Nat.reduceBEq, Bool.false_or, Bool.true_or, hh96, hh97] at hK
          clear hd hi hh96 hh97
          obtain ⟨hW, rfl⟩ := hI
          simp only [sel_true]
          go_simp
          exact hK _ _ ⟨hW, rfl⟩
        refine Dag.Steps.cons rfl (fun l a W hI hi hd K hK => ?_) ?_
        · have hh98 : l 98 = true := hd 98 (by simp [need6]); skip
          simp only [hh98, hi] at hI
          simp only [upd_def, Nat.reduceBEq, Bool.false_or, Bool.true_or, hh98] at hK
          clear hd hi hh98
          obtain ⟨hW, rfl⟩ := hI
          simp only [sel_true]
          go_simp
          refine (bl_calls AW.out hW).mono ?_
          rintro e w7 ⟨rfl, hb⟩
          exact hK _ _ ⟨hb, rfl⟩
        refine Dag.Steps.cons rfl (fun l a W hI hi hd K hK => ?_) ?_
        · have hh98 : l 98 = true := hd 98 (by simp [need6]); have hh99 : l 99 = true := hd 99 (by simp [need6]); skip
          simp only [hh98, hh99, hi] at hI
          simp only [upd_def, Nat.reduceBEq, Bool.false_or, Bool.true_or, hh98, hh99] at hK
          clear hd hi hh98 hh99
          obtain ⟨hW, rfl⟩ := hI
          simp only [sel_true]
          go_simp
          exact hK _ _ ⟨hW, rfl⟩
        refine Dag.Steps.cons rfl (fun l a W hI hi hd K hK => ?_) ?_
        · have hh100 : l 100 = true := hd 100 (by simp [need6]); skip
          simp only [hh100, hi] at hI
          simp only [upd_def, Nat.reduceBEq, Bool.false_or, Bool.true_or, hh100] at hK
          clear hd hi hh100
          obtain ⟨hW, rfl⟩ := hI
          simp only [sel_true]
          go_simp
          exact hK _ _ ⟨hW, rfl⟩
        exact Dag.Steps.nil rfl
      case hd6 =>
        intro l a W hI hall
        change I6 w6 gx gy gz g0 g1 g2 gt gm a0 a1 b0_ b1_ c0 c1 tw0 tw1 ac m0 m1 s0 s1 u0 u1 d0 d1 e0 e1 f0 f1 h0 h1 i0 i1 j0 j1 k0 k1 l0 l1 n0 n1 o0 o1 q0 q1 r0 r1 t0 t1 x0 x1 y0 y1 z0 z1 px0 px1 py0 py1 pz0 pz1 k t (l 0) (l 1) (l 2) (l 3) (l 4) (l 5) (l 6) (l 7) (l 8) (l 9) (l 10) (l 11) (l 12) (l 13) (l 14) (l 15) (l 16) (l 17) (l 18) (l 19) (l 20) (l 21) (l 22) (l 23) (l 24) (l 25) (l 26) (l 27) (l 28) (l 29) (l 30) (l 31) (l 32) (l 33) (l 34) (l 35) (l 36) (l 37) (l 38) (l 39) (l 40) (l 41) (l 42) (l 43) (l 44) (l 45) (l 46) (l 47) (l 48) (l 49) (l 50) (l 51) (l 52) (l 53) (l 54) (l 55) (l 56) (l 57) (l 58) (l 59) (l 60) (l 61) (l 62) (l 63) (l 64) (l 65) (l 66) (l 67) (l 68) (l 69) (l 70) (l 71) (l 72) (l 73) (l 74) (l 75) (l 76) (l 77) (l 78) (l 79) (l 80) (l 81) (l 82) (l 83) (l 84) (l 85) (l 86) (l 87) (l 88) (l 89) (l 90) (l 91) (l 92) (l 93) (l 94) (l 95) (l 96) (l 97) (l 98) (l 99) (l 100) (l 101) a W at hI
        rw [hall 0 (by decide), hall 1 (by decide), hall 2 (by decide), hall 3 (by decide), hall 4 (by decide), hall 5 (by decide), hall 6 (by decide), hall 7 (by decide), hall 8 (by decide), hall 9 (by decide), hall 10 (by decide), hall 11 (by decide), hall 12 (by decide), hall 13 (by decide), hall 14 (by decide), hall 15 (by decide), hall 16 (by decide), hall 17 (by decide), hall 18 (by decide), hall 19 (by decide), hall 20 (by decide), hall 21 (by decide), hall 22 (by decide), hall 23 (by decide), hall 24 (by decide), hall 25 (by decide), hall 26 (by decide), hall 27 (by decide), hall 28 (by decide), hall 29 (by decide), hall 30 (by decide), hall 31 (by decide), hall 32 (by decide), hall 33 (by decide), hall 34 (by decide), hall 35 (by decide), hall 36 (by decide), hall 37 (by decide), hall 38 (by decide), hall 39 (by decide), hall 40 (by decide), hall 41 (by decide), hall 42 (by decide), hall 43 (by decide), hall 44 (by decide), hall 45 (by decide), hall 46 (by decide), hall 47 (by decide), hall 48 (by decide), hall 49 (by decide), hall 50 (by decide), hall 51 (by decide), hall 52 (by decide), hall 53 (by decide), hall 54 (by decide), hall 55 (by decide), hall 56 (by decide), hall 57 (by decide), hall 58 (by decide), hall 59 (by decide), hall 60 (by decide), hall 61 (by decide), hall 62 (by decide), hall 63 (by decide), hall 64 (by decide), hall 65 (by decide), hall 66 (by decide), hall 67 (by decide), hall 68 (by decide), hall 69 (by decide), hall 70 (by decide), hall 71 (by decide), hall 72 (by decide), hall 73 (by decide), hall 74 (by decide), hall 75 (by decide), hall 76 (by decide), hall 77 (by decide), hall 78 (by decide), hall 79 (by decide), hall 80 (by decide), hall 81 (by decide), hall 82 (by decide), hall 83 (by decide), hall 84 (by decide), hall 85 (by decide), hall 86 (by decide), hall 87 (by decide), hall 88 (by decide), hall 89 (by decide), hall 90 (by decide), hall 91 (by decide), hall 92 (by decide), hall 93 (by decide), hall 94 (by decide), hall 95 (by decide), hall 96 (by decide), hall 97 (by decide), hall 98 (by decide), hall 99 (by decide), hall 100 (by decide), hall 101 (by decide)] at hI
        clear hall
        obtain ⟨hb, rfl⟩ := hI
        simp only [sel_true]
        go_wp2_with fail
        go_ret
        exact ⟨rfl, hbW.out.trans hb⟩
end Go.Proofs.Ytaacgfmpahfmpaa
