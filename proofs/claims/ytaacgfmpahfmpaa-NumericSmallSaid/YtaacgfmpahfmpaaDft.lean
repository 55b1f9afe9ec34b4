/- Transform of integers. -/
import Derived.Test.YtaacgfmpahfmpaaTfo
import Derived.Test.YtaacgfmpahfmpaaTrb2
import Derived.Test.YtaacgfmpahfmpaaTrb4
namespace Go.Proofs.Ytaacgfmpahfmpaa
open Go.RowKit Go.Shelf
open Flo (IsI)

/-- A number of two integers. -/
def GI (x : P2) (z : Int × Int) : Prop := IsI x.1 z.1 ∧ IsI x.2 z.2
def Le (z : Int × Int) (M : Nat) : Prop := z.1.natAbs ≤ M ∧ z.2.natAbs ≤ M
abbrev ad (x y : Int × Int) : Int × Int := (x.1 + y.1, x.2 + y.2)
abbrev sb (x y : Int × Int) : Int × Int := (x.1 - y.1, x.2 - y.2)
abbrev ml (x y : Int × Int) : Int × Int := (x.1 * y.1 - x.2 * y.2, x.1 * y.2 + x.2 * y.1)
abbrev vv (x : P2) : Value := nv x.1 x.2

theorem add_gi {x y : P2} {a b : Int × Int} {M : Nat} (hx : GI x a) (hy : GI y b) (ha : Le a M) (hb : Le b M) (hM : 2 * M < 2 ^ 24) :
    ∃ r, GI r (ad a b) ∧ Le (ad a b) (2 * M) ∧ ∀ W, Calls Try.prog 13 #[vv x, vv y] W fun e w' => e = .returned (vv r) ∧ Below W.heap.size W w' := by
  obtain ⟨h1, h2⟩ := ha
  obtain ⟨h3, h4⟩ := hb
  obtain ⟨p, q, i1, i2, c⟩ := add_ex hx.1 hx.2 hy.1 hy.2 (by omega) (by omega)
  exact ⟨(p, q), ⟨i1, i2⟩, ⟨by show (a.1 + b.1).natAbs ≤ _; omega, by show (a.2 + b.2).natAbs ≤ _; omega⟩, c⟩
theorem sub_gi {x y : P2} {a b : Int × Int} {M : Nat} (hx : GI x a) (hy : GI y b) (ha : Le a M) (hb : Le b M) (hM : 2 * M < 2 ^ 24) :
    ∃ r, GI r (sb a b) ∧ Le (sb a b) (2 * M) ∧ ∀ W, Calls Try.prog 14 #[vv x, vv y] W fun e w' => e = .returned (vv r) ∧ Below W.heap.size W w' := by
  obtain ⟨h1, h2⟩ := ha
  obtain ⟨h3, h4⟩ := hb
  obtain ⟨p, q, i1, i2, c⟩ := sub_ex hx.1 hx.2 hy.1 hy.2 (by omega) (by omega)
  exact ⟨(p, q), ⟨i1, i2⟩, ⟨by show (a.1 - b.1).natAbs ≤ _; omega, by show (a.2 - b.2).natAbs ≤ _; omega⟩, c⟩
theorem mul_gi {x y : P2} {a b : Int × Int} {A B : Nat} (hx : GI x a) (hy : GI y b) (ha : Le a A) (hb : Le b B) (hM : 2 * (A * B) < 2 ^ 24) :
    ∃ r, GI r (ml a b) ∧ Le (ml a b) (2 * (A * B)) ∧ ∀ W, Calls Try.prog 15 #[vv x, vv y] W fun e w' => e = .returned (vv r) ∧ Below W.heap.size W w' := by
  obtain ⟨p, q, i1, i2, c⟩ := mul_ex hx.1 hx.2 hy.1 hy.2 ha.1 ha.2 hb.1 hb.2 hM
  have k1 := abs_mul_le ha.1 hb.1
  have k2 := abs_mul_le ha.2 hb.2
  have k3 := abs_mul_le ha.1 hb.2
  have k4 := abs_mul_le ha.2 hb.1
  refine ⟨(p, q), ⟨i1, i2⟩, ⟨?_, ?_⟩, c⟩
  · show (a.1 * b.1 - a.2 * b.2).natAbs ≤ _; omega
  · show (a.1 * b.2 + a.2 * b.1).natAbs ≤ _; omega

/-- The factors. -/
def w0 : P2 := (1065353216, 0)
def w2 : P2 := (3212836864, 2147483648)
def w4 : P2 := (0, 3212836864)
theorem gi_w0 : GI w0 (1, 0) := ⟨ib_one, ib_zero⟩
theorem gi_w2 : GI w2 (-1, 0) := ⟨ib_neg, ib_nzero⟩
theorem gi_w4 : GI w4 (0, -1) := ⟨ib_zero, ib_neg⟩
theorem le_w0 : Le (1, 0) 1 := ⟨by decide, by decide⟩
theorem le_w4 : Le (0, -1) 1 := ⟨by decide, by decide⟩

theorem twi4_ex : ∃ t2 t3, GI t2 (-1, 0) ∧ GI t3 (0, 1) ∧ ∀ W, Calls Try.prog 32 #[.int .i64 4] W (TWp W [w0, w4, t2, t3]) := by
  obtain ⟨t2, g2, l2, m2⟩ := mul_gi gi_w4 gi_w4 le_w4 le_w4 (by decide)
  obtain ⟨t3, g3, l3, m3⟩ := mul_gi (A := 2) g2 gi_w4 l2 le_w4 (by decide)
  exact ⟨t2, t3, g2, g3, fun W => twi4 t2 t3 m2 m3 W⟩

/-- transform of two. -/
theorem t2_ex {x0 x1 : P2} {a0 a1 : Int × Int} {M : Nat} (h0 : GI x0 a0) (h1 : GI x1 a1) (l0 : Le a0 M) (l1 : Le a1 M) (hM : 2 * (2 * M) < 2 ^ 24) :
    ∃ y0 y1, GI y0 (ad a0 a1) ∧ GI y1 (sb a0 a1) ∧ ∀ mv W, Fac W.heap.size W mv 2 [w0, w2] → TR W.heap.size W mv [x0, x1] [y0, y1] := by
  obtain ⟨t, gt, lt, mt⟩ := mul_gi gi_w0 h1 le_w0 l1 (by omega)
  have et : ml (1, 0) a1 = a1 := by simp [ml]
  rw [et] at gt lt
  obtain ⟨y0, g0, _, c0⟩ := add_gi h0 gt l0 l1 (by omega)
  obtain ⟨y1, g1, _, c1⟩ := sub_gi h0 gt l0 l1 (by omega)
  refine ⟨y0, y1, g0, g1, fun mv W hF => ?_⟩
  have e0 : evens [x0, x1] = [x0] := by simp [evens, upto, el]
  have e1 : evens ([x0, x1] : List P2).tail = [x1] := by simp [evens, upto, el]
  refine trb2 W.heap.size W mv [x0, x1] [x0] [x1] [w0, w2] [t] [y0, y1] rfl (Nat.le_refl _) rfl rfl rfl rfl (by rw [e0]; exact tra1 _ _ _ x0) (by rw [e1]; exact tra1 _ _ _ x1) hF ?_ ?_ ?_ <;> (intro k hk w; obtain rfl : k = 0 := by omega)
  · exact mt w
  · exact c0 w
  · exact c1 w

/-- transform of four. -/
theorem t4_ex {x0 x1 x2 x3 : P2} {a0 a1 a2 a3 : Int × Int} {M : Nat} {t2 t3 : P2} (h0 : GI x0 a0) (h1 : GI x1 a1) (h2 : GI x2 a2) (h3 : GI x3 a3) (l0 : Le a0 M) (l1 : Le a1 M) (l2 : Le a2 M) (l3 : Le a3 M) (hM : 8 * M < 2 ^ 24) :
    ∃ y0 y1 y2 y3, GI y0 (ad (ad a0 a2) (ad a1 a3)) ∧ GI y1 (ad (sb a0 a2) (ml (0, -1) (sb a1 a3))) ∧ GI y2 (sb (ad a0 a2) (ad a1 a3)) ∧ GI y3 (sb (sb a0 a2) (ml (0, -1) (sb a1 a3))) ∧
      ∀ mv W, Facs 4 [w0, w4, t2, t3] [w0, w2] W mv → TR W.heap.size W mv [x0, x1, x2, x3] [y0, y1, y2, y3] := by
  obtain ⟨e0, e1, ge0, ge1, ce⟩ := t2_ex h0 h2 l0 l2 (by omega)
  obtain ⟨o0, o1, go0, go1, co⟩ := t2_ex h1 h3 l1 l3 (by omega)
  have le0 : Le (ad a0 a2) (2 * M) := by obtain ⟨p, q⟩ := l0; obtain ⟨r, s⟩ := l2; exact ⟨by show (a0.1 + a2.1).natAbs ≤ _; omega, by show (a0.2 + a2.2).natAbs ≤ _; omega⟩
  have le1 : Le (sb a0 a2) (2 * M) := by obtain ⟨p, q⟩ := l0; obtain ⟨r, s⟩ := l2; exact ⟨by show (a0.1 - a2.1).natAbs ≤ _; omega, by show (a0.2 - a2.2).natAbs ≤ _; omega⟩
  have lo0 : Le (ad a1 a3) (2 * M) := by obtain ⟨p, q⟩ := l1; obtain ⟨r, s⟩ := l3; exact ⟨by show (a1.1 + a3.1).natAbs ≤ _; omega, by show (a1.2 + a3.2).natAbs ≤ _; omega⟩
  have lo1 : Le (sb a1 a3) (2 * M) := by obtain ⟨p, q⟩ := l1; obtain ⟨r, s⟩ := l3; exact ⟨by show (a1.1 - a3.1).natAbs ≤ _; omega, by show (a1.2 - a3.2).natAbs ≤ _; omega⟩
  obtain ⟨u0, gu0, lu0, mu0⟩ := mul_gi gi_w0 go0 le_w0 lo0 (by omega)
  obtain ⟨u1, gu1, lu1, mu1⟩ := mul_gi gi_w4 go1 le_w4 lo1 (by omega)
  have et : ml (1, 0) (ad a1 a3) = ad a1 a3 := by simp [ml]
  rw [et] at gu0 lu0
  have lu1' : Le (ml (0, -1) (sb a1 a3)) (2 * M) := by
    obtain ⟨p, q⟩ := lo1
    refine ⟨?_, ?_⟩
    · show (0 * (sb a1 a3).1 - -1 * (sb a1 a3).2).natAbs ≤ _
      rw [Int.zero_mul, Int.neg_mul, Int.one_mul]; omega
    · show (0 * (sb a1 a3).2 + -1 * (sb a1 a3).1).natAbs ≤ _
      rw [Int.zero_mul, Int.neg_mul, Int.one_mul]; omega
  obtain ⟨y0, g0, _, c0⟩ := add_gi ge0 gu0 le0 lo0 (by omega)
  obtain ⟨y1, g1, _, c1⟩ := add_gi ge1 gu1 le1 lu1' (by omega)
  obtain ⟨y2, g2, _, c2⟩ := sub_gi ge0 gu0 le0 lo0 (by omega)
  obtain ⟨y3, g3, _, c3⟩ := sub_gi ge1 gu1 le1 lu1' (by omega)
  refine ⟨y0, y1, y2, y3, g0, g1, g2, g3, fun mv W hF => ?_⟩
  have z0 : evens [x0, x1, x2, x3] = [x0, x2] := by simp [evens, upto, el, show List.range 2 = [0, 1] from rfl]
  have z1 : evens ([x0, x1, x2, x3] : List P2).tail = [x1, x3] := by simp [evens, upto, el, show List.range 2 = [0, 1] from rfl]
  refine trb4 W.heap.size W mv [x0, x1, x2, x3] [e0, e1] [o0, o1] [w0, w4, t2, t3] [u0, u1] [y0, y1, y2, y3] rfl (Nat.le_refl _) rfl rfl rfl rfl (by rw [z0]; exact ce mv W (hF.2 (.inl rfl))) (by rw [z1]; exact co mv W (hF.2 (.inl rfl))) (hF.1 rfl) ?_ ?_ ?_ <;>
    (intro k hk w; obtain rfl | rfl : k = 0 ∨ k = 1 := by omega)
  · exact mu0 w
  · exact mu1 w
  · exact c0 w
  · exact c1 w
  · exact c2 w
  · exact c3 w

theorem num_gi {x : P2} {a : Int × Int} (h : GI x a) : Num x.1 ∧ Num x.2 := ⟨num_int h.1, num_int h.2⟩
/-- Transform of four. -/
theorem fwd4 {x0 x1 x2 x3 : P2} {a0 a1 a2 a3 : Int × Int} {M : Nat} (h0 : GI x0 a0) (h1 : GI x1 a1) (h2 : GI x2 a2) (h3 : GI x3 a3) (l0 : Le a0 M) (l1 : Le a1 M) (l2 : Le a2 M) (l3 : Le a3 M) (hM : 8 * M < 2 ^ 24) :
    ∃ y0 y1 y2 y3, GI y0 (ad (ad a0 a2) (ad a1 a3)) ∧ GI y1 (ad (sb a0 a2) (ml (0, -1) (sb a1 a3))) ∧ GI y2 (sb (ad a0 a2) (ad a1 a3)) ∧ GI y3 (sb (sb a0 a2) (ml (0, -1) (sb a1 a3))) ∧
      ∀ v W, Nums W.heap.size W v [x0, x1, x2, x3] → Calls Try.prog 34 #[v, .bool false] W (TFp [y0, y1, y2, y3] W) := by
  obtain ⟨t2, t3, _, _, T4⟩ := twi4_ex
  obtain ⟨y0, y1, y2, y3, g0, g1, g2, g3, c⟩ := t4_ex (t2 := t2) (t3 := t3) h0 h1 h2 h3 l0 l1 l2 l3 hM
  refine ⟨y0, y1, y2, y3, g0, g1, g2, g3, fun v W hV => ?_⟩
  refine tfo4 _ _ _ _ rfl ?_ T4 (fun W => twi2 W) c v W hV
  intro k hk
  obtain rfl | rfl | rfl | rfl : k = 0 ∨ k = 1 ∨ k = 2 ∨ k = 3 := by omega
  · exact num_gi h0
  · exact num_gi h1
  · exact num_gi h2
  · exact num_gi h3
end Go.Proofs.Ytaacgfmpahfmpaa
