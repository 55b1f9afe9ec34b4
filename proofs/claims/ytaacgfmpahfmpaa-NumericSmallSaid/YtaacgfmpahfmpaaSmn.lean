/- NumericSmall at whatever integers. -/
import Derived.Test.YtaacgfmpahfmpaaSma
namespace Go.Proofs.Ytaacgfmpahfmpaa
open Go.RowKit Go.Shelf
open Flo (IsI)

theorem tm_le (x : Int) : (x.tmod 1001).natAbs ≤ 1000 := by
  rw [Int.natAbs_tmod]
  have := Nat.mod_lt x.natAbs (show 0 < (1001 : Int).natAbs by decide)
  have e : (1001 : Int).natAbs = 1001 := rfl
  omega
theorem shl8 (j : Int) (h0 : 0 ≤ j) (h1 : j < 8) : ∃ t : Int, t ≠ 0 ∧ t.natAbs ≤ 128 ∧ ∀ W, Sem.run Try.prog (Op.shift BinOp.shl IntKind.i64 1 IntKind.u8 j) W = .ok (.int .i64 t) W := by
  obtain rfl | rfl | rfl | rfl | rfl | rfl | rfl | rfl : j = 0 ∨ j = 1 ∨ j = 2 ∨ j = 3 ∨ j = 4 ∨ j = 5 ∨ j = 6 ∨ j = 7 := by omega
  · exact ⟨1, by decide, by decide, fun W => rfl⟩
  · exact ⟨2, by decide, by decide, fun W => rfl⟩
  · exact ⟨4, by decide, by decide, fun W => rfl⟩
  · exact ⟨8, by decide, by decide, fun W => rfl⟩
  · exact ⟨16, by decide, by decide, fun W => rfl⟩
  · exact ⟨32, by decide, by decide, fun W => rfl⟩
  · exact ⟨64, by decide, by decide, fun W => rfl⟩
  · exact ⟨128, by decide, by decide, fun W => rfl⟩
theorem of_ex (n m : Int) (hn : n.natAbs < 2 ^ 24) (hm : m.natAbs < 2 ^ 24) :
    ∃ a : P2, GI a (n, m) ∧ ∀ W, Calls Try.prog 39 #[.int .i64 n, .int .i64 m] W fun e w' => e = .returned (nv a.1 a.2) ∧ Below W.heap.size W w' := ⟨(_, _), ⟨fi_int hn, fi_int hm⟩, of39 n m hn hm⟩
theorem gi_of (p q : Int) (hp : p.natAbs < 2 ^ 24) (hq : q.natAbs < 2 ^ 24) : GI (floatOfInt .f32 p, floatOfInt .f32 q) (p, q) := ⟨fi_int hp, fi_int hq⟩
theorem Le.weak {z : Int × Int} {M N : Nat} (h : Le z M) (hN : M ≤ N) : Le z N := ⟨Nat.le_trans h.1 hN, Nat.le_trans h.2 hN⟩
theorem i64_small {n : Int} (h : n.natAbs ≤ 4000000) : IntKind.i64.wrap n = n := by rw [IntKind.wrap_i64]; omega

theorem zz1 (p0 p1 : Int) : p0 * p0 - p1 * -p1 = p0 * p0 + p1 * p1 := by rw [Int.mul_neg]; omega
theorem zz2 (p0 p1 : Int) : p0 * -p1 + p1 * p0 = 0 := by rw [Int.mul_neg, Int.mul_comm p1 p0]; omega
theorem zz3 (p0 p1 t : Int) : p0 * t - p1 * 0 = p0 * t := by rw [Int.mul_zero]; omega
theorem zz4 (p0 p1 t : Int) : p0 * 0 + p1 * t = p1 * t := by rw [Int.mul_zero]; omega
theorem zz5 (p0 p1 q0 q1 r0 r1 : Int) : p0 * (q0 + r0) - p1 * (q1 + r1) = (p0 * q0 - p1 * q1) + (p0 * r0 - p1 * r1) := by rw [Int.mul_add, Int.mul_add]; omega
theorem zz6 (p0 p1 q0 q1 r0 r1 : Int) : p0 * (q1 + r1) + p1 * (q0 + r0) = (p0 * q1 + p1 * q0) + (p0 * r1 + p1 * r0) := by rw [Int.mul_add, Int.mul_add]; omega
theorem k1 {a : Int} (h : a.natAbs ≤ 1000) : a.natAbs < 2 ^ 24 := by omega
theorem k2 {a : Int} (h : a.natAbs ≤ 2000000) : a.natAbs < 2 ^ 24 := by omega
theorem k3 {a b : Int} (h : a.natAbs ≤ 1000) (g : b.natAbs ≤ 1000) : (a + b).natAbs ≤ 2000000 := by omega
theorem k4 {a b : Int} (h : a.natAbs ≤ 1000) (g : b.natAbs ≤ 1000) : (a - b).natAbs ≤ 2000000 := by omega
theorem k5 {a b : Int} (h : a.natAbs ≤ 1000000) (g : b.natAbs ≤ 1000000) : (a + b).natAbs ≤ 2000000 := by omega
theorem k6 {a b : Int} (h : a.natAbs ≤ 1000000) (g : b.natAbs ≤ 1000000) : (a - b).natAbs ≤ 2000000 := by omega
theorem k7 {n : Int} (h : n.natAbs ≤ 2000000) : IntKind.i64.wrap n = n := i64_small (by omega)
theorem k8 {n : Int} (h : n.natAbs ≤ 1000000) : IntKind.i64.wrap n = n := i64_small (by omega)
theorem kt {n : Int} (h : n.natAbs ≤ 128) : n.natAbs < 2 ^ 24 := by omega

set_option maxHeartbeats 2000000 in
theorem law_any (x0 x1 y0 y1 z0 z1 k : Int) (hx0 : -32768 ≤ x0 ∧ x0 ≤ 32767) (hx1 : -32768 ≤ x1 ∧ x1 ≤ 32767) (hy0 : -32768 ≤ y0 ∧ y0 ≤ 32767) (hy1 : -32768 ≤ y1 ∧ y1 ≤ 32767)
    (hz0 : -32768 ≤ z0 ∧ z0 ≤ 32767) (hz1 : -32768 ≤ z1 ∧ z1 ≤ 32767) (hk : 0 ≤ k) (w : World) :
    Calls Try.prog 6 #[.agg #[.int .i16 x0, .int .i16 x1], .agg #[.int .i16 y0, .int .i16 y1], .agg #[.int .i16 z0, .int .i16 z1], .int .u8 k] w fun e w' => e = .returned (.bool true) ∧ Below w.heap.size w w' := by
  have Cx0 := small40 x0 hx0.1 hx0.2
  have Cx1 := small40 x1 hx1.1 hx1.2
  have Cy0 := small40 y0 hy0.1 hy0.2
  have Cy1 := small40 y1 hy1.1 hy1.2
  have Cz0 := small40 z0 hz0.1 hz0.2
  have Cz1 := small40 z1 hz1.1 hz1.2
  have lx0 := tm_le x0
  have lx1 := tm_le x1
  have ly0 := tm_le y0
  have ly1 := tm_le y1
  have lz0 := tm_le z0
  have lz1 := tm_le z1
  generalize x0.tmod 1001 = p0 at *
  generalize x1.tmod 1001 = p1 at *
  generalize y0.tmod 1001 = q0 at *
  generalize y1.tmod 1001 = q1 at *
  generalize z0.tmod 1001 = r0 at *
  generalize z1.tmod 1001 = r1 at *
  obtain ⟨t, ht, lt, HS⟩ := shl8 (k.tmod 8) (Int.tmod_nonneg 8 hk) (Int.tmod_lt_of_pos k (by decide))
  have la : Le (p0, p1) 1000 := ⟨lx0, lx1⟩
  have lb : Le (q0, q1) 1000 := ⟨ly0, ly1⟩
  have lc : Le (r0, r1) 1000 := ⟨lz0, lz1⟩
  have ltt : Le (t, 0) 128 := ⟨lt, by show (0 : Int).natAbs ≤ 128; decide⟩
  obtain ⟨⟨a0, a1⟩, ga, oa⟩ := of_ex p0 p1 (k1 lx0) (k1 lx1)
  obtain ⟨⟨b0, b1⟩, gb, ob⟩ := of_ex q0 q1 (k1 ly0) (k1 ly1)
  obtain ⟨⟨c0, c1⟩, gc, oc⟩ := of_ex r0 r1 (k1 lz0) (k1 lz1)
  obtain ⟨⟨t0, t1⟩, gt, ot⟩ := of_ex t 0 (kt lt) (by decide)
  have m00 : (p0 * q0).natAbs ≤ 1000000 := Nat.le_trans (abs_mul_le lx0 ly0) (by decide)
  have m11 : (p1 * q1).natAbs ≤ 1000000 := Nat.le_trans (abs_mul_le lx1 ly1) (by decide)
  have m01 : (p0 * q1).natAbs ≤ 1000000 := Nat.le_trans (abs_mul_le lx0 ly1) (by decide)
  have m10 : (p1 * q0).natAbs ≤ 1000000 := Nat.le_trans (abs_mul_le lx1 ly0) (by decide)
  have n00 : (p0 * p0).natAbs ≤ 1000000 := Nat.le_trans (abs_mul_le lx0 lx0) (by decide)
  have n11 : (p1 * p1).natAbs ≤ 1000000 := Nat.le_trans (abs_mul_le lx1 lx1) (by decide)
  obtain ⟨⟨s0, s1⟩, gs, ls, cs⟩ := add_gi ga gb la lb (by omega)
  obtain ⟨⟨d0, d1⟩, gd, ld, cd⟩ := sub_gi ga gb la lb (by omega)
  obtain ⟨⟨f0, f1⟩, gf, lf, cf⟩ := mul_gi ga gb la lb (by omega)
  obtain ⟨⟨i0, i1⟩, gi, li, ci⟩ := add_gi gs gc ls (lc.weak (by omega)) (by omega)
  obtain ⟨⟨j0, j1⟩, gj, lj, cj⟩ := add_gi gb gc lb lc (by omega)
  obtain ⟨⟨h0, h1⟩, gh, lh, ch⟩ := add_gi ga gj (la.weak (by omega)) lj (by omega)
  obtain ⟨⟨l0, l1⟩, gl, ll, cl⟩ := mul_gi ga gj la lj (by omega)
  obtain ⟨⟨n0, n1⟩, gn, ln, cn⟩ := mul_gi ga gc la lc (by omega)
  obtain ⟨⟨o0, o1⟩, go, lo, co⟩ := add_gi gf gn lf ln (by omega)
  obtain ⟨y, gy, cy⟩ := conj_ex ga.1 ga.2
  have gay : GI ((a0, y) : P2) (p0, -p1) := ⟨ga.1, gy⟩
  have lay : Le (p0, -p1) 1000 := ⟨lx0, Nat.le_trans (Nat.le_of_eq (Int.natAbs_neg p1)) lx1⟩
  obtain ⟨⟨m0, m1⟩, gm, lm, cm⟩ := mul_gi ga gay la lay (by omega)
  obtain ⟨⟨r0', r1'⟩, gr, lr, cr⟩ := mul_gi ga gt la ltt (by omega)
  have gm1 : IsI m0 (p0 * p0 + p1 * p1) := by rw [← zz1]; exact gm.1
  have gm2 : IsI m1 0 := by rw [← zz2 p0 p1]; exact gm.2
  have gr1 : IsI r0' (p0 * t) := by rw [← zz3 p0 p1 t]; exact gr.1
  have gr2 : IsI r1' (p1 * t) := by rw [← zz4 p0 p1 t]; exact gr.2
  obtain ⟨v0, v1, iv0, iv1, cv⟩ := div_ex gr1 gr2 gt.1 gt.2 ht lx0 lx1 lt (by omega)
  have eh1 : IsI h0 (p0 + q0 + r0) := by rw [Int.add_assoc]; exact gh.1
  have eh2 : IsI h1 (p1 + q1 + r1) := by rw [Int.add_assoc]; exact gh.2
  have eo1 : IsI o0 (p0 * (q0 + r0) - p1 * (q1 + r1)) := by rw [zz5]; exact go.1
  have eo2 : IsI o1 (p0 * (q1 + r1) + p1 * (q0 + r0)) := by rw [zz6]; exact go.2
  obtain ⟨⟨u0, u1⟩, gu, ou⟩ := of_ex (p0 + q0) (p1 + q1) (k2 (k3 lx0 ly0)) (k2 (k3 lx1 ly1))
  obtain ⟨⟨e0, e1⟩, ge, oe⟩ := of_ex (p0 - q0) (p1 - q1) (k2 (k4 lx0 ly0)) (k2 (k4 lx1 ly1))
  obtain ⟨⟨k0, k1⟩, gk, ok⟩ := of_ex (p0 * q0 - p1 * q1) (p0 * q1 + p1 * q0) (k2 (k6 m00 m11)) (k2 (k5 m01 m10))
  obtain ⟨⟨n2, n3⟩, gq, oq⟩ := of_ex (p0 * p0 + p1 * p1) 0 (k2 (k5 n00 n11)) (by decide)
  have oim : FloatKind.f32.format.order m1 0 = some .eq := by
    have := Flo.order_int gm2 ib_zero
    simpa [FloatKind.format] using this
  exact small_any x0 x1 y0 y1 z0 z1 k p0 p1 q0 q1 r0 r1 a0 a1 b0 b1 c0 c1 Cx0 Cx1 Cy0 Cy1 Cz0 Cz1 oa ob oc
    t t0 t1 HS ot y m0 m1 s0 s1 u0 u1 d0 d1 e0 e1 f0 f1 k0 k1 i0 i1 j0 j1 h0 h1 l0 l1 n0 n1 o0 o1 n2 n3 r0' r1' v0 v1
    cy cm (parts_any m0 m1 (num_int gm1) (num_int gm2))
    cs ou (equal41 s0 s1 u0 u1 (p0 + q0) (p1 + q1) gs.1 gs.2 gu.1 gu.2)
    cd oe (equal41 d0 d1 e0 e1 (p0 - q0) (p1 - q1) gd.1 gd.2 ge.1 ge.2)
    cf ok (equal41 f0 f1 k0 k1 (p0 * q0 - p1 * q1) (p0 * q1 + p1 * q0) gf.1 gf.2 gk.1 gk.2)
    ci cj ch (equal41 i0 i1 h0 h1 (p0 + q0 + r0) (p1 + q1 + r1) gi.1 gi.2 eh1 eh2)
    cl cn co (equal41 l0 l1 o0 o1 (p0 * (q0 + r0) - p1 * (q1 + r1)) (p0 * (q1 + r1) + p1 * (q0 + r0)) gl.1 gl.2 eo1 eo2)
    oq (equal41 m0 m1 n2 n3 (p0 * p0 + p1 * p1) 0 gm1 gm2 gq.1 gq.2)
    cr cv (equal41 v0 v1 a0 a1 p0 p1 iv0 iv1 ga.1 ga.2)
    (k7 (k3 lx0 ly0)) (k7 (k3 lx1 ly1)) (k7 (k4 lx0 ly0)) (k7 (k4 lx1 ly1)) (k8 m00) (k8 m11) (k8 m01) (k8 m10)
    (k7 (k6 m00 m11)) (k7 (k5 m01 m10)) (k8 n00) (k8 n11) (k7 (k5 n00 n11))
    oim w
end Go.Proofs.Ytaacgfmpahfmpaa
