/- The operations at numbers whose parts are integers. -/
import Derived.Test.YtaacgfmpahfmpaaDiv
namespace Go.Proofs.Ytaacgfmpahfmpaa
open Go.RowKit
open Flo (IsI)

theorem fb_add {x y : Nat} {a b : Int} (hx : IsI x a) (hy : IsI y b) (h : (a + b).natAbs < 2 ^ 24) : ∃ r, floatBits .add .f32 x y = some r ∧ IsI r (a + b) := Flo.add_int hx hy h
theorem fb_sub {x y : Nat} {a b : Int} (hx : IsI x a) (hy : IsI y b) (h : (a - b).natAbs < 2 ^ 24) : ∃ r, floatBits .sub .f32 x y = some r ∧ IsI r (a - b) := Flo.sub_int hx hy h
theorem fb_mul {x y : Nat} {a b : Int} (hx : IsI x a) (hy : IsI y b) (h : (a * b).natAbs < 2 ^ 24) : ∃ r, floatBits .mul .f32 x y = some r ∧ IsI r (a * b) := Flo.mul_int hx hy h
theorem fb_div {x y : Nat} {q b : Int} (hx : IsI x (q * b)) (hy : IsI y b) (hb : b ≠ 0) (h : q.natAbs < 2 ^ 24) : ∃ r, floatBits .quo .f32 x y = some r ∧ IsI r q := Flo.div_int hx hy hb h

theorem abs_mul_le {p r : Int} {A B : Nat} (h1 : p.natAbs ≤ A) (h2 : r.natAbs ≤ B) : (p * r).natAbs ≤ A * B := by
  rw [Int.natAbs_mul]; exact Nat.mul_le_mul h1 h2

theorem add_ex {a b c d : Nat} {p q r s : Int} (ha : IsI a p) (hb : IsI b q) (hc : IsI c r) (hd : IsI d s) (h1 : (p + r).natAbs < 2 ^ 24) (h2 : (q + s).natAbs < 2 ^ 24) :
    ∃ x y, IsI x (p + r) ∧ IsI y (q + s) ∧ ∀ W, Calls Try.prog 13 #[nv a b, nv c d] W fun e w' => e = .returned (nv x y) ∧ Below W.heap.size W w' := by
  obtain ⟨x, e1, i1⟩ := fb_add ha hc h1
  obtain ⟨y, e2, i2⟩ := fb_add hb hd h2
  exact ⟨x, y, i1, i2, fun W => add_any a b c d x y (num_int ha) (num_int hb) (num_int hc) (num_int hd) e1 e2 (num_int i1) (num_int i2) W⟩

theorem sub_ex {a b c d : Nat} {p q r s : Int} (ha : IsI a p) (hb : IsI b q) (hc : IsI c r) (hd : IsI d s) (h1 : (p - r).natAbs < 2 ^ 24) (h2 : (q - s).natAbs < 2 ^ 24) :
    ∃ x y, IsI x (p - r) ∧ IsI y (q - s) ∧ ∀ W, Calls Try.prog 14 #[nv a b, nv c d] W fun e w' => e = .returned (nv x y) ∧ Below W.heap.size W w' := by
  obtain ⟨x, e1, i1⟩ := fb_sub ha hc h1
  obtain ⟨y, e2, i2⟩ := fb_sub hb hd h2
  exact ⟨x, y, i1, i2, fun W => sub_any a b c d x y (num_int ha) (num_int hb) (num_int hc) (num_int hd) e1 e2 (num_int i1) (num_int i2) W⟩

theorem mul_ex {a b c d : Nat} {p q r s : Int} {A B : Nat} (ha : IsI a p) (hb : IsI b q) (hc : IsI c r) (hd : IsI d s)
    (h1 : p.natAbs ≤ A) (h2 : q.natAbs ≤ A) (h3 : r.natAbs ≤ B) (h4 : s.natAbs ≤ B) (hAB : 2 * (A * B) < 2 ^ 24) :
    ∃ x y, IsI x (p * r - q * s) ∧ IsI y (p * s + q * r) ∧ ∀ W, Calls Try.prog 15 #[nv a b, nv c d] W fun e w' => e = .returned (nv x y) ∧ Below W.heap.size W w' := by
  have k1 := abs_mul_le h1 h3
  have k2 := abs_mul_le h2 h4
  have k3 := abs_mul_le h1 h4
  have k4 := abs_mul_le h2 h3
  generalize A * B = M at *
  obtain ⟨ac, e1, i1⟩ := fb_mul ha hc (by omega)
  obtain ⟨bd, e2, i2⟩ := fb_mul hb hd (by omega)
  obtain ⟨x, e3, i3⟩ := fb_sub i1 i2 (by omega)
  obtain ⟨ad, e4, i4⟩ := fb_mul ha hd (by omega)
  obtain ⟨bc, e5, i5⟩ := fb_mul hb hc (by omega)
  obtain ⟨y, e6, i6⟩ := fb_add i4 i5 (by omega)
  exact ⟨x, y, i3, i6, fun W => mul_any a b c d ac bd ad bc x y (num_int ha) (num_int hb) (num_int hc) (num_int hd) e1 e2 e3 e4 e5 e6 (num_int i3) (num_int i6) W⟩

/-- A quotient by an integer t that leaves nothing over. -/
theorem div_ex {a b c d : Nat} {p q t : Int} {A T : Nat} (ha : IsI a (p * t)) (hb : IsI b (q * t)) (hc : IsI c t) (hd : IsI d 0) (ht : t ≠ 0)
    (h1 : p.natAbs ≤ A) (h2 : q.natAbs ≤ A) (h3 : t.natAbs ≤ T) (hA : (A + 1) * (T * T) < 2 ^ 24) :
    ∃ x y, IsI x p ∧ IsI y q ∧ ∀ W, Calls Try.prog 16 #[nv a b, nv c d] W fun e w' => e = .returned (nv x y) ∧ Below W.heap.size W w' := by
  have k0 := abs_mul_le h3 h3
  have k1 := abs_mul_le (abs_mul_le h1 h3) h3
  have k2 := abs_mul_le (abs_mul_le h2 h3) h3
  rw [Nat.mul_assoc] at k1 k2
  rw [Nat.add_mul] at hA
  have hT : 0 < T * T := by
    have : 0 < T := by omega
    exact Nat.mul_pos this this
  have hA1 : A ≤ A * (T * T) := Nat.le_mul_of_pos_right A hT
  generalize A * (T * T) = M at *
  generalize T * T = M' at *
  obtain ⟨cc, e1, i1⟩ := fb_mul hc hc (by omega)
  obtain ⟨dd, e2, i2⟩ := fb_mul hd hd (by decide)
  obtain ⟨n, e3, i3⟩ := fb_add i1 i2 (by omega)
  obtain ⟨ac, e4, i4⟩ := fb_mul ha hc (by omega)
  obtain ⟨bd, e5, i5⟩ := fb_mul hb hd (by simp)
  obtain ⟨x, e6, i6⟩ := fb_add i4 i5 (by simp; omega)
  obtain ⟨bc, e7, i7⟩ := fb_mul hb hc (by omega)
  obtain ⟨ad, e8, i8⟩ := fb_mul ha hd (by simp)
  obtain ⟨y, e9, i9⟩ := fb_sub i7 i8 (by simp; omega)
  have htt : t * t + 0 * 0 ≠ 0 := by
    have := Int.mul_ne_zero ht ht
    omega
  have j6 : IsI x (p * (t * t + 0 * 0)) := by
    have : p * t * t + q * t * 0 = p * (t * t + 0 * 0) := by simp [Int.mul_assoc]
    rw [this] at i6; exact i6
  have j9 : IsI y (q * (t * t + 0 * 0)) := by
    have : q * t * t - p * t * 0 = q * (t * t + 0 * 0) := by simp [Int.mul_assoc]
    rw [this] at i9; exact i9
  obtain ⟨re, e10, i10⟩ := fb_div j6 i3 htt (by omega)
  obtain ⟨im, e11, i11⟩ := fb_div j9 i3 htt (by omega)
  exact ⟨re, im, i10, i11, fun W => div_any a b c d cc dd n ac bd x bc ad y re im (num_int ha) (num_int hb) (num_int hc) (num_int hd) e1 e2 e3 e4 e5 e6 e7 e8 e9 e10 e11 (num_int i10) (num_int i11) W⟩

/-- The sign bit turned. -/
theorem ib_flip (s : Bool) {n : Nat} (h : n < 2 ^ 24) : (Flo.ib s n) ^^^ 2147483648 = Flo.ib (!s) n ∧ Flo.ib s n ≠ 2143289344 := by
  have hr : (if n = 0 then 0 else (n.log2 + 126) * 2 ^ 23 + Flo.top n) < 2139095040 := by
    split
    · decide
    · have := Flo.top_lt h
      have := Flo.log2_le h
      omega
  unfold Flo.ib
  generalize (if n = 0 then 0 else (n.log2 + 126) * 2 ^ 23 + Flo.top n) = r at hr ⊢
  have hs : Ieee.single.signWeight = 2147483648 := by decide
  have hx : r ^^^ 2147483648 = 2147483648 + r := by
    have h2 : (2147483648 : Nat) = 2 ^ 31 := by decide
    have hlt : r < 2 ^ 31 := by omega
    rw [h2, Nat.xor_comm]
    apply Nat.eq_of_testBit_eq
    intro i
    rw [Nat.testBit_xor, Nat.testBit_two_pow]
    by_cases hi : i = 31
    · subst hi
      rw [Nat.testBit_lt_two_pow hlt, Nat.testBit_two_pow_add_eq, Nat.testBit_lt_two_pow hlt]; simp
    · by_cases h3 : i < 31
      · have hd : decide (31 = i) = false := by simp; omega
        rw [Nat.testBit_two_pow_add_gt h3, hd, Bool.false_xor]
      · have : r < 2 ^ i := Nat.lt_of_lt_of_le hlt (Nat.pow_le_pow_right (by decide) (by omega))
        have h4 : 2 ^ 31 + r < 2 ^ i := by
          have : 2 ^ 32 ≤ 2 ^ i := Nat.pow_le_pow_right (by decide) (by omega)
          omega
        rw [Nat.testBit_lt_two_pow this, Nat.testBit_lt_two_pow h4]
        have hd : decide (31 = i) = false := by simp; omega
        rw [hd]; rfl
  cases s
  · simp only [Ieee.Format.word, hs, Bool.false_eq_true, if_false, Bool.not_false, if_true]
    exact ⟨hx, by omega⟩
  · simp only [Ieee.Format.word, hs, Bool.false_eq_true, if_false, Bool.not_true, if_true]
    refine ⟨?_, by omega⟩
    rw [← hx, Nat.xor_assoc, Nat.xor_self, Nat.xor_zero]

theorem conj_ex {a b : Nat} {p q : Int} (ha : IsI a p) (hb : IsI b q) :
    ∃ y, IsI y (-q) ∧ ∀ W, Calls Try.prog 17 #[nv a b] W fun e w' => e = .returned (nv a y) ∧ Below W.heap.size W w' := by
  have hn := num_int hb
  have hl := hb.lt
  obtain ⟨s, rfl, h1, h2⟩ := hb
  obtain ⟨f1, f2⟩ := ib_flip s h2
  refine ⟨Flo.ib (!s) q.natAbs, ⟨!s, by rw [Int.natAbs_neg], fun h0 => ?_, by omega⟩, fun W => ?_⟩
  · rw [h1 (by omega)]
    by_cases hq : q < 0
    · simp [hq]; omega
    · simp [hq]; omega
  · have := conj_any a _ (num_int ha) hn f2 (by omega) W
    rw [f1] at this
    exact this

/-- What int's conversion gives. -/
theorem fi_int {n : Int} (h : n.natAbs < 2 ^ 24) : IsI (floatOfInt .f32 n) n := Flo.ofInt n h

set_option maxHeartbeats 400000 in
theorem of39 (n m : Int) (hn : n.natAbs < 2 ^ 24) (hm : m.natAbs < 2 ^ 24) (w : World) :
    Calls Try.prog 39 #[.int .i64 n, .int .i64 m] w fun e w' => e = .returned (nv (floatOfInt .f32 n) (floatOfInt .f32 m)) ∧ Below w.heap.size w w' := by
  have O := Lib.hid (of_any _ _ (num_int (fi_int hn)) (num_int (fi_int hm)))
  clear hn hm
  go_enter Try.func39, Try.ntmps39
  go_wp2_with (go_at_call 18; (with_reducible refine (O.out _).mono ?_); rintro e w1 ⟨rfl, hb1⟩; have HZ := Lib.hid ((Box2.new w (.int .u32 0) (.int .u32 0) 32 _ rfl).call hb1); have HL := Lib.hid (bel_alloc hb1); obtain ⟨z0, z1, g0, g1, zl⟩ := HZ.out)
  obtain ⟨r0, r1⟩ := set2 z0 z1 (.int .u32 (floatOfInt .f32 n)) (.int .u32 (floatOfInt .f32 m))
  have BF := set2_below z0 (by omega) HL.out (.int .u32 (floatOfInt .f32 n)) (.int .u32 (floatOfInt .f32 m))
  refine bodyPost_ret (v := nv (floatOfInt .f32 n) (floatOfInt .f32 m)) ?_ rfl ⟨rfl, ?_⟩
  · simp [results, Try.results39, go_sem, r0, r1]
  · exact BF

set_option maxHeartbeats 400000 in
theorem small40 (x : Int) (h0 : -32768 ≤ x) (h1 : x ≤ 32767) (w : World) :
    Calls Try.prog 40 #[.int .i16 x] w fun e w' => e = .returned (.int .i64 (x.tmod 1001)) ∧ w = w' := by
  go_enter Try.func40, Try.ntmps40
  go_wp2
  go_ret
  exact ⟨rfl, rfl⟩

set_option maxRecDepth 20000 in
set_option maxHeartbeats 1000000 in
theorem equal41 (a b c d : Nat) (p q : Int) (ha : IsI a p) (hb : IsI b q) (hc : IsI c p) (hd : IsI d q) (w : World) :
    Calls Try.prog 41 #[nv a b, nv c d] w fun e w' => e = .returned (.bool true) ∧ Below w.heap.size w w' := by
  have P1 := Lib.hid (parts_any a b (num_int ha) (num_int hb))
  have P2 := Lib.hid (parts_any c d (num_int hc) (num_int hd))
  have e1 : (FloatKind.f32.format.order a c == some .eq) = true := by
    have := Flo.order_int ha hc
    simpa [FloatKind.format] using this
  have e2 : (FloatKind.f32.format.order b d == some .eq) = true := by
    have := Flo.order_int hb hd
    simpa [FloatKind.format] using this
  clear ha hb hc hd
  go_enter Try.func41, Try.ntmps41
  go_wp2_with fail
  have T : Two w _ _ _ _ _ _ _ := ⟨(Box2.new w (.int .u32 a) (.int .u32 b) 32 _ rfl).alloc (.cells #[.int .u32 c, .int .u32 d] 32), Box2.new (w.alloc (.cells #[.int .u32 a, .int .u32 b] 32)) (.int .u32 c) (.int .u32 d) 32 (w.heap.size + 1) (by simp), bel_alloc (bel_alloc (Below.refl _ _))⟩
  generalize (w.alloc _).alloc _ = W at *
  obtain ⟨x0, x1, _, _, _⟩ := T.one
  have HT := Lib.hid T
  clear T
  go_wp2_with (first
    | (go_at_call 11; (with_reducible refine (P1.out _).mono ?_); rintro e w1 ⟨rfl, hb1⟩; have HT1 := Lib.hid (HT.out.call hb1); clear hb1
       obtain ⟨y0, y1, h0, h1, yl⟩ := HT1.out.two)
    | (go_at_call 11; (with_reducible refine (P2.out _).mono ?_); rintro e w2 ⟨rfl, hb2⟩; have HT2 := Lib.hid (HT1.out.call hb2); clear hb2))
  go_ret
  exact ⟨rfl, HT2.out.bel⟩
end Go.Proofs.Ytaacgfmpahfmpaa
