/- What '+', '-', '*', '/' and '==' of float32 make of integers of less than 24 bits. -/
import Ieee.Arith
/- Integers of less than 24 bits, as words of the format 'single': what '+', '-', '*', '/' and '==' make of them. -/
namespace Go.Proofs.Ytaacgfmpahfmpaa
namespace Flo
open Ieee

theorem log2_eq {m l : Nat} (h1 : 2 ^ l ≤ m) (h2 : m < 2 ^ (l + 1)) : m.log2 = l := by
  have hm : m ≠ 0 := by have := Nat.two_pow_pos l; omega
  have a := (Nat.le_log2 hm).2 h1
  have b := (Nat.log2_lt hm).2 h2
  omega

theorem log2_mul_pow {m : Nat} (hm : m ≠ 0) (j : Nat) : (m * 2 ^ j).log2 = m.log2 + j := by
  refine log2_eq ?_ ?_
  · rw [Nat.pow_add]; exact Nat.mul_le_mul_right _ (Nat.log2_self_le hm)
  · have h := @Nat.lt_log2_self m
    have : 2 ^ (m.log2 + j + 1) = 2 ^ (m.log2 + 1) * 2 ^ j := by rw [← Nat.pow_add]; congr 1; omega
    rw [this]; exact Nat.mul_lt_mul_of_pos_right h (Nat.two_pow_pos _)

/-- The significand of an integer that is not zero. -/
def top (a : Nat) : Nat := a * 2 ^ (23 - a.log2)

/-- The word of an integer with a sign. -/
def ib (s : Bool) (a : Nat) : Nat := single.word s (if a = 0 then 0 else (a.log2 + 126) * 2 ^ 23 + top a)

/-- What it stands for. -/
def canon (s : Bool) (a : Nat) : Datum := if a = 0 then .number s 0 (-149) else .number s (top a) ((a.log2 : Int) - 23)

theorem log2_le {a : Nat} (h : a < 2 ^ 24) : a.log2 ≤ 23 := by
  by_cases h0 : a = 0
  · subst h0; decide
  · have := (Nat.log2_lt h0).2 h; omega

theorem top_ge {a : Nat} (h0 : a ≠ 0) (h : a < 2 ^ 24) : 2 ^ 23 ≤ top a := by
  have hl := log2_le h
  have h1 := Nat.log2_self_le h0
  have : 2 ^ 23 = 2 ^ a.log2 * 2 ^ (23 - a.log2) := by rw [← Nat.pow_add]; congr 1; omega
  rw [this]; exact Nat.mul_le_mul_right _ h1

theorem top_lt {a : Nat} (h : a < 2 ^ 24) : top a < 2 ^ 24 := by
  have hl := log2_le h
  have h1 := @Nat.lt_log2_self a
  have : 2 ^ 24 = 2 ^ (a.log2 + 1) * 2 ^ (23 - a.log2) := by rw [← Nat.pow_add]; congr 1; omega
  rw [this]; exact Nat.mul_lt_mul_of_pos_right h1 (Nat.two_pow_pos _)

theorem top_log2 {a : Nat} (h0 : a ≠ 0) (h : a < 2 ^ 24) : (top a).log2 = 23 := log2_eq (top_ge h0 h) (top_lt h)

theorem cut_exact (s : Bool) (K d : Nat) (hK : K ≠ 0) : Toward.even.cut s (K * 2 ^ d) d = K := by
  have hl : (K * 2 ^ d).log2 = K.log2 + d := log2_mul_pow hK d
  have hmin : min d ((K * 2 ^ d).log2 + 2) = d := by omega
  have hp := Nat.two_pow_pos d
  unfold Toward.cut
  simp only [hmin, Nat.one_shiftLeft]
  rw [Nat.mul_div_cancel _ hp, Nat.mul_mod_left]
  have h1 : decide (2 ^ d < 2 * 0) = false := by simp
  have h2 : (2 ^ d == 2 * 0) = false := by simp
  rw [h1, h2]; simp

theorem word_lt' {r : Nat} (s : Bool) (h : r < 2 ^ 31) : single.word s r < 2 ^ 32 := by
  unfold Format.word Format.signWeight single
  simp only
  split <;> omega

theorem write_eq (s : Bool) (m : Nat) (e : Int) (a k : Nat) (ha : a < 2 ^ 24) (hk : 0 ≤ e + k) (h : m * 2 ^ (e + k).toNat = a * 2 ^ k) :
    single.write (.number s m e) = ib s a := by
  unfold Format.write Format.nearest ib
  by_cases hm : m = 0
  · subst hm
    have : a = 0 := by
      have hp := Nat.two_pow_pos k
      rcases Nat.eq_zero_or_pos a with h0 | h0
      · exact h0
      · have := Nat.mul_pos h0 hp; omega
    simp [this]
  · have ha0 : a ≠ 0 := by
      intro h0; subst h0
      have := Nat.mul_pos (Nat.pos_of_ne_zero hm) (Nat.two_pow_pos (e + k).toNat)
      omega
    have hlog : (m.log2 : Int) + e = a.log2 := by
      have h1 := log2_mul_pow hm (e + k).toNat
      rw [h, log2_mul_pow ha0] at h1
      omega
    have hl := log2_le ha
    have hlast : max (e + (m.log2 : Int) - (single.fractionBits : Int)) single.leastPlace = (a.log2 : Int) - 23 := by
      have : single.leastPlace = -149 := by decide
      have : (single.fractionBits : Int) = 23 := by decide
      omega
    simp only [if_neg hm, if_neg ha0, hlast]
    have hkept : Toward.even.cut s (m <<< (e - ((a.log2 : Int) - 23)).toNat) ((a.log2 : Int) - 23 - e).toNat = top a := by
      have hT : top a ≠ 0 := by have := top_ge ha0 ha; omega
      rw [Nat.shiftLeft_eq]
      by_cases hc : (a.log2 : Int) - 23 ≤ e
      · have hd : ((a.log2 : Int) - 23 - e).toNat = 0 := by omega
        have hm' : m * 2 ^ (e - ((a.log2 : Int) - 23)).toNat = top a := by
          have hp := Nat.two_pow_pos k
          refine Nat.eq_of_mul_eq_mul_right hp ?_
          unfold top
          have e1 : m * 2 ^ (e - ((a.log2 : Int) - 23)).toNat * 2 ^ k = (m * 2 ^ (e + k).toNat) * 2 ^ (23 - a.log2) := by
            rw [Nat.mul_assoc, Nat.mul_assoc, ← Nat.pow_add, ← Nat.pow_add]; congr 2; omega
          rw [e1, h, Nat.mul_right_comm]
        rw [hd, hm']
        have := cut_exact s (top a) 0 hT
        simpa using this
      · have hd : (e - ((a.log2 : Int) - 23)).toNat = 0 := by omega
        have hm' : m = top a * 2 ^ ((a.log2 : Int) - 23 - e).toNat := by
          have hp := Nat.two_pow_pos (e + k).toNat
          refine Nat.eq_of_mul_eq_mul_right hp ?_
          rw [h]; unfold top
          rw [Nat.mul_assoc, Nat.mul_assoc, ← Nat.pow_add, ← Nat.pow_add]; congr 2; omega
        rw [hd, Nat.pow_zero, Nat.mul_one]
        rw [hm']
        exact cut_exact s (top a) _ hT
    rw [hkept]
    have h1 : ((a.log2 : Int) - 23 - single.leastPlace).toNat = a.log2 + 126 := by
      have : single.leastPlace = -149 := by decide
      omega
    have h2 : single.binade = 2 ^ 23 := by decide
    have h3 : single.infRung = 255 * 2 ^ 23 := by decide
    rw [h1, h2, h3]
    have := top_lt ha
    congr 1
    have hle : (a.log2 + 126) * 2 ^ 23 + top a ≤ 255 * 2 ^ 23 := by omega
    exact Nat.min_eq_left hle

theorem ib_lt (s : Bool) {a : Nat} (ha : a < 2 ^ 24) : ib s a < 2 ^ 32 := by
  unfold ib
  apply word_lt'
  split
  · decide
  · have := top_lt ha
    have := log2_le ha
    omega

theorem word_parts (s : Bool) {r : Nat} (h2 : r < 2 ^ 31) :
    single.word s r % 2 ^ 31 = r ∧ (single.word s r / 2 ^ 31 % 2 == 1) = s := by
  have hs : single.signWeight = 2 ^ 31 := by decide
  unfold Format.word
  rw [hs]
  cases s
  · simp only [Bool.false_eq_true, if_false]
    constructor
    · omega
    · have : r / 2 ^ 31 % 2 = 0 := by omega
      rw [this]; rfl
  · simp only [if_true]
    constructor
    · omega
    · have : (2 ^ 31 + r) / 2 ^ 31 % 2 = 1 := by omega
      rw [this]; rfl

theorem read_word (s : Bool) {r : Nat} (h1 : 2 ^ 23 ≤ r) (h2 : r < 255 * 2 ^ 23) :
    single.read (single.word s r) = .number s (2 ^ 23 + r % 2 ^ 23) (-149 + ((r / 2 ^ 23 - 1 : Nat) : Int)) := by
  have hs : single.signWeight = 2 ^ 31 := by decide
  have hb : single.binade = 2 ^ 23 := by decide
  have hi : single.infRung = 255 * 2 ^ 23 := by decide
  have hl : single.leastPlace = -149 := by decide
  have hw := word_parts s (r := r) (by omega)
  unfold Format.read
  simp only [hs, hb, hi, hl]
  rw [hw.1, hw.2, if_neg (by omega), if_pos h2]

theorem read_zero (s : Bool) : single.read (single.word s 0) = .number s 0 (-149) := by
  have hs : single.signWeight = 2 ^ 31 := by decide
  have hb : single.binade = 2 ^ 23 := by decide
  have hl : single.leastPlace = -149 := by decide
  have hw := word_parts s (r := 0) (by omega)
  unfold Format.read
  simp only [hs, hb, hl]
  rw [hw.1, hw.2, if_pos (by omega)]

theorem read_ib (s : Bool) {a : Nat} (ha : a < 2 ^ 24) : single.read (ib s a) = canon s a := by
  unfold ib canon
  by_cases h0 : a = 0
  · subst h0
    rw [if_pos rfl, if_pos rfl]
    exact read_zero s
  · simp only [if_neg h0]
    have h1 := top_ge h0 ha
    have h2 := top_lt ha
    have h3 := log2_le ha
    rw [read_word s (by omega) (by omega)]
    have e1 : ((a.log2 + 126) * 2 ^ 23 + top a) % 2 ^ 23 = top a - 2 ^ 23 := by omega
    have e2 : ((a.log2 + 126) * 2 ^ 23 + top a) / 2 ^ 23 = a.log2 + 127 := by omega
    have e3 : 2 ^ 23 + (top a - 2 ^ 23) = top a := by omega
    have e4 : (-149 : Int) + ((a.log2 + 127 - 1 : Nat) : Int) = (a.log2 : Int) - 23 := by omega
    rw [e1, e2, e3, e4]

/-- A word of an integer; a zero has any sign. -/
def IsI (b : Nat) (n : Int) : Prop := ∃ s, b = ib s n.natAbs ∧ (n ≠ 0 → s = decide (n < 0)) ∧ n.natAbs < 2 ^ 24

/-- A datum of an integer. -/
def DI (d : Datum) (n : Int) : Prop := ∃ s, d = canon s n.natAbs ∧ (n ≠ 0 → s = decide (n < 0)) ∧ n.natAbs < 2 ^ 24

theorem IsI.read {b : Nat} {n : Int} (h : IsI b n) : DI (single.read b) n := by
  obtain ⟨s, rfl, h1, h2⟩ := h
  exact ⟨s, read_ib s h2, h1, h2⟩

theorem IsI.lt {b : Nat} {n : Int} (h : IsI b n) : b < 2 ^ 32 := by
  obtain ⟨s, rfl, _, h2⟩ := h
  exact ib_lt s h2

/-- The number of a datum, times two to the k. -/
theorem canon_num (s : Bool) (a : Nat) (ha : a < 2 ^ 24) : ∃ m e, canon s a = .number s m e ∧ -149 ≤ e ∧ e ≤ 0 ∧ (∀ k : Nat, 0 ≤ e + k → m * 2 ^ (e + k).toNat = a * 2 ^ k) ∧ (a ≠ 0 → m.log2 = 23) ∧ (a = 0 → m = 0) := by
  by_cases h0 : a = 0
  · refine ⟨0, -149, by simp [canon, h0], by omega, by omega, ?_, fun h => absurd h0 h, fun _ => rfl⟩
    intro k hk; simp [h0]
  · have hl := log2_le ha
    refine ⟨top a, (a.log2 : Int) - 23, by simp [canon, h0], by omega, by omega, ?_, fun _ => top_log2 h0 ha, fun h => absurd h h0⟩
    intro k hk
    unfold top
    rw [Nat.mul_assoc, ← Nat.pow_add]; congr 2; omega

theorem signed_eq (s : Bool) (m j : Nat) : signed s m j = (if s then -1 else 1) * ((m * 2 ^ j : Nat) : Int) := by
  unfold signed
  rw [Nat.shiftLeft_eq]
  cases s <;> simp

theorem sgn_abs {n : Int} {s : Bool} (h : n ≠ 0 → s = decide (n < 0)) : (if s then (-1 : Int) else 1) * (n.natAbs : Int) = n := by
  by_cases h0 : n = 0
  · subst h0; simp
  · rw [h h0]
    by_cases hn : n < 0
    · simp [hn]; omega
    · simp [hn]; omega

/-- What is written of a number that is an integer. -/
theorem write_int (s : Bool) (m : Nat) (e : Int) (n : Int) (k : Nat) (hn : n.natAbs < 2 ^ 24) (hk : 0 ≤ e + k) (hs : n ≠ 0 → s = decide (n < 0))
    (h : m * 2 ^ (e + k).toNat = n.natAbs * 2 ^ k) : IsI (single.write (.number s m e)) n :=
  ⟨s, write_eq s m e n.natAbs k hn hk h, hs, hn⟩

theorem ofInt (n : Int) (h : n.natAbs < 2 ^ 24) : IsI (single.write (.number (n < 0) n.natAbs 0)) n :=
  write_int _ _ _ n 0 h (by omega) (fun _ => rfl) (by simp)

theorem DI.opposite {d : Datum} {n : Int} (h : DI d n) : DI d.opposite (-n) := by
  obtain ⟨s, rfl, h1, h2⟩ := h
  refine ⟨!s, ?_, ?_, by omega⟩
  · rw [Int.natAbs_neg]
    unfold canon
    split <;> rfl
  · intro h0
    have := h1 (by omega)
    rw [this]
    by_cases hn : n < 0
    · simp [hn]; omega
    · simp [hn]; omega

theorem sum_int {x y : Datum} {a b : Int} (hx : DI x a) (hy : DI y b) (h : (a + b).natAbs < 2 ^ 24) :
    ∃ d, x.sum y = some d ∧ IsI (single.write d) (a + b) := by
  obtain ⟨s, rfl, s1, s2⟩ := hx
  obtain ⟨t, rfl, t1, t2⟩ := hy
  obtain ⟨m, i, hm, im, i0, im', _⟩ := canon_num s a.natAbs s2
  obtain ⟨n, j, hn, jm, j0, jn', _⟩ := canon_num t b.natAbs t2
  rw [hm, hn]
  unfold Datum.sum
  simp only
  refine ⟨_, rfl, ?_⟩
  have hb1 : 0 ≤ i - min i j := by omega
  have hb2 : 0 ≤ j - min i j := by omega
  have hb3 : min i j ≤ 0 := by omega
  generalize hbase : min i j = base at *
  -- all times two to the (-base)
  have e1 : signed s m (i - base).toNat = a * ((2 ^ (-base).toNat : Nat) : Int) := by
    rw [signed_eq]
    have := im' (-base).toNat (by omega)
    rw [show i + ((-base).toNat : Int) = i - base by omega] at this
    rw [this]
    have hs := sgn_abs s1
    rw [Int.natCast_mul, ← Int.mul_assoc, hs]
  have e2 : signed t n (j - base).toNat = b * ((2 ^ (-base).toNat : Nat) : Int) := by
    rw [signed_eq]
    have := jn' (-base).toNat (by omega)
    rw [show j + ((-base).toNat : Int) = j - base by omega] at this
    rw [this]
    have hs := sgn_abs t1
    rw [Int.natCast_mul, ← Int.mul_assoc, hs]
  rw [e1, e2, ← Int.add_mul]
  have hp := Nat.two_pow_pos (-base).toNat
  generalize hP : (2 ^ (-base).toNat : Nat) = P at *
  have hz : ((a + b) * (P : Int) = 0) ↔ a + b = 0 := by
    rw [Int.mul_eq_zero]; omega
  have hl : ((a + b) * (P : Int) < 0) ↔ a + b < 0 := by
    constructor
    · intro hh
      rcases Int.lt_or_le (a + b) 0 with h1 | h1
      · exact h1
      · have := Int.mul_nonneg h1 (show (0 : Int) ≤ P by omega); omega
    · intro hh; exact Int.mul_neg_of_neg_of_pos hh (by omega)
  refine write_int _ _ _ (a + b) (-base).toNat h (by omega) ?_ ?_
  · intro h0
    rw [if_neg (fun hh => h0 (hz.1 hh))]
    simp only [hl]
  · rw [show base + ((-base).toNat : Int) = 0 by omega]
    rw [Int.natAbs_mul, hP]; simp

theorem add_int {x y : Nat} {a b : Int} (hx : IsI x a) (hy : IsI y b) (h : (a + b).natAbs < 2 ^ 24) :
    ∃ r, single.add x y = some r ∧ IsI r (a + b) := by
  obtain ⟨d, h1, h2⟩ := sum_int hx.read hy.read h
  exact ⟨_, by simp [Format.add, h1], h2⟩

theorem sub_int {x y : Nat} {a b : Int} (hx : IsI x a) (hy : IsI y b) (h : (a - b).natAbs < 2 ^ 24) :
    ∃ r, single.sub x y = some r ∧ IsI r (a - b) := by
  rw [Int.sub_eq_add_neg] at h ⊢
  obtain ⟨d, h1, h2⟩ := sum_int hx.read hy.read.opposite h
  exact ⟨_, by simp [Format.sub, h1], h2⟩

theorem sgn_mul {a b : Int} {s t : Bool} (s1 : a ≠ 0 → s = decide (a < 0)) (t1 : b ≠ 0 → t = decide (b < 0)) (h : a * b ≠ 0) : (s ^^ t) = decide (a * b < 0) := by
  have ha : a ≠ 0 := fun h0 => h (by rw [h0, Int.zero_mul])
  have hb : b ≠ 0 := fun h0 => h (by rw [h0, Int.mul_zero])
  rw [s1 ha, t1 hb]
  rcases Int.lt_or_gt_of_ne ha with h1 | h1 <;> rcases Int.lt_or_gt_of_ne hb with h2 | h2
  · have := Int.mul_pos_of_neg_of_neg h1 h2
    simp [h1, h2, show ¬ a * b < 0 by omega]
  · have := Int.mul_neg_of_neg_of_pos h1 h2
    simp [h1, show ¬ b < 0 by omega, this]
  · have := Int.mul_neg_of_pos_of_neg h1 h2
    simp [h2, show ¬ a < 0 by omega, this]
  · have := Int.mul_pos h1 h2
    simp [show ¬ a < 0 by omega, show ¬ b < 0 by omega, show ¬ a * b < 0 by omega]

theorem mul_int {x y : Nat} {a b : Int} (hx : IsI x a) (hy : IsI y b) (h : (a * b).natAbs < 2 ^ 24) :
    ∃ r, single.mul x y = some r ∧ IsI r (a * b) := by
  obtain ⟨s, hs, s1, s2⟩ := hx.read
  obtain ⟨t, ht, t1, t2⟩ := hy.read
  obtain ⟨m, i, hm, im, i0, im', _⟩ := canon_num s a.natAbs s2
  obtain ⟨n, j, hn, jm, j0, jn', _⟩ := canon_num t b.natAbs t2
  refine ⟨single.write (.number (s ^^ t) (m * n) (i + j)), by simp only [Format.mul, hs, ht, hm, hn, Datum.product, Option.map_some], ?_⟩
  refine write_int _ _ _ (a * b) ((-i).toNat + (-j).toNat) h (by omega) (sgn_mul s1 t1) ?_
  have h1 := im' (-i).toNat (by omega)
  have h2 := jn' (-j).toNat (by omega)
  rw [show i + ((-i).toNat : Int) = 0 by omega] at h1
  rw [show j + ((-j).toNat : Int) = 0 by omega] at h2
  rw [show i + j + (((-i).toNat + (-j).toNat : Nat) : Int) = 0 by omega]
  simp only [Int.toNat_zero, Nat.pow_zero, Nat.mul_one] at h1 h2 ⊢
  rw [h1, h2, Int.natAbs_mul, Nat.pow_add]
  ac_rfl

/-- A quotient that is whole. -/
theorem div_int {x y : Nat} {q b : Int} (hx : IsI x (q * b)) (hy : IsI y b) (hb : b ≠ 0) (h : q.natAbs < 2 ^ 24) :
    ∃ r, single.div x y = some r ∧ IsI r q := by
  obtain ⟨s, hs, s1, s2⟩ := hx.read
  obtain ⟨t, ht, t1, t2⟩ := hy.read
  obtain ⟨m, i, hm, im, i0, im', ml, mz⟩ := canon_num s (q * b).natAbs s2
  obtain ⟨n, j, hn, jm, j0, jn', nl, _⟩ := canon_num t b.natAbs t2
  have hn0 : n ≠ 0 := by
    intro h0
    have := nl (by omega); rw [h0] at this; simp at this
  refine ⟨single.write (.number (s ^^ t) (2 * (m <<< (single.fractionBits + 2 + n.log2 - m.log2) / n) + (m <<< (single.fractionBits + 2 + n.log2 - m.log2) % n != 0).toNat) (i - j - ((single.fractionBits + 2 + n.log2 - m.log2 : Nat) : Int) - 1)), by simp only [Format.div, hs, ht, hm, hn, Datum.quotient, if_neg hn0, Option.map_some], ?_⟩
  have hsg : q ≠ 0 → (s ^^ t) = decide (q < 0) := by
    intro hq
    have hqb : q * b ≠ 0 := Int.mul_ne_zero hq hb
    rw [s1 hqb, t1 hb]
    rcases Int.lt_or_gt_of_ne hq with h1 | h1 <;> rcases Int.lt_or_gt_of_ne hb with h2 | h2
    · have := Int.mul_pos_of_neg_of_neg h1 h2
      simp [h1, h2, show ¬ q * b < 0 by omega]
    · have := Int.mul_neg_of_neg_of_pos h1 h2
      simp [h1, show ¬ b < 0 by omega, this]
    · have := Int.mul_neg_of_pos_of_neg h1 h2
      simp [h2, show ¬ q < 0 by omega, this]
    · have := Int.mul_pos h1 h2
      simp [show ¬ q < 0 by omega, show ¬ b < 0 by omega, show ¬ q * b < 0 by omega]
  have hfb : single.fractionBits = 23 := rfl
  rw [hfb]
  by_cases hq : q = 0
  · subst hq
    have hm0 : m = 0 := mz (by simp)
    subst hm0
    refine write_int _ _ _ 0 (((i - j - ((23 + 2 + n.log2 - Nat.log2 0 : Nat) : Int) - 1)).natAbs) (by decide) (by omega) (fun h => absurd rfl h) ?_
    simp
  · have hqb : q * b ≠ 0 := Int.mul_ne_zero hq hb
    have hml := ml (by omega)
    have hnl := nl (by omega)
    have hmore : 23 + 2 + n.log2 - m.log2 = 25 := by omega
    rw [hmore]
    -- m = |q b| 2^(-i), n = |b| 2^(-j)
    have h1 := im' (-i).toNat (by omega)
    have h2 := jn' (-j).toNat (by omega)
    rw [show i + ((-i).toNat : Int) = 0 by omega] at h1
    rw [show j + ((-j).toNat : Int) = 0 by omega] at h2
    simp only [Int.toNat_zero, Nat.pow_zero, Nat.mul_one] at h1 h2
    -- i - j is the difference of the logs, at most 23
    have hqa : q.natAbs ≠ 0 := by omega
    have hij : i - j ≤ 23 := by
      have hi : i = ((q * b).natAbs.log2 : Int) - 23 := by
        have e := congrArg Nat.log2 h1
        rw [hml, log2_mul_pow (by omega)] at e; omega
      have hj : j = (b.natAbs.log2 : Int) - 23 := by
        have e := congrArg Nat.log2 h2
        rw [hnl, log2_mul_pow (by omega)] at e; omega
      have := log2_le s2
      omega
    have hdvd : m <<< 25 = n * (q.natAbs * 2 ^ (25 + j - i).toNat) := by
      rw [Nat.shiftLeft_eq, h1, h2, Int.natAbs_mul]
      have : 2 ^ (-i).toNat * 2 ^ 25 = 2 ^ (-j).toNat * 2 ^ (25 + j - i).toNat := by
        rw [← Nat.pow_add, ← Nat.pow_add]; congr 1; omega
      calc q.natAbs * b.natAbs * 2 ^ (-i).toNat * 2 ^ 25 = q.natAbs * b.natAbs * (2 ^ (-i).toNat * 2 ^ 25) := by rw [Nat.mul_assoc]
        _ = _ := by rw [this]; ac_rfl
    rw [hdvd, Nat.mul_div_cancel_left _ (Nat.pos_of_ne_zero hn0), Nat.mul_mod_right]
    refine write_int _ _ _ q ((26 + j - i).toNat) h (by omega) hsg ?_
    have e0 : ((0 != 0 : Bool).toNat) = 0 := rfl
    simp only [e0, Nat.add_zero]
    rw [show i - j - ((25 : Nat) : Int) - 1 + ((26 + j - i).toNat : Int) = 0 by omega]
    rw [show (26 + j - i).toNat = (25 + j - i).toNat + 1 by omega, Nat.pow_succ]
    simp only [Int.toNat_zero, Nat.pow_zero, Nat.mul_one]
    ac_rfl

theorem order_int {x y : Nat} {a b : Int} (hx : IsI x a) (hy : IsI y b) : (single.order x y == some .eq) = decide (a = b) := by
  obtain ⟨s, hs, s1, s2⟩ := hx.read
  obtain ⟨t, ht, t1, t2⟩ := hy.read
  obtain ⟨m, i, hm, im, i0, im', _⟩ := canon_num s a.natAbs s2
  obtain ⟨n, j, hn, jm, j0, jn', _⟩ := canon_num t b.natAbs t2
  simp only [Format.order, hs, ht, hm, hn, Datum.order]
  have hb1 : 0 ≤ i - min i j := by omega
  have hb2 : 0 ≤ j - min i j := by omega
  have hb3 : min i j ≤ 0 := by omega
  generalize hbase : min i j = base at *
  have e1 : signed s m (i - base).toNat = a * ((2 ^ (-base).toNat : Nat) : Int) := by
    rw [signed_eq]
    have := im' (-base).toNat (by omega)
    rw [show i + ((-base).toNat : Int) = i - base by omega] at this
    rw [this]
    have hs := sgn_abs s1
    rw [Int.natCast_mul, ← Int.mul_assoc, hs]
  have e2 : signed t n (j - base).toNat = b * ((2 ^ (-base).toNat : Nat) : Int) := by
    rw [signed_eq]
    have := jn' (-base).toNat (by omega)
    rw [show j + ((-base).toNat : Int) = j - base by omega] at this
    rw [this]
    have hs := sgn_abs t1
    rw [Int.natCast_mul, ← Int.mul_assoc, hs]
  rw [e1, e2]
  have hp := Nat.two_pow_pos (-base).toNat
  generalize hP : (2 ^ (-base).toNat : Nat) = P at *
  have hinj : a * (P : Int) = b * (P : Int) ↔ a = b := by
    constructor
    · intro hh; exact Int.eq_of_mul_eq_mul_right (by omega) hh
    · rintro rfl; rfl
  by_cases hab : a = b
  · subst hab
    simp [compare, compareOfLessAndEq, Int.lt_irrefl]
  · have hne : a * (P : Int) ≠ b * (P : Int) := fun hh => hab (hinj.1 hh)
    simp only [hab, decide_false]
    have hc : (compare (a * (P : Int)) (b * (P : Int))) ≠ .eq := by
      intro hh; exact hne (Int.compare_eq_eq.1 hh)
    cases hq : compare (a * (P : Int)) (b * (P : Int)) with
    | eq => exact absurd hq hc
    | lt => rfl
    | gt => rfl

theorem self_int {x : Nat} {a : Int} (hx : IsI x a) : (single.order x x != some .eq) = false := by
  have := order_int hx hx
  simp only [bne, this]; simp

end Flo
end Go.Proofs.Ytaacgfmpahfmpaa
