/- transform of one point. -/
import Derived.Test.YtaacgfmpahfmpaaEvs
namespace Go.Proofs.Ytaacgfmpahfmpaa
open Go.RowKit Go.Shelf

/-- A slice's block lies at or beyond B. -/
def Fresh (B : Nat) (v : Value) : Prop := ∀ g, v.ownBlock = some g → B ≤ g
theorem Nums.setCell {n0 B k : Nat} {W : World} {v x : Value} {xs : List P2} (h : Nums n0 W v xs) (hf : Fresh B v) (hk : k < B) : Nums n0 (W.setCell ⟨k, 0, none⟩ x) v xs := by
  obtain ⟨b, off, cap, rfl, hb, hc, hm, h1, h2⟩ := h
  have hbk : B ≤ b := hf b rfl
  have hh := heap_setCell_other W ⟨k, 0, none⟩ b x (by simp; omega)
  exact ⟨b, off, cap, rfl, hb, hc, hm, fun j hj => (World.cell?_of_block hh).trans (h1 j hj), fun j hj => (World.cell?_of_block hh).trans (h2 j hj)⟩

/-- A contract of transform: for any list with these numbers it returns a list with those. -/
def TR (n0 : Nat) (W : World) (mv : Value) (xs ys : List P2) : Prop :=
  ∀ W' v, Below n0 W W' → Nums W'.heap.size W' v xs → Calls Try.prog 59 #[v, mv] W' fun e w' => ∃ v', e = .returned v' ∧ Nums w'.heap.size w' v' ys ∧ Fresh W'.heap.size v' ∧ Below W'.heap.size W' w'

theorem row_cells (w1 : World) (cs : Array Value) (t : TypeId) (i : Nat) : (w1.alloc (.cells cs t)).cell? ⟨w1.heap.size, i, none⟩ = cs[i]? := by
  exact cell_of_row _ w1.heap.size i cs t (0, 0) (heap_alloc_new w1 (.cells cs t))

set_option maxRecDepth 20000 in
set_option maxHeartbeats 1000000 in
theorem tra1 (n0 : Nat) (W : World) (mv : Value) (x : P2) : TR n0 W mv [x] [x] := by
  intro w v _ hN
  obtain ⟨b, off, cap, rfl, hb, hcap, _, h1, h2⟩ := hN
  have c1 := h1 0 (by simp)
  have c2 := h2 0 (by simp)
  simp only [el, List.length_cons, List.length_nil, Nat.zero_mul, Nat.add_zero, List.getElem?_cons_zero, Option.getD_some] at c1 c2 ⊢
  clear h1 h2
  go_enter Try.func59, Try.ntmps59
  go_wp2
  go_ret
  refine ⟨_, rfl, ⟨w.heap.size, 0, 1, rfl, by simp, by simp, by unfold maxLen; omega, ?_, ?_⟩, fun g hg => by cases hg; exact Nat.le_refl _, (Below.refl _ w).alloc (Nat.le_refl _) _⟩
  · intro j hj
    obtain rfl : j = 0 := by simp at hj; omega
    rw [row_cells]; rfl
  · intro j hj
    obtain rfl : j = 0 := by simp at hj; omega
    rw [row_cells]; rfl

/-- The factors of n points, as a map has them. -/
structure Fac (n0 : Nat) (W : World) (mv : Value) (n : Nat) (tw : List P2) : Prop where
  look : ∃ tv, (∀ W', Below n0 W W' → (Instr.lookup 92 mv (.int .i64 n) false).run Try.prog W' = .ok tv W') ∧ Nums n0 W tv tw
theorem Fac.below {n0 n : Nat} {W W' : World} {mv : Value} {tw : List P2} (h : Fac n0 W mv n tw) (hb : Below n0 W W') : Fac n0 W' mv n tw := by
  obtain ⟨tv, h1, h2⟩ := h.look
  exact ⟨tv, fun W2 h3 => h1 W2 (hb.trans h3), h2.below hb (Nat.le_refl _)⟩

theorem info32 : (Try.prog.info? 32).map (fun i => (i.zero, i.size, i.bytes)) = some (some (.agg #[.int .u32 0, .int .u32 0]), 2, 8) := by kernel_rfl

/-- The cells of a list of numbers. -/
def cells2 (xs : List P2) : List Value := xs.flatMap fun x => [.int .u32 x.1, .int .u32 x.2]
theorem cells2_snoc (xs : List P2) (x : P2) : cells2 (xs ++ [x]) = cells2 xs ++ [.int .u32 x.1, .int .u32 x.2] := by simp [cells2]

theorem cells2_len (xs : List P2) : (cells2 xs).length = xs.length * 2 := by
  induction xs with
  | nil => rfl
  | cons x xs ih => simp only [cells2, List.flatMap_cons, List.length_append, List.length_cons, List.length_nil] at ih ⊢; omega
theorem cells2_at : ∀ (xs : List P2) (j : Nat), j < xs.length → (cells2 xs)[j * 2]? = some (.int .u32 (el xs j).1) ∧ (cells2 xs)[j * 2 + 1]? = some (.int .u32 (el xs j).2)
  | x :: xs, 0, _ => ⟨rfl, rfl⟩
  | x :: xs, j + 1, h => by
    have := cells2_at xs j (by simpa using h)
    have e : cells2 (x :: xs) = .int .u32 x.1 :: .int .u32 x.2 :: cells2 xs := rfl
    have e1 : (j + 1) * 2 = j * 2 + 1 + 1 := by omega
    have e2 : el (x :: xs) (j + 1) = el xs j := rfl
    rw [e, e1, e2]
    exact this

/-- A slice that owns its numbers. -/
theorem nums_of_row {W : World} {base : Nat} {v : Value} {xs : List P2} (h : W.ownsRow base 32 2 v xs.length (cells2 xs)) (h0 : xs ≠ []) : Nums W.heap.size W v xs := by
  rcases h.2 with ⟨_, hz⟩ | ⟨g, cap, cur, rfl, _, hg, hc, hm, hs, ht⟩
  · exact absurd (List.length_eq_zero_iff.1 hz) h0
  · have key : ∀ i, i < xs.length * 2 → W.cell? ⟨g, i, none⟩ = (cells2 xs)[i]? := by
      intro i hi
      rw [cell_of_row W g i cur 32 (0, 0) hg, ← ht, List.getElem?_take_of_lt hi, Array.getElem?_toList]
    refine ⟨g, 0, cap, rfl, (Array.getElem?_eq_some_iff.1 hg).1, hc, hm, ?_, ?_⟩
    · intro j hj
      rw [Nat.zero_add, key _ (by omega)]
      exact (cells2_at xs j hj).1
    · intro j hj
      rw [Nat.zero_add, key _ (by omega)]
      exact (cells2_at xs j hj).2

theorem cell_two_new (w : World) (x y : Value) (t : TypeId) : ∀ j u, [x, y][j]? = some u → (w.alloc (.cells #[x, y] t)).cell? ((⟨w.heap.size, 0, none⟩ : Addr).add j) = some u := by
  intro j u hj
  match j, hj with
  | 0, hj => simp at hj; subst hj; simp [Addr.add]
  | 1, hj => simp at hj; subst hj; simp [Addr.add]
  | j + 2, hj => simp at hj
theorem nums_tail {n0 n : Nat} {W : World} {b off cap : Nat} {xs : List P2} (h : Nums n0 W (.slice (some ⟨b, off, none⟩) (n + 1) cap) xs) (hx : xs.length = n + 1) : Nums n0 W (.slice (some ⟨b, off + 2, none⟩) n (cap - 1)) xs.tail := by
  obtain ⟨b', off', cap', e, hb, hc, hm, h1, h2⟩ := h
  simp only [Value.slice.injEq, Option.some.injEq, Addr.mk.injEq, and_true] at e
  obtain ⟨⟨rfl, rfl⟩, _, rfl⟩ := e
  have hl : xs.tail.length = n := by simp; omega
  have he : ∀ j, el xs.tail j = el xs (j + 1) := by intro j; cases xs <;> simp [el]
  refine ⟨b, off + 2, cap - 1, by rw [hl], hb, by omega, by omega, fun j hj => ?_, fun j hj => ?_⟩
  · have := h1 (j + 1) (by omega)
    rw [he, show off + 2 + j * 2 = off + (j + 1) * 2 by omega]; exact this
  · have := h2 (j + 1) (by omega)
    rw [he, show off + 2 + j * 2 + 1 = off + (j + 1) * 2 + 1 by omega]; exact this

/-- All blocks of a world but one are as they were. -/
def Lows (B : Nat) (W1 W : World) : Prop := ∀ k, k < W1.heap.size → k ≠ B → W.heap[k]? = W1.heap[k]?
theorem lows_own {β : Type} (B : Nat) (W1 : World) : OwnFrom W1.heap.size (fun (_ : β) W => W1.heap.size ≤ W.heap.size ∧ Lows B W1 W) := fun _ X Y row hs hg hr =>
  ⟨Nat.le_trans hs.1 hg.size, fun k hk hB => (hg.block k (by omega) (fun e => by have := (hr k e.symm).1; omega)).trans (hs.2 k hk hB)⟩
theorem row_base {W : World} {base base' : Nat} {e : TypeId} {size n : Nat} {v : Value} {xs : List Value} (h : W.ownsRow base e size v n xs) (hb : base' ≤ base) : W.ownsRow base' e size v n xs := by
  refine ⟨h.1, ?_⟩
  rcases h.2 with h | ⟨g, cap, cur, e1, e2, rest⟩
  · exact .inl h
  · exact .inr ⟨g, cap, cur, e1, Nat.le_trans hb e2, rest⟩
theorem row_low {W1 W2 : World} {B base : Nat} {e : TypeId} {size n : Nat} {v : Value} {xs : List Value} (h : W1.ownsRow base e size v n xs) (hne : some B ≠ v.ownBlock) (hL : Lows B W1 W2) : W2.ownsRow base e size v n xs := by
  refine ⟨h.1, ?_⟩
  rcases h.2 with h | ⟨g, cap, cur, rfl, e2, hg, rest⟩
  · exact .inl h
  · exact .inr ⟨g, cap, cur, rfl, e2, (hL g (Array.getElem?_eq_some_iff.1 hg).1 (fun e' => hne (by rw [e']; rfl))).trans hg, rest⟩
/-- What an append to a row that was made behind W1, and the store of it, leave of what lay there. -/
theorem low_kept {W1 W w1 : World} {B : Nat} {e : TypeId} {size n : Nat} {v x : Value} {xs : List Value} {tmp : Obj} (hrow : W.ownsRow W1.heap.size e size v n xs) (hgrow : (W.alloc tmp).grownBy w1 v.ownBlock) (hs : W1.heap.size ≤ W.heap.size) (h : Lows B W1 W) :
    Lows B W1 (w1.setCell ⟨B, 0, none⟩ x) := by
  intro k hk hB
  rw [heap_setCell_other _ _ _ _ hB]
  refine ((hgrow.block k (by simp; omega) ?_).trans (Below.heap_alloc _ _ _ (by omega))).trans (h k hk hB)
  rcases hrow.2 with ⟨rfl, _⟩ | ⟨g, cap, cur, rfl, hb, _⟩
  · simp [Value.ownBlock]
  · simp [Value.ownBlock]; omega

theorem Nums.lows {n0 B : Nat} {W1 W : World} {v : Value} {xs : List P2} (h : Nums n0 W1 v xs) (hB : n0 ≤ B) (hn : n0 ≤ W1.heap.size) (hL : Lows B W1 W) : Nums n0 W v xs := by
  obtain ⟨b, off, cap, rfl, hb, hc, hm, h1, h2⟩ := h
  have hh := hL b (by omega) (by omega)
  exact ⟨b, off, cap, rfl, hb, hc, hm, fun j hj => (World.cell?_of_block hh).trans (h1 j hj), fun j hj => (World.cell?_of_block hh).trans (h2 j hj)⟩

/-- A row of numbers that is being written: those for which p holds are there, the others are zero. -/
structure Res (W : World) (g n : Nat) (ys : List P2) (p : Nat → Bool) : Prop where
  row : ∃ cs, W.heap[g]? = some (.cells cs 32 (0, 0)) ∧ cs.size = n * 2 ∧
    ∀ i, i < n → cs[i * 2]? = some (.int .u32 (if p i then (el ys i).1 else 0 : Nat)) ∧ cs[i * 2 + 1]? = some (.int .u32 (if p i then (el ys i).2 else 0 : Nat))
theorem Res.cells {W : World} {g n : Nat} {ys : List P2} {p : Nat → Bool} (h : Res W g n ys p) {i : Nat} (hi : i < n) :
    (∃ v, W.cell? ⟨g, i * 2, none⟩ = some v) ∧ (∃ v, W.cell? ⟨g, i * 2 + 1, none⟩ = some v) ∧ W.frozen? ⟨g, i * 2, none⟩ = false ∧ W.frozen? ⟨g, i * 2 + 1, none⟩ = false := by
  obtain ⟨cs, hg, _, hc⟩ := h.row
  refine ⟨⟨_, (cell_of_row W g _ cs 32 (0, 0) hg).trans (hc i hi).1⟩, ⟨_, (cell_of_row W g _ cs 32 (0, 0) hg).trans (hc i hi).2⟩, ?_, ?_⟩ <;> simp [World.frozen?, hg]
theorem Res.set {W : World} {g n : Nat} {ys : List P2} {p q : Nat → Bool} (h : Res W g n ys p) {k : Nat} (hk : k < n) (hq : ∀ i, i < n → q i = (p i || decide (i = k))) :
    Res ((W.setCell ⟨g, k * 2, none⟩ (.int .u32 (el ys k).1)).setCell ⟨g, k * 2 + 1, none⟩ (.int .u32 (el ys k).2)) g n ys q := by
  obtain ⟨cs, hg, hs, hc⟩ := h.row
  have e1 := heap_setCell_same W g (k * 2) cs 32 (.int .u32 (el ys k).1) hg
  have e2 := heap_setCell_same _ g (k * 2 + 1) _ 32 (.int .u32 (el ys k).2) e1
  refine ⟨_, e2, by simp [hs], fun i hi => ?_⟩
  rw [hq i hi]
  by_cases hik : i = k
  · subst hik
    have b1 : i * 2 < cs.size := by omega
    have b2 : i * 2 + 1 < cs.size := by omega
    simp [Array.getElem?_setIfInBounds, b1, b2]
  · have b1 : ¬ k * 2 = i * 2 := by omega
    have b2 : ¬ k * 2 + 1 = i * 2 := by omega
    have b3 : ¬ k * 2 = i * 2 + 1 := by omega
    have b4 : ¬ k * 2 + 1 = i * 2 + 1 := by omega
    simp only [hik, decide_false, Bool.or_false]
    simp only [Array.getElem?_setIfInBounds, if_neg b1, if_neg b2, if_neg b3, if_neg b4]
    exact hc i hi
theorem Res.block {W W' : World} {g n : Nat} {ys : List P2} {p : Nat → Bool} (h : Res W g n ys p) (hb : W'.heap[g]? = W.heap[g]?) : Res W' g n ys p := by
  obtain ⟨cs, hg, r⟩ := h.row
  exact ⟨cs, hb.trans hg, r⟩
theorem Res.lt {W : World} {g n : Nat} {ys : List P2} {p : Nat → Bool} (h : Res W g n ys p) : g < W.heap.size := by
  obtain ⟨cs, hg, _⟩ := h.row
  exact (Array.getElem?_eq_some_iff.1 hg).1
theorem Res.nums {W : World} {g n : Nat} {ys : List P2} {p : Nat → Bool} (h : Res W g n ys p) (hp : ∀ i, i < n → p i = true) (hn : ys.length = n) (hl : n ≤ 64) : Nums W.heap.size W (.slice (some ⟨g, 0, none⟩) n n) ys := by
  have hlt := h.lt
  obtain ⟨cs, hg, hs, hc⟩ := h.row
  refine ⟨g, 0, n, by rw [hn], hlt, by omega, by unfold maxLen; omega, fun j hj => ?_, fun j hj => ?_⟩
  · rw [Nat.zero_add, cell_of_row W g _ cs 32 (0, 0) hg, (hc j (by omega)).1, hp j (by omega), if_pos rfl]
  · rw [Nat.zero_add, cell_of_row W g _ cs 32 (0, 0) hg, (hc j (by omega)).2, hp j (by omega), if_pos rfl]

theorem bel_al {w W : World} (h : Below w.heap.size w W) (o : Obj) : Below w.heap.size w (W.alloc o) := h.alloc h.size o
theorem bel_sc2 {w W : World} {b : Nat} {x y : Value} (h : Below w.heap.size w W) (hb : w.heap.size ≤ b) : Below w.heap.size w ((W.setCell ⟨b, 0, none⟩ x).setCell ⟨b, 1, none⟩ y) :=
  (h.setCell (p := ⟨b, 0, none⟩) hb x).setCell (p := ⟨b, 1, none⟩) hb y
theorem box2_set {W : World} {g : Nat} {x y a b : Value} (h : Box2 W g x y) : Box2 ((W.setCell ⟨g, 0, none⟩ a).setCell ⟨g, 1, none⟩ b) g a b := by
  obtain ⟨r0, r1⟩ := set2 h.c0 h.c1 a b
  refine ⟨?_, r1, by rw [World.frozen?_setCell, World.frozen?_setCell]; exact h.f0, by rw [World.frozen?_setCell, World.frozen?_setCell]; exact h.f1, by simp; exact h.lt⟩
  rw [World.cell?_setCell_other _ _ _ _ (by simp)]
  exact r0
theorem mk2 (W : World) : (Instr.makeSlice 24 (.int .i64 2) (.int .i64 2)).run Try.prog W = .ok (.slice (some ⟨W.heap.size, 0, none⟩) 2 2) (W.alloc (.cells #[.int .u32 0, .int .u32 0, .int .u32 0, .int .u32 0] 32)) := by
  obtain ⟨i0, hi, hz0, hz1, hz2⟩ := info_parts info32
  have := run_make (P := Try.prog) W 24 32 i0 _ Try.underlying24 hi hz0 .i64 .i64 2 2 (by omega) (by omega) (by rw [hz2]; decide) (by omega)
  have hm : madeCells (Value.agg #[.int .u32 0, .int .u32 0]).cells (Int.toNat 2 * 2) = #[.int .u32 0, .int .u32 0, .int .u32 0, .int .u32 0] := by kernel_rfl
  rw [hz1, hm] at this
  exact this
theorem mk4 (W : World) : (Instr.makeSlice 24 (.int .i64 4) (.int .i64 4)).run Try.prog W = .ok (.slice (some ⟨W.heap.size, 0, none⟩) 4 4) (W.alloc (.cells #[.int .u32 0, .int .u32 0, .int .u32 0, .int .u32 0, .int .u32 0, .int .u32 0, .int .u32 0, .int .u32 0] 32)) := by
  obtain ⟨i0, hi, hz0, hz1, hz2⟩ := info_parts info32
  have := run_make (P := Try.prog) W 24 32 i0 _ Try.underlying24 hi hz0 .i64 .i64 4 4 (by omega) (by omega) (by rw [hz2]; decide) (by omega)
  have hm : madeCells (Value.agg #[.int .u32 0, .int .u32 0]).cells (Int.toNat 4 * 2) = #[.int .u32 0, .int .u32 0, .int .u32 0, .int .u32 0, .int .u32 0, .int .u32 0, .int .u32 0, .int .u32 0] := by kernel_rfl
  rw [hz1, hm] at this
  exact this
theorem res2 (W : World) (ys : List P2) : Res (W.alloc (.cells #[.int .u32 0, .int .u32 0, .int .u32 0, .int .u32 0] 32)) W.heap.size 2 ys (fun _ => false) :=
  ⟨_, heap_alloc_new W _, rfl, fun i hi => by
    have : i = 0 ∨ i = 1 := by omega
    rcases this with rfl | rfl <;> exact ⟨rfl, rfl⟩⟩
theorem res4 (W : World) (ys : List P2) : Res (W.alloc (.cells #[.int .u32 0, .int .u32 0, .int .u32 0, .int .u32 0, .int .u32 0, .int .u32 0, .int .u32 0, .int .u32 0] 32)) W.heap.size 4 ys (fun _ => false) :=
  ⟨_, heap_alloc_new W _, rfl, fun i hi => by
    have : i = 0 ∨ i = 1 ∨ i = 2 ∨ i = 3 := by omega
    rcases this with rfl | rfl | rfl | rfl <;> exact ⟨rfl, rfl⟩⟩

theorem box2_own {X Y : World} {g : Nat} {u v : Value} {row : Option Nat} (h : Box2 X g u v) (hg : X.grownBy Y row) (hr : ∀ r, row = some r → ∃ o : Obj, X.heap[r]? = some o ∧ o.isCells = false) : Box2 Y g u v := by
  have hne : some g ≠ row := by
    intro e
    obtain ⟨o, ho, hc⟩ := hr g e.symm
    have := h.c0
    simp only [World.cell?, ho] at this
    cases o <;> simp_all [Obj.isCells]
  have hb := hg.block g h.lt hne
  exact ⟨(World.cell?_of_block hb).trans h.c0, (World.cell?_of_block hb).trans h.c1, (World.frozen?_of_block hb).trans h.f0, (World.frozen?_of_block hb).trans h.f1, Nat.lt_of_lt_of_le h.lt hg.size⟩
end Go.Proofs.Ytaacgfmpahfmpaa
