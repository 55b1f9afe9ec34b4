/- Contracts: decimal (numbers below 2^64). -/
import Derived.Test.YtanofnhiopagaaaDoorDec
import Derived.Laws.IdiomStrings
namespace Go.Proofs.YtanofnhiopagaaaDoor
open Go.RowKit

/-- The digits of a number, ahead of a tail. -/
def decL : Nat → Nat → List UInt8 → List UInt8
  | 0, _, acc => acc
  | n + 1, v, acc => if v / 10 = 0 then UInt8.ofNat (48 + v % 10) :: acc else decL n (v / 10) (UInt8.ofNat (48 + v % 10) :: acc)

def decCells (k : Nat) (acc : List UInt8) : Array Value := (List.replicate k (Value.int .u8 0) ++ acc.map fun c => Value.int .u8 (c.toNat : Int)).toArray
theorem decCells_set (k : Nat) (acc : List UInt8) (c : UInt8) : (decCells (k + 1) acc).setIfInBounds k (.int .u8 (c.toNat : Int)) = decCells k (c :: acc) := by
  unfold decCells
  apply Array.toList_inj.1
  simp only [Array.toList_setIfInBounds, List.toList_toArray]
  rw [List.replicate_succ', List.append_assoc, List.set_append_right _ _ (by simp)]
  simp
theorem decCells_get (k : Nat) (acc : List UInt8) (j : Nat) (hj : j < acc.length) : (decCells k acc)[k + j]? = some (.int .u8 (acc[j].toNat : Int)) := by
  unfold decCells
  simp [List.getElem?_append_right, hj]
theorem decCells_low (k : Nat) (acc : List UInt8) (j : Nat) (hj : j < k) : (decCells k acc)[j]? = some (.int .u8 0) := by
  unfold decCells
  simp [List.getElem?_append_left, hj, List.getElem?_replicate]

/-- The blocks of 'decimal'. -/
structure Dst (B : Nat) (W : World) (m k : Nat) (acc : List UInt8) : Prop where
  n : W.heap[B]? = some (.cells #[.int .u64 0, .int .u64 m] 85 (0, 0))
  o : W.heap[B + 1]? = some (.cells (decCells k acc) 95 (0, 0))
section
variable {B : Nat} {W : World} {m k : Nat} {acc : List UInt8}
theorem Dst.n0 (h : Dst B W m k acc) : W.cell? ⟨B, 0, none⟩ = some (.int .u64 0) := by simp [World.cell?, h.n]
theorem Dst.n1 (h : Dst B W m k acc) : W.cell? ⟨B, 1, none⟩ = some (.int .u64 m) := by simp [World.cell?, h.n]
theorem Dst.fn (h : Dst B W m k acc) (i : Nat) : W.frozen? ⟨B, i, none⟩ = false := by simp [World.frozen?, h.n]
theorem Dst.fo (h : Dst B W m k acc) (i : Nat) : W.frozen? ⟨B + 1, i, none⟩ = false := by simp [World.frozen?, h.o]
theorem Dst.at (h : Dst B W m k acc) (j : Nat) (hj : j < acc.length) : W.cell? ⟨B + 1, k + j, none⟩ = some (.int .u8 (acc[j].toNat : Int)) := by simp [World.cell?, h.o, decCells_get k acc j hj]
theorem Dst.low (h : Dst B W m k acc) (j : Nat) (hj : j < k) : W.cell? ⟨B + 1, j, none⟩ = some (.int .u8 0) := by simp [World.cell?, h.o, decCells_low k acc j hj]
theorem Dst.gd (h : Dst B W m k acc) : B + 1 < W.heap.size := (Array.getElem?_eq_some_iff.1 h.o).1
theorem Dst.drewN (h : Dst B W m k acc) (q : Nat) : Dst B (W.drewN q) m k acc := ⟨h.n, h.o⟩
end

theorem u8_of (r : Nat) (hr : r < 10) : ((UInt8.ofNat (48 + r)).toNat : Int) = 48 + (r : Int) := by
  have : (UInt8.ofNat (48 + r)).toNat = (48 + r) % 256 := rfl
  omega
theorem Dst.step {B : Nat} {W : World} {m k : Nat} {acc : List UInt8} (h : Dst B W m (k + 1) acc) (q r : Nat) (hr : r < 10) :
    Dst B (((W.setCell ⟨B, 0, none⟩ (.int .u64 0)).setCell ⟨B, 1, none⟩ (.int .u64 q)).setCell ⟨B + 1, k, none⟩ (.int .u8 (48 + (r : Int)))) q k (UInt8.ofNat (48 + r) :: acc) := by
  have hn := h.n
  have ho := h.o
  refine ⟨?_, ?_⟩
  · rw [Below.heap_setCell _ _ _ _ (by simp)]
    simp [World.setCell, Array.getElem?_modify, hn]
  · rw [← decCells_set, u8_of r hr]
    simp [World.setCell, Array.getElem?_modify, ho]
set_option maxRecDepth 100000 in
theorem slice40 (b k : Nat) (hk : k < 40) (W : World) : (Instr.sliceAt 95 (.pointer (some ⟨b, 0, none⟩)) (some (.int .i64 k)) none none).run Tryd.prog W = .ok (.slice (some ⟨b, k, none⟩) (40 - k) (40 - k)) W := by
  have hl : Tryd.prog.arrayLen 95 = 40 := by kernel_rfl
  have he : Tryd.prog.elem 95 = 5 := by kernel_rfl
  rw [run_sliceAt_array_l W 95 ⟨b, 0, none⟩ Tryd.underlying95 .i64 k (by omega) (by rw [hl]; omega), hl, he]
  simp [go_sem, slicedAt, Addr.add]
  rw [if_neg (by omega)]
  split
  · next h => rw [h]
  · rfl
theorem str40 {B : Nat} {W : World} {m k : Nat} {acc : List UInt8} (h : Dst B W m k acc) (hk : acc.length + k = 40) : (convert 46 9 (.slice (some ⟨B + 1, k, none⟩) (40 - k) (40 - k))).run Tryd.prog W = .ok (.string ⟨acc.toArray⟩) W := by
  have := run_convert_bytes_back (P := Tryd.prog) W 46 9 5 ⟨B + 1, k, none⟩ (40 - k) acc Tryd.underlying46 Tryd.underlying5 Tryd.underlying9 (fun j hj => by
    have := h.at j hj
    rcases Nat.eq_zero_or_pos j with h0 | h0
    · subst h0; simpa [Addr.add] using this
    · rw [Addr.add, if_neg (by omega)]; exact this)
  rwa [show acc.length = 40 - k by omega] at this

set_option maxRecDepth 100000 in
set_option maxHeartbeats 400000 in
theorem decimal_small (v : Nat) (w : World) (hv : v < 18446744073709551616) :
    Calls Tryd.prog 67 #[.agg #[.int .u64 0, .int .u64 v]] w fun e w' => e = .returned (.string ⟨(decL 40 v []).toArray⟩) ∧ Below w.heap.size w w' := by
  go_enter Tryd.func67, Tryd.ntmps67
  generalize hR : decL 40 v [] = R
  go_wp2
  go_loopg [4] 40 (fun g tat wr => tat = .int .i64 g ∧ 1 ≤ g ∧ g ≤ 40 ∧ ∃ (m : Nat) (acc : List UInt8), m < 10 ^ g ∧ m < 18446744073709551616 ∧ acc.length + g = 40 ∧ Dst w.heap.size wr m g acc ∧ Below w.heap.size w wr ∧ Hid (decL g m acc = R))
  case atStart =>
    refine ⟨rfl, by omega, by omega, v, [], by omega, hv, rfl, ⟨?_, ?_⟩, ?_, hR⟩
    · exact (Below.heap_alloc _ _ _ (by simp)).trans (World.alloc_heap_new w _)
    · have := World.alloc_heap_new (w.alloc (.cells #[.int .u64 0, .int .u64 v] 85 (0, 0))) (.cells (decCells 40 []) 95 (0, 0))
      rwa [World.size_alloc] at this
    · exact ((Below.refl _ w).alloc (Nat.le_refl _) _).alloc (by simp) _
  case round =>
    obtain ⟨rfl, hg1, hg2, m, acc, hm, hm2, hac, hd, hbw, hh⟩ := hrel
    cases gk with
    | zero => omega
    | succ k =>
      have D := fun W => div64_small m W hm2
      have hq : m / 10 < 10 ^ k := by rw [Nat.pow_succ] at hm; omega
      have hr : m % 10 < 10 := by omega
      have hq2 : m / 10 < 18446744073709551616 := by omega
      have hh2 := hh.out
      unfold decL at hh2
      have n0 := hd.n0
      have n1 := hd.n1
      have f0 := hd.fn 0
      have f1 := hd.fn 1
      have f2 := hd.fo k
      have n2 := hd.low k (by omega)
      have gd := hd.gd
      generalize m / 10 = q at *
      generalize m % 10 = r at *
      have i1 : (r : Int) < 10 := by omega
      have i2 : (k : Int) < 40 := by omega
      have D' := Lib.hid D
      have HH := Lib.hid hh2
      have HD := Lib.hid hd
      clear D hh hh2 hd
      go_wp2_with (fail)
      go_quiet (fail)
      go_wp2_with (fail)
      refine (D'.out _).mono ?_
      rintro e W3 ⟨rfl, q3, rfl⟩
      have hs := (HD.out.drewN (nq + q3)).step q r hr
      have hb2 : Below w.heap.size w (wr.drewN (nq + q3)) := hbw.trans ⟨rfl, rfl, rfl, Nat.le_refl _, fun _ _ => rfl⟩
      have hb3 : ∀ x, Below w.heap.size w ((((wr.drewN (nq + q3)).setCell ⟨w.heap.size, 0, none⟩ (.int .u64 0)).setCell ⟨w.heap.size, 1, none⟩ x).setCell ⟨w.heap.size + 1, k, none⟩ (.int .u8 (48 + (r : Int)))) := fun x =>
        ((hb2.setCell (p := ⟨w.heap.size, 0, none⟩) (Nat.le_refl _) _).setCell (p := ⟨w.heap.size, 1, none⟩) (Nat.le_refl _) _).setCell (p := ⟨w.heap.size + 1, k, none⟩) (Nat.le_succ _) _
      have H2 := HH.out
      by_cases hq0 : q = 0
      · subst hq0
        have st := str40 hs (by simp; omega)
        have h40 := fun W => slice40 (w.heap.size + 1) k (by omega) W
        rw [if_pos rfl] at H2
        have H3 := Lib.hid H2
        have HS := Lib.hid hs
        have HB := Lib.hid hb3
        simp only [Int.natCast_zero] at st
        rw [H2] at st
        clear HH H2 hs hb3 hb2
        go_wp2_with fail
        go_ret
        exact ⟨rfl, HB.out _⟩
      · rw [if_neg hq0] at H2
        have H3 := Lib.hid H2
        have HS := Lib.hid hs
        have HB := Lib.hid hb3
        clear HH H2 hs hb3 hb2
        go_wp2_with fail
        go_roundg k
        case rel =>
          have hk1 : 1 ≤ k := by
            rcases Nat.eq_zero_or_pos k with h | h
            · subst h; simp at hq; omega
            · exact h
          exact ⟨rfl, hk1, by omega, q, _, hq, hq2, by simp; omega, HS.out, HB.out _, H3⟩
        case measure => omega
end Go.Proofs.YtanofnhiopagaaaDoor
