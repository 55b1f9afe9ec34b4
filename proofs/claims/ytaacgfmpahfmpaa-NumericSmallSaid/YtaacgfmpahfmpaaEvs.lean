/- everySecond: the elements with even indices. -/
import Derived.Test.YtaacgfmpahfmpaaInt
import Derived.RangeFuncNested
import Derived.RangeFuncBound
import Derived.RangeFuncCalls
import Derived.RangeFuncLeaves
import Derived.RangeFuncBox
import Derived.Shelf.Abstract
import Derived.OwnWalkIn
import Derived.TacticsInMore
import Derived.LoopNIn
import Derived.LoopIn
import Derived.Maps.AppendAt
namespace Go.Proofs.Ytaacgfmpahfmpaa
open Go.RowKit Go.Shelf

attribute [local go_sem] Oper.semAt_some

abbrev P2 := Nat × Nat
def upto {α : Type} (f : Nat → α) (k : Nat) : List α := (List.range k).map f
theorem upto_succ {α : Type} (f : Nat → α) (k : Nat) : upto f (k + 1) = upto f k ++ [f k] := by simp [upto, List.range_succ]
theorem upto_length {α : Type} (f : Nat → α) (k : Nat) : (upto f k).length = k := by simp [upto]

/-- Element j of a list of numbers. -/
def el (xs : List P2) (j : Nat) : P2 := xs[j]?.getD (0, 0)

/-- A slice of numbers, in a block below n0. -/
def Nums (n0 : Nat) (W : World) (sv : Value) (xs : List P2) : Prop :=
  ∃ b off cap, sv = .slice (some ⟨b, off, none⟩) xs.length cap ∧ b < n0 ∧ xs.length ≤ cap ∧ cap ≤ maxLen ∧
    (∀ j, j < xs.length → W.cell? ⟨b, off + j * 2, none⟩ = some (.int .u32 (el xs j).1)) ∧ (∀ j, j < xs.length → W.cell? ⟨b, off + j * 2 + 1, none⟩ = some (.int .u32 (el xs j).2))
theorem Nums.below {n0 m : Nat} {A B : World} {sv : Value} {xs : List P2} (h : Nums n0 A sv xs) (hb : Below m A B) (hm : n0 ≤ m) : Nums n0 B sv xs := by
  obtain ⟨b, off, cap, e, hlt, hc, hc2, h1, h2⟩ := h
  exact ⟨b, off, cap, e, hlt, hc, hc2, fun j hj => (hb.cell (p := ⟨b, off + j * 2, none⟩) (by show b < m; omega)).trans (h1 j hj), fun j hj => (hb.cell (p := ⟨b, off + j * 2 + 1, none⟩) (by show b < m; omega)).trans (h2 j hj)⟩
theorem Nums.mono {n0 m : Nat} {A : World} {sv : Value} {xs : List P2} (h : Nums n0 A sv xs) (hm : n0 ≤ m) : Nums m A sv xs := by
  obtain ⟨b, off, cap, e, hlt, h⟩ := h
  exact ⟨b, off, cap, e, by omega, h⟩

def evens (xs : List P2) : List P2 := upto (fun j => el xs (2 * j)) ((xs.length + 1) / 2)

/-- What a round keeps: what lay below n0, and the block B. -/
def KB (n0 B : Nat) (W W' : World) : Prop := Below n0 W W' ∧ W'.heap[B]? = W.heap[B]?
theorem KB.refl (n0 B : Nat) (W : World) : KB n0 B W W := ⟨Below.refl _ _, rfl⟩
theorem KB.trans {n0 B : Nat} {X Y Z : World} (h : KB n0 B X Y) (k : KB n0 B Y Z) : KB n0 B X Z := ⟨h.1.trans k.1, k.2.trans h.2⟩
theorem KB.cell {n0 B : Nat} {X Y : World} (h : KB n0 B X Y) : Y.cell? ⟨B, 0, none⟩ = X.cell? ⟨B, 0, none⟩ := World.cell?_of_block h.2
theorem KB.put {n0 B : Nat} {w : World} (hn : n0 ≤ w.heap.size) (hB : B < w.heap.size) (W : World) (l : Nat) (o o' : Obj) (hl : w.heap.size ≤ l) (h : W.heap[l]? = some o) (h1 : o.isCells = false) (h2 : o.isWalk = false) : KB n0 B W (W.putObj l o') :=
  ⟨belowK_b hn W l o o' hl h h1 h2, World.putObj_heap_other (by omega)⟩

set_option maxRecDepth 100000 in
set_option maxHeartbeats 2000000 in
theorem evs_in (F : Fence) (n : Nat) (h66 : F.fn 66) (hro : F.round = none) (hn : 1 ≤ n) (l Bs n0 b off len cap : Nat) (xs : List P2) (hx : xs.length = len) (hlen : len ≤ 64) (hb : b < n0) (J Jx : List P2 → World → Prop)
    (hY : ∀ pre x W, J pre W → pre.length < (len + 1) / 2 → YieldAt F (n - 1) Try.prog l #[.agg #[.int .u32 x.1, .int .u32 x.2]] W fun e W' =>
      (e = .returned (.bool true) ∧ J (pre ++ [x]) W' ∧ KB n0 Bs W W') ∨ (e = .returned (.bool false) ∧ Jx (pre ++ [x]) W'))
    (W : World) (hBs : W.cell? ⟨Bs, 0, none⟩ = some (.slice (some ⟨b, off, none⟩) len cap)) 
    (hc1 : ∀ j, j < len → W.cell? ⟨b, off + j * 2, none⟩ = some (.int .u32 (el xs j).1)) (hc2 : ∀ j, j < len → W.cell? ⟨b, off + j * 2 + 1, none⟩ = some (.int .u32 (el xs j).2)) (h0 : J [] W) :
    CallsIn F n Try.prog 66 #[.func (.yield l) #[] #[], .pointer (some ⟨Bs, 0, none⟩)] W fun e W' => (∃ v, e = .returned v) ∧
      ((∃ ys, ys = evens xs ∧ J ys W') ∨ (∃ pre, Jx pre W')) := by
  refine callsIn_of_wp Try.func66 rfl h66 ?_ hro
  simp only [Try.ntmps66, List.size_toArray, List.length_cons, List.length_nil, Nat.reduceAdd, Nat.reduceSub, Array.replicate_succ, Array.replicate_zero, List.push_toArray, List.append_toArray, List.nil_append, List.cons_append]
  gi_wp2
  gi_loopw [3] (fun i wr => ∃ k : Nat, 2 * k ≤ len + 1 ∧ i = .int .i64 ((2 * k : Nat) : Int) ∧ J (upto (fun j => el xs (2 * j)) k) wr ∧ KB n0 Bs W wr)
    (fun i _ => len + 1 - (intOf i).toNat)
  case atStart => exact ⟨0, by omega, rfl, h0, KB.refl _ _ _⟩
  case round =>
    obtain ⟨k, hk, rfl, hJs, hnx⟩ := hrel
    have hBs' : wr.cell? ⟨Bs, 0, none⟩ = some (.slice (some ⟨b, off, none⟩) len cap) := hnx.cell.trans hBs
    by_cases hlt : 2 * k < len
    · have hcx1 := (hnx.1.cell (p := ⟨b, off + 2 * k * 2, none⟩) hb).trans (hc1 (2 * k) hlt)
      have hcx2 := (hnx.1.cell (p := ⟨b, off + 2 * k * 2 + 1, none⟩) hb).trans (hc2 (2 * k) hlt)
      obtain ⟨fn, tmps, assign, body, hy, hR⟩ := hY _ (el xs (2 * k)) wr hJs (by rw [upto_length]; omega)
      generalize hm : 2 * k = m at *
      gi_wp2
      refine hR.mono ?_
      rintro e W3 (⟨rfl, hJ3, hk3⟩ | ⟨rfl, hJx3⟩)
      · gi_wp2
        go_roundw
        case rel => exact ⟨k + 1, by omega, by congr 1; omega, by rw [upto_succ, hm]; exact hJ3, hnx.trans hk3⟩
        case measure => simp [intOf]; omega
      · gi_wp2
        refine bodyPost_ret (results_none rfl _ _ _) rfl ?_
        exact ⟨⟨_, rfl⟩, .inr ⟨_, hJx3⟩⟩
    · have hk' : k = (xs.length + 1) / 2 := by omega
      gi_wp2
      go_end0
      exact ⟨⟨_, rfl⟩, .inl ⟨_, by unfold evens; rw [← hk'], hJs⟩⟩

set_option maxHeartbeats 1000000 in
theorem evs65 (v : Value) (a : Option Addr) (len cap : Nat) (hv : v = .slice a len cap) (w : World) :
    Calls Try.prog 65 #[v] w fun e w' => e = .returned (.func (.func 66) #[] #[.pointer (some ⟨w.heap.size, 0, none⟩)]) ∧ w' = w.alloc (.cells #[v] 24) := by
  subst hv
  go_enter Try.func65, Try.ntmps65
  go_wp2
  go_ret
  exact ⟨rfl, rfl⟩

/-- What everySecond hands back, as a sequence. -/
theorem evs_stops (F : Fence) (n : Nat) (h66 : F.fn 66) (hro : F.round = none) (hn : 1 ≤ n) (Bs n0 : Nat) (sv : Value) (xs : List P2) (hx : xs.length ≤ 64) (w : World) (hBs : Bs < w.heap.size) (hn0 : n0 ≤ w.heap.size)
    (hc : w.cell? ⟨Bs, 0, none⟩ = some sv) (hN : Nums n0 w sv xs) :
    SeqStopsK F n Try.prog 66 #[.pointer (some ⟨Bs, 0, none⟩)] (fun x : P2 => #[Value.agg #[.int .u32 x.1, .int .u32 x.2]]) (KB n0 Bs) (fun ys => ys = evens xs) (fun _ => True) ((xs.length + 1) / 2) w := fun l J Jx W hW _ _ hY h0 => by
  have hc' := (hW.cell (p := ⟨Bs, 0, none⟩) hBs).trans hc
  obtain ⟨b, off, cap, rfl, hb, hcap, _, h1, h2⟩ := hN.below hW hn0
  refine (evs_in F n h66 hro hn l Bs n0 b off xs.length cap xs rfl hx hb J Jx hY W hc' h1 h2 h0).mono ?_
  rintro e W' ⟨he, ⟨ys, rfl, hj⟩ | ⟨pre, hj⟩⟩
  · exact ⟨he, .inl ⟨_, rfl, hj⟩⟩
  · exact ⟨he, .inr ⟨_, trivial, hj⟩⟩
end Go.Proofs.Ytaacgfmpahfmpaa
