/- Contracts of Members, of the package and of the reference. -/
import Derived.Test.YtblklbmolfddpaaDoorPar
namespace Go.Proofs.YtblklbmolfddpaaDoor
open Go.RowKit

structure GMem (w : World) : Prop where
  mem : ∀ k, k < 12 → w.cell? ⟨1, k, none⟩ = some (.int .u64 (membersT.getD k 0))
theorem GMem.below {w w' : World} (h : GMem w) (hb : Below w.heap.size w w') : GMem w' :=
  ⟨fun k hk => by rw [bcell hb 1 k (lt_of_cell (h.mem k hk))]; exact h.mem k hk⟩

/-- v is a slice of just these integers. -/
def IsInts (W : World) (v : Value) (l : List Int) : Prop :=
  (v = .slice none 0 0 ∧ l = []) ∨ ∃ g cap, v = .slice (some ⟨g, 0, none⟩) l.length cap ∧ g < W.heap.size ∧ ∀ j, j < l.length → W.cell? ⟨g, j, none⟩ = some (.int .i64 (l.getD j 0))
theorem IsInts.below {W W' : World} {v : Value} {l : List Int} (h : IsInts W v l) (hb : Below W.heap.size W W') : IsInts W' v l := by
  rcases h with h | ⟨g, cap, hv, hg, hc⟩
  · exact .inl h
  · exact .inr ⟨g, cap, hv, Nat.lt_of_lt_of_le hg hb.size, fun j hj => by rw [bcell hb g j hg]; exact hc j hj⟩
def intsV (l : List Int) : List Value := l.map fun z => Value.int .i64 z
theorem IsInts.of_own {W : World} {B : Nat} {v : Value} {l : List Int} (h : W.ownsRow B 3 1 v l.length (intsV l)) : IsInts W v l := by
  have h0 := h
  rcases h.2 with ⟨hv, h0⟩ | ⟨g, cap, cur, rfl, hb, hg, _⟩
  · exact .inl ⟨hv, List.eq_nil_of_length_eq_zero h0⟩
  · refine .inr ⟨g, cap, rfl, (h0.lt g rfl).2, fun j hj => ?_⟩
    have := h0.cells (g := g) rfl j (.int .i64 (l.getD j 0)) (by simp [intsV, List.getD, List.getElem?_eq_getElem hj])
    rw [show (⟨g, 0, none⟩ : Addr).add j = ⟨g, j, none⟩ from by unfold Addr.add; split <;> simp_all] at this
    exact this

/-- The members up to k. -/
def memL (t : Int) : Nat → List Int
  | 0 => []
  | k + 1 => memL t k ++ (if amongB ((k : Int) + 1) t = true then [(k : Int) + 1] else [])
theorem memL_yes {t : Int} {k : Nat} (h : amongB ((k : Int) + 1) t = true) : memL t (k + 1) = memL t k ++ [(k : Int) + 1] := by simp [memL, h]
theorem memL_no {t : Int} {k : Nat} (h : amongB ((k : Int) + 1) t = false) : memL t (k + 1) = memL t k := by simp [memL, h]
theorem memL_len (t : Int) (k : Nat) : (memL t k).length ≤ k := by
  induction k with
  | zero => simp [memL]
  | succ k ih => simp only [memL, List.length_append]; split <;> simp <;> omega
def membersV (c : Int) : List Int := if 0 ≤ c ∧ c < 12 then memL (membersT.getD c.toNat 0) 6 else []

set_option maxRecDepth 100000 in
set_option maxHeartbeats 1600000 in
theorem members_in (c : Nat) (hc : c < 12) (w : World) (hG : GMem w) :
    Calls Tryd.prog 16 #[.int .i64 c] w fun e w' => ∃ v, e = .returned v ∧ IsInts w' v (memL (membersT.getD c 0) 6) ∧ Bel w w' := by
  obtain ⟨i0, hi, hz0, hz1, hz2⟩ := info_parts (P := Tryd.prog) (e := 3) (z := .int .i64 0) (size := 1) (bytes := 8) (by kernel_rfl)
  have HT := Lib.hid (fun (W : World) (h : w.grownBy W none) => (hG.below ⟨h.os, h.tape, h.output, h.size, fun k hk => h.block k hk (by simp)⟩).mem c hc)
  have h1 : (c : Int) < 12 := by omega
  clear hG
  generalize membersT.getD c 0 = t at HT ⊢
  go_enter Tryd.func16, Tryd.ntmps16
  go_wp2_with fail
  go_loopw [3, 4] (fun v i wr => ∃ k : Nat, k ≤ 6 ∧ i = .int .i64 ((k : Int) + 1) ∧ wr.ownsRow w.heap.size 3 1 v (memL t k).length (intsV (memL t k)) ∧ w.grownBy wr none) (fun _ i _ => 8 - (intOf i).toNat)
  case atStart => exact ⟨0, Nat.zero_le _, rfl, World.ownsRow_nil _ _ _ _, World.grownBy.refl _ _⟩
  case round =>
    obtain ⟨k, hk, rfl, hown, hgr⟩ := hrel
    by_cases hlt : k < 6
    · have h2 : (k : Int) + 1 ≤ 6 := by omega
      have h3 : (0 : Int) ≤ (k : Int) + 1 := by omega
      have hcell := HT.out wr hgr
      have hl := memL_len t k
      have hgs := hgr.size
      have A := fun W => among_any ((k : Int) + 1) t W
      cases hq : amongB ((k : Int) + 1) t with
      | false =>
        rw [hq] at A
        have A' := Lib.hid A
        have e1 := memL_no hq
        have hown2 := hown
        rw [← e1] at hown2
        have HO := Lib.hid hown2
        have HR := Lib.hid hgr
        clear A hq hown e1 hown2 hgr
        go_wp2_with fail
        refine (A'.out _).mono ?_
        rintro e w' ⟨rfl, rfl⟩
        go_wp2_with fail
        go_roundw
        case rel => exact ⟨k + 1, by omega, by go_num, HO.out, HR.out⟩
        case measure => simp [intOf]; omega
      | true =>
        rw [hq] at A
        have A' := Lib.hid A
        have e1 := Lib.hid (memL_yes hq)
        clear A hq
        go_wp2_with (first
          | ((with_reducible refine (A'.out _).mono ?_); rintro e w' ⟨rfl, rfl⟩)
          | (refine wpList_append_own _ rfl _ _ 28 rfl w.heap.size 3 i0 (.int .i64 0) 1 8 Tryd.underlying28 hi hz0 hz1 hz2 rfl (by decide) _ (memL t k).length _ rfl (hown.alloc _) ⟨wr.heap.size, 0, none⟩ 1 1 [.int .i64 ((k : Int) + 1)] rfl rfl ?_ ?_ ?_ ?_ ?_ ?_))
        · intro j u hj
          match j, hj with
          | 0, hj => simp at hj; subst hj; simp [Addr.add]
          | (j + 1), hj => simp at hj
        · intro u hu; simp at hu; subst hu; rfl
        · unfold maxLen; omega
        · omega
        · simp; omega
        · intro v' w1 hown1 hg1 _
          have hL := hown.lt
          have R2 : w.grownBy w1 none := ⟨hg1.os.trans hgr.os, hg1.tape.trans hgr.tape, hg1.output.trans hgr.output, by have := hg1.size; simp at this; omega, fun j hj _ => (hg1.block j (by simp; omega) (fun e => by have := (hL j e.symm).1; omega)).trans ((Below.heap_alloc _ _ _ (by omega)).trans (hgr.block j hj (by simp)))⟩
          have hown2 : w1.ownsRow w.heap.size 3 1 v' (memL t (k + 1)).length (intsV (memL t (k + 1))) := by
            rw [e1.out]
            simp only [intsV, List.map_append, List.length_append, List.map_cons, List.map_nil, List.length_cons, List.length_nil]
            exact hown1
          have HO := Lib.hid hown2
          have HR := Lib.hid R2
          clear hown hgr hown1 hg1 hown2 R2 hL
          go_wp2
          go_roundw
          case rel => exact ⟨k + 1, by omega, by go_num, HO.out, HR.out⟩
          case measure => simp [intOf]; omega
    · obtain rfl : k = 6 := by omega
      have HO := IsInts.of_own hown
      have HB : Bel w wr := ⟨hgr.os, hgr.tape, hgr.output, hgr.size, fun k hk => hgr.block k hk (by simp)⟩
      clear hown hgr HT
      go_wp2
      go_ret
      exact ⟨_, rfl, HO, HB⟩
end Go.Proofs.YtblklbmolfddpaaDoor
