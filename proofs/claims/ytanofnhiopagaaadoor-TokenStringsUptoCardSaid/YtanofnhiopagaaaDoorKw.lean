/- Contracts: Keywords, Symbols. -/
import Derived.Test.YtanofnhiopagaaaDoorScan2
import Derived.OwnWalk
namespace Go.Proofs.YtanofnhiopagaaaDoor
open Go.RowKit

def strsV (l : List (List UInt8)) : List Value := l.map fun x => Value.string (str x)
theorem strsV_take (l : List (List UInt8)) (k : Nat) (hk : k < l.length) : strsV (l.take (k + 1)) = strsV (l.take k) ++ [.string (str (l.getD k []))] := by
  unfold strsV
  rw [List.take_add_one, List.getElem?_eq_getElem hk, List.map_append]
  simp [List.getD, List.getElem?_eq_getElem hk]

set_option maxRecDepth 100000 in
set_option maxHeartbeats 400000 in
theorem keywords_any (w : World) (hg : GKw w) :
    Calls Tryd.prog 14 #[] w fun e w' => ∃ v, e = .returned v ∧ w'.ownsRow w.heap.size 9 1 v 51 (strsV kwBytes) ∧ w.grownBy w' none := by
  obtain ⟨t, fr, hg⟩ := hg
  obtain ⟨i0, hi, hz0, hz1, hz2⟩ := info_parts (P := Tryd.prog) (e := 9) (z := .string ⟨#[]⟩) (size := 1) (bytes := 16) (by kernel_rfl)
  go_enter Tryd.func14, Tryd.ntmps14
  go_wp2_with (first | (refine wpList_load_row rfl 44 _ rfl 0 rfl t (cellsOfL kwBytes) fr (.array 51 9) hg Tryd.underlying44 rfl (by rw [info44, size_kw]) ?_))
  clear hg
  go_loopw [1, 5] (fun v i wr => ∃ k : Nat, k ≤ 51 ∧ i = .int .i64 k ∧ wr.ownsRow w.heap.size 9 1 v k (strsV (kwBytes.take k)) ∧ w.grownBy wr none) (fun _ i _ => 51 - (intOf i).toNat)
  case atStart => exact ⟨0, Nat.zero_le _, rfl, World.ownsRow_nil _ _ _ _, World.grownBy.refl _ _⟩
  case round =>
    obtain ⟨k, hk, rfl, hown, hgr⟩ := hrel
    by_cases hlt : k < 51
    · have hix := fun W => idx44' k hlt W
      have hgs := hgr.size
      go_wp2_with (first
        | (refine wpList_append_own _ rfl _ _ 28 rfl w.heap.size 9 i0 (.string ⟨#[]⟩) 1 16 Tryd.underlying28 hi hz0 hz1 hz2 rfl (by decide) _ k _ rfl (hown.alloc _) ⟨wr.heap.size, 0, none⟩ 1 1 [.string (str (kwAt k))] rfl rfl ?_ ?_ ?_ ?_ ?_ ?_)
        | go_in)
      · intro j u hj
        match j, hj with
        | 0, hj => simp at hj; subst hj; simp [Addr.add]
        | (j + 1), hj => simp at hj
      · intro u hu; simp at hu; subst hu; rfl
      · unfold maxLen; omega
      · omega
      · simp; omega
      · intro v' w1 hown1 hg1 _
        have hL := hown.lt
        have R2 : w.grownBy w1 none := ⟨hg1.os.trans hgr.os, hg1.tape.trans hgr.tape, hg1.output.trans hgr.output, by have := hg1.size; simp at this; omega, fun j hj _ => (hg1.block j (by simp; omega) (fun e => by have := (hL j e.symm).1; omega)).trans ((Below.heap_alloc _ _ _ (by omega)).trans (hgr.block j hj (by simp)))⟩
        have e1 := strsV_take kwBytes k (by rw [kw_len]; exact hlt)
        have hown2 : w1.ownsRow w.heap.size 9 1 v' (k + 1) (strsV (kwBytes.take (k + 1))) := by rw [e1]; exact hown1
        clear hown hgr hown1 hg1 e1
        go_wp2
        go_roundw
        case rel => exact ⟨k + 1, by omega, by go_num, hown2, R2⟩
        case measure => simp [intOf]; omega
    · obtain rfl : k = 51 := by omega
      have e2 : kwBytes.take 51 = kwBytes := List.take_of_length_le (by rw [kw_len]; exact Nat.le_refl _)
      rw [e2] at hown
      go_wp2
      go_ret
      exact ⟨_, rfl, hown, hgr⟩

set_option maxRecDepth 100000 in
set_option maxHeartbeats 400000 in
theorem symbols_any (w : World) (hg : GSym w) :
    Calls Tryd.prog 16 #[] w fun e w' => ∃ v, e = .returned v ∧ w'.ownsRow w.heap.size 9 1 v 43 (strsV symBytes) ∧ w.grownBy w' none := by
  obtain ⟨t, fr, hg⟩ := hg
  obtain ⟨i0, hi, hz0, hz1, hz2⟩ := info_parts (P := Tryd.prog) (e := 9) (z := .string ⟨#[]⟩) (size := 1) (bytes := 16) (by kernel_rfl)
  go_enter Tryd.func16, Tryd.ntmps16
  go_wp2_with (first | (refine wpList_load_row rfl 45 _ rfl 1 rfl t (cellsOfL symBytes) fr (.array 43 9) hg Tryd.underlying45 rfl (by rw [info45, size_sym]) ?_))
  clear hg
  go_loopw [1, 5] (fun v i wr => ∃ k : Nat, k ≤ 43 ∧ i = .int .i64 k ∧ wr.ownsRow w.heap.size 9 1 v k (strsV (symBytes.take k)) ∧ w.grownBy wr none) (fun _ i _ => 43 - (intOf i).toNat)
  case atStart => exact ⟨0, Nat.zero_le _, rfl, World.ownsRow_nil _ _ _ _, World.grownBy.refl _ _⟩
  case round =>
    obtain ⟨k, hk, rfl, hown, hgr⟩ := hrel
    by_cases hlt : k < 43
    · have hix := fun W => idx45' k hlt W
      have hgs := hgr.size
      go_wp2_with (first
        | (refine wpList_append_own _ rfl _ _ 28 rfl w.heap.size 9 i0 (.string ⟨#[]⟩) 1 16 Tryd.underlying28 hi hz0 hz1 hz2 rfl (by decide) _ k _ rfl (hown.alloc _) ⟨wr.heap.size, 0, none⟩ 1 1 [.string (str (symAt k))] rfl rfl ?_ ?_ ?_ ?_ ?_ ?_)
        | go_in)
      · intro j u hj
        match j, hj with
        | 0, hj => simp at hj; subst hj; simp [Addr.add]
        | (j + 1), hj => simp at hj
      · intro u hu; simp at hu; subst hu; rfl
      · unfold maxLen; omega
      · omega
      · simp; omega
      · intro v' w1 hown1 hg1 _
        have hL := hown.lt
        have R2 : w.grownBy w1 none := ⟨hg1.os.trans hgr.os, hg1.tape.trans hgr.tape, hg1.output.trans hgr.output, by have := hg1.size; simp at this; omega, fun j hj _ => (hg1.block j (by simp; omega) (fun e => by have := (hL j e.symm).1; omega)).trans ((Below.heap_alloc _ _ _ (by omega)).trans (hgr.block j hj (by simp)))⟩
        have e1 := strsV_take symBytes k (by rw [sym_len]; exact hlt)
        have hown2 : w1.ownsRow w.heap.size 9 1 v' (k + 1) (strsV (symBytes.take (k + 1))) := by rw [e1]; exact hown1
        clear hown hgr hown1 hg1 e1
        go_wp2
        go_roundw
        case rel => exact ⟨k + 1, by omega, by go_num, hown2, R2⟩
        case measure => simp [intOf]; omega
    · obtain rfl : k = 43 := by omega
      have e2 : symBytes.take 43 = symBytes := List.take_of_length_le (by rw [sym_len]; exact Nat.le_refl _)
      rw [e2] at hown
      go_wp2
      go_ret
      exact ⟨_, rfl, hown, hgr⟩
end Go.Proofs.YtanofnhiopagaaaDoor
