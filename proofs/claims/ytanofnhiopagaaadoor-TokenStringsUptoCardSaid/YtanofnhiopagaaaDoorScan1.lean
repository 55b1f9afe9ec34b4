/- Contracts: byteAt, goesOn. -/
import Derived.Test.YtanofnhiopagaaaDoorLeaf
import Derived.Test.YtanofnhiopagaaaDoorMem
import Derived.Deep.QuietTactic
import Derived.BigQuiet
import Derived.IntWalk
namespace Go.Proofs.YtanofnhiopagaaaDoor
open Go.RowKit

set_option maxHeartbeats 400000 in
theorem byteAt_any (b : Nat) (s : ByteArray) (j : Int) (ln : Bool) (M T : Value) (k : Nat) (w : World) (hs : s.size ≤ maxLen) (h : Scn w b s j ln M T) :
    Calls Tryd.prog 64 #[.pointer (some ⟨b, 0, none⟩), .int .i64 k] w fun e w' => e = .returned (.int .u8 (byteV s.data.toList k)) ∧ w = w' := by
  unfold maxLen at hs
  have h0 := h.c0
  have HV : Hid (byteV s.data.toList k = if h : k < s.size then (s[k].toNat : Int) else 32) := by unfold byteV; simp; rfl
  clear h
  go_enter Tryd.func64, Tryd.ntmps64
  by_cases hlt : k < s.size
  · go_wp2
    go_ret
    exact ⟨ret_int (by rw [HV.out]; simp [hlt]), rfl⟩
  · go_wp2
    go_ret
    exact ⟨ret_int (by rw [HV.out]; simp [hlt]), rfl⟩

set_option maxHeartbeats 400000 in
theorem goesOn_any (b : Nat) (s t : ByteArray) (k : Nat) (ln : Bool) (M T : Value) (w : World) (hs : s.size ≤ maxLen) (ht0 : 0 < t.size) (ht : t.size ≤ 1000) (hk : k ≤ s.size) (h : Scn w b s k ln M T) (hs2 : s.size ≤ 4000000000) :
    Calls Tryd.prog 61 #[.pointer (some ⟨b, 0, none⟩), .string t] w fun e w' => e = .returned (.bool (goesOnB s.data.toList k t.data.toList)) ∧ w = w' := by
  unfold maxLen at hs
  have h0 := h.c0
  have h1 := h.c1
  clear h
  have HV : Hid (goesOnB s.data.toList k t.data.toList = (letterB (t[t.size - 1]'(by omega)).toNat && decide (k + t.size < s.size) && wordB (byteV s.data.toList (k + t.size)))) := by
    refine Lib.hid ?_
    unfold goesOnB
    rw [len_list, len_list, byteV_at t (t.size - 1) (by omega)]
  have e1 : ((t.size : Int) - 1).toNat = t.size - 1 := by omega
  have e2 : IntKind.i64.wrap ((k : Int) + t.size) = (k : Int) + t.size := IntWalk.i64_in _ (by omega)
  go_enter Tryd.func61, Tryd.ntmps61
  go_wp2_with (first | (go_at_call 45; refine (isLetter_any _ _).mono ?_; rintro e w' ⟨rfl, rfl⟩) | (go_at_call 35; refine (inWord_any _ _).mono ?_; rintro e w' ⟨rfl, rfl⟩))
  all_goals go_ret
  · have hlt : k + t.size < s.size := by omega
    refine ⟨ret_bool ?_, rfl⟩
    have ea : ((k : Int) + t.size).toNat = k + t.size := by omega
    rw [HV.out, byteV_at s (k + t.size) hlt]
    simp [hlt, ea, *]
  · have hlt : ¬ k + t.size < s.size := by omega
    exact ⟨ret_bool (by rw [HV.out]; simp [hlt]), rfl⟩
  · have hl : letterB (t[t.size - 1]'(by omega)).toNat = false := by simpa using ‹¬ letterB _ = true›
    exact ⟨ret_bool (by rw [HV.out, hl]; simp), rfl⟩
end Go.Proofs.YtanofnhiopagaaaDoor
