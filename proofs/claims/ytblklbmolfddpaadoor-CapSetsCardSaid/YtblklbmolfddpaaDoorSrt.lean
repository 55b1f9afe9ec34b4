/- Contracts of slices.IsSorted, Clone, Compact and Contains over the integers of a slice. -/
import Derived.Test.YtblklbmolfddpaaDoorRefD
import Derived.IntWalk
namespace Go.Proofs.YtblklbmolfddpaaDoor
open Go.RowKit

set_option maxRecDepth 100000 in
set_option maxHeartbeats 800000 in
theorem isSorted_ints (g cap : Nat) (l : List Int) (W : World) (hl : l.length ≤ 1000) (h0 : 0 < l.length)
    (hc : ∀ j, j < l.length → W.cell? ⟨g, j, none⟩ = some (.int .i64 (l.getD j 0)))
    (hs : ∀ j, 0 < j → j < l.length → decide (l.getD j 0 < l.getD (j - 1) 0) = false) :
    Calls Tryd.prog 47 #[.slice (some ⟨g, 0, none⟩) l.length cap] W fun e w' => e = .returned (.bool true) ∧ ∃ q, w' = W.drewN q := by
  have HC := Lib.hid (fun (wr : World) (h : ∃ q, wr = W.drewN q) j (hj : j < l.length) => (by obtain ⟨q, rfl⟩ := h; exact hc j hj : wr.cell? ⟨g, j, none⟩ = some (.int .i64 (l.getD j 0))))
  have HS := Lib.hid hs
  have b1 : (l.length : Int) ≤ 1000 := by omega
  have b2 : (1 : Int) ≤ l.length := by omega
  clear hc hs
  go_enter Tryd.func47, Tryd.ntmps47
  go_wp2
  go_loopw [3] (fun i wr => ∃ k : Nat, k < l.length ∧ i = .int .i64 k ∧ ∃ q, wr = W.drewN q) (fun i _ => (intOf i).toNat)
  case atStart => exact ⟨l.length - 1, by omega, by go_num, 0, rfl⟩
  case round =>
    obtain ⟨k, hk, rfl, hq⟩ := hrel
    have HQ := Lib.hid hq
    clear hq
    by_cases hk0 : 0 < k
    · obtain ⟨j, rfl⟩ : ∃ j, k = j + 1 := ⟨k - 1, by omega⟩
      have e1 := HC.out wr HQ.out (j + 1) hk
      have e2 := HC.out wr HQ.out j (by omega)
      have e3 := HS.out (j + 1) hk0 hk
      have i1 : (0 : Int) < (j : Int) + 1 := by omega
      have i2 : (j : Int) + 1 < l.length := by omega
      have i3 : (j : Int) < l.length := by omega
      have i0 : (0 : Int) ≤ (j : Int) + 1 := by omega
      have L := fun W' => Tryd.cmp_Less_int2 (l.getD (j + 1) 0) (l.getD j 0) W'
      rw [show j + 1 - 1 = j from rfl] at e3
      rw [e3] at L
      replace L := Lib.hid L
      generalize l.getD (j + 1) 0 = x at e1 L
      generalize l.getD j 0 = y at e2 L
      have s1 : IntKind.i64.wrap ((j : Int) + 1 - 1) = (j : Int) := by rw [Int.add_sub_cancel]; exact IntWalk.i64_in _ (by omega)
      have s2 : IntKind.i64.wrap (j : Int) = (j : Int) := IntWalk.i64_in _ (by omega)
      have s3 : ((j : Int) + 1).toNat = j + 1 := by omega
      clear e3 HC HS
      rw [show (((j + 1 : Nat)) : Int) = (j : Int) + 1 from by omega]
      go_wp2_with fail
      go_quiet ((go_at_call 61; exact Calls.quiet_of_same (L.out _)))
      clear s1 s2 s3
      go_wp2_with fail
      go_roundw
      case rel => exact ⟨j, by omega, by go_num, by obtain ⟨q, rfl⟩ := HQ.out; exact ⟨_, World.drewN_drewN _ _ _⟩⟩
      case measure => simp [intOf]
    · obtain rfl : k = 0 := by omega
      clear HC HS
      go_wp2
      go_ret
      exact ⟨rfl, HQ.out⟩
end Go.Proofs.YtblklbmolfddpaaDoor
