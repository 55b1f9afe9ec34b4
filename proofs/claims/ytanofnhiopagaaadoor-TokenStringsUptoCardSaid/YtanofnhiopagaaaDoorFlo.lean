/- Contracts: decimal, where it reads an integer. -/
import Derived.Test.YtanofnhiopagaaaDoorRun
namespace Go.Proofs.YtanofnhiopagaaaDoor
open Go.RowKit

set_option maxRecDepth 100000 in
set_option maxHeartbeats 400000 in
theorem decimal_int (b : Nat) (s : ByteArray) (k : Nat) (ln : Bool) (M T : Value) (w : World) (hs : s.size ≤ 4000000000) (hk : k ≤ s.size) (h : Scn w b s k ln M T)
    (fuel k' : Nat) (ds : List Int) (hF : digF fuel s.data.toList 10 k false = some (ds, k')) (hlen : ds.length ≤ 4000000000) (hv : valD 10 ds 0 < 18446744073709551616) (hds : ds.isEmpty = false)
    (hc : byteV s.data.toList k' = 46) (hn : byteV s.data.toList (k' + 1) = 101) :
    Calls Tryd.prog 63 #[.pointer (some ⟨b, 0, none⟩)] w fun e w' =>
      e = .returned (.tuple #[.int .i64 3, .string ⟨(decL 40 (valD 10 ds 0) []).toArray⟩, .bool true]) ∧ Scn w' b s k' ln M T ∧ k' ≤ s.size ∧ w.grownBy w' (some b) := by
  have c1 := h.c1
  have R1 := Lib.hid (run_any b s k ln M T w hs hk h fuel k' ds hF hlen)
  go_enter Tryd.func63, Tryd.ntmps63
  go_wp2_with fail
  refine R1.out.mono ?_
  rintro e W1 ⟨rfl, h1, hk1, g1⟩
  clear c1 R1
  have c1 := h1.c1
  have B1 := Lib.hid (byteAt_any b s k' ln M T k' W1 (by unfold maxLen; omega) h1)
  rw [hc] at B1
  have B2 := Lib.hid (byteAt_any b s k' ln M T (k' + 1) W1 (by unfold maxLen; omega) h1)
  rw [hn, show ((k' + 1 : Nat) : Int) = (k' : Int) + 1 from by omega] at B2
  have f1 := h1.fz 1
  have hs1 := h1.set1 (k : Int)
  have gs1 := g1.trans (grown_set (w := W1) b 1 (.int .i64 k))
  have I1 := Lib.hid (integer_small b s k 10 (by omega) (by omega) ln M T _ hs hk hs1 fuel k' ds hF hv)
  have D1 := Lib.hid (isDigit_any 101 W1)
  have ed : digitB 101 = false := by decide
  rw [ed] at D1
  have j1 : (k' : Int) ≤ 4000000000 := by omega
  go_wp2_with fail
  refine B1.out.mono ?_
  rintro e w' ⟨rfl, rfl⟩
  go_wp2_with fail
  refine B2.out.mono ?_
  rintro e w' ⟨rfl, rfl⟩
  go_wp2_with fail
  refine D1.out.mono ?_
  rintro e w' ⟨rfl, rfl⟩
  go_wp2_with fail
  refine B1.out.mono ?_
  rintro e w' ⟨rfl, rfl⟩
  go_wp2_with fail
  refine I1.out.mono ?_
  rintro e w' ⟨rfl, h2, hk2, g2⟩
  go_wp2_with fail
  go_ret3
  exact ⟨rfl, h2, hk2, gs1.trans g2⟩
end Go.Proofs.YtanofnhiopagaaaDoor
