/- Contracts: number, over integers (hexadecimal, decimal). -/
import Derived.Test.YtanofnhiopagaaaDoorFlo
namespace Go.Proofs.YtanofnhiopagaaaDoor
open Go.RowKit

theorem prefix_at (s : ByteArray) (k : Nat) (t : ByteArray) (w : World) (hs : s.size ≤ 4000000000) (ht : t.size ≤ 100) :
    Calls Tryd.prog 54 #[.string (s.extract k s.size), .string t] w fun e w' => e = .returned (.bool (hasPre (s.data.toList.drop k) t.data.toList)) ∧ w = w' := by
  have e : (s.extract k s.size).data.toList = s.data.toList.drop k := by rw [extract_list]; exact List.take_of_length_le (by simp)
  have := prefix_any (s.extract k s.size) t w (by unfold maxLen; rw [← len_list, e]; simp; omega) (by unfold maxLen; omega)
  rwa [e] at this

set_option maxRecDepth 100000 in
set_option maxHeartbeats 400000 in
theorem number_hex (b : Nat) (s : ByteArray) (k : Nat) (ln : Bool) (M T : Value) (w : World) (hs : s.size ≤ 4000000000) (hk : k + 2 ≤ s.size) (h : Scn w b s k ln M T)
    (hp : hasPre (s.data.toList.drop k) [48, 120] = true)
    (fuel k' : Nat) (ds : List Int) (hF : digF fuel s.data.toList 16 (k + 2) false = some (ds, k')) (hv : valD 16 ds 0 < 18446744073709551616) (hds : ds.isEmpty = false)
    (hc : wordB (byteV s.data.toList k') = false) :
    Calls Tryd.prog 51 #[.pointer (some ⟨b, 0, none⟩)] w fun e w' =>
      e = .returned (.tuple #[.int .i64 3, .string ⟨(decL 40 (valD 16 ds 0) []).toArray⟩]) ∧ Scn w' b s k' ln M T ∧ k' ≤ s.size ∧ w.grownBy w' (some b) := by
  have c0 := h.c0
  have c1 := h.c1
  have f1 := h.fz 1
  have i1 : (k : Int) + 2 ≤ s.size := by omega
  have i2 : (s.size : Int) ≤ 4000000000 := by omega
  have P1 := Lib.hid (fun W => prefix_at s k ⟨#[48, 120]⟩ W hs (by decide))
  have hp' : hasPre (s.data.toList.drop k) (ByteArray.mk #[48, 120]).data.toList = true := hp
  rw [hp'] at P1
  have hs1 := h.set1 ((k : Int) + 2)
  have gs1 := grown_set (w := w) b 1 (.int .i64 ((k : Int) + 2))
  have I1 := Lib.hid (integer_small b s (k + 2) 16 (by omega) (by omega) ln M T (w.setCell ⟨b, 1, none⟩ (.int .i64 ((k : Int) + 2))) hs hk (by simpa using hs1) fuel k' ds hF hv)
  go_enter Tryd.func51, Tryd.ntmps51
  go_wp2_with fail
  refine (P1.out _).mono ?_
  rintro e w' ⟨rfl, rfl⟩
  go_wp2_with fail
  refine I1.out.mono ?_
  rintro e w' ⟨rfl, h2, hk2, g2⟩
  have B1 := Lib.hid (byteAt_any b s k' ln M T k' w' (by unfold maxLen; omega) h2)
  have W1 := Lib.hid (inWord_any (byteV s.data.toList k') w')
  rw [hc] at W1
  have c12 := h2.c1
  generalize byteV s.data.toList k' = c at *
  go_wp2_with fail
  refine B1.out.mono ?_
  rintro e w' ⟨rfl, rfl⟩
  go_wp2_with fail
  refine W1.out.mono ?_
  rintro e w' ⟨rfl, rfl⟩
  go_wp2_with fail
  go_ret2
  exact ⟨rfl, h2, hk2, gs1.trans g2⟩

set_option maxRecDepth 100000 in
set_option maxHeartbeats 400000 in
theorem number_int (b : Nat) (s : ByteArray) (k : Nat) (ln : Bool) (M T : Value) (w : World) (hs : s.size ≤ 4000000000) (hk : k ≤ s.size) (h : Scn w b s k ln M T)
    (hp : hasPre (s.data.toList.drop k) [48, 120] = false) (hp2 : hasPre (s.data.toList.drop k) [48, 98] = false)
    (fuel k' : Nat) (ds : List Int) (hF : digF fuel s.data.toList 10 k false = some (ds, k')) (hlen : ds.length ≤ 4000000000) (hv : valD 10 ds 0 < 18446744073709551616) (hds : ds.isEmpty = false)
    (hc : byteV s.data.toList k' = 46) (hn : byteV s.data.toList (k' + 1) = 101) :
    Calls Tryd.prog 51 #[.pointer (some ⟨b, 0, none⟩)] w fun e w' =>
      e = .returned (.tuple #[.int .i64 3, .string ⟨(decL 40 (valD 10 ds 0) []).toArray⟩]) ∧ Scn w' b s k' ln M T ∧ k' ≤ s.size ∧ w.grownBy w' (some b) := by
  have c0 := h.c0
  have c1 := h.c1
  have i1 : (k : Int) ≤ s.size := by omega
  have i2 : (s.size : Int) ≤ 4000000000 := by omega
  have P1 := Lib.hid (fun W => prefix_at s k ⟨#[48, 120]⟩ W hs (by decide))
  have P2 := Lib.hid (fun W => prefix_at s k ⟨#[48, 98]⟩ W hs (by decide))
  have hp' : hasPre (s.data.toList.drop k) (ByteArray.mk #[48, 120]).data.toList = false := hp
  have hp2' : hasPre (s.data.toList.drop k) (ByteArray.mk #[48, 98]).data.toList = false := hp2
  rw [hp'] at P1
  rw [hp2'] at P2
  have D1 := Lib.hid (decimal_int b s k ln M T w hs hk h fuel k' ds hF hlen hv hds hc hn)
  go_enter Tryd.func51, Tryd.ntmps51
  go_wp2_with fail
  refine (P1.out _).mono ?_
  rintro e w' ⟨rfl, rfl⟩
  go_wp2_with fail
  refine (P2.out _).mono ?_
  rintro e w' ⟨rfl, rfl⟩
  go_wp2_with fail
  refine D1.out.mono ?_
  rintro e w' ⟨rfl, h2, hk2, g2⟩
  have B1 := Lib.hid (byteAt_any b s k' ln M T k' w' (by unfold maxLen; omega) h2)
  rw [hc] at B1
  have W1 := Lib.hid (inWord_any 46 w')
  have ew : wordB 46 = false := by decide
  rw [ew] at W1
  have c12 := h2.c1
  go_wp2_with fail
  refine B1.out.mono ?_
  rintro e w' ⟨rfl, rfl⟩
  go_wp2_with fail
  refine W1.out.mono ?_
  rintro e w' ⟨rfl, rfl⟩
  go_wp2_with fail
  go_ret2
  exact ⟨rfl, h2, hk2, g2⟩
end Go.Proofs.YtanofnhiopagaaaDoor
