/- Contracts: push (numbers below 2^64), digits. -/
import Derived.Test.YtanofnhiopagaaaDoorNumA
import Derived.Test.YtanofnhiopagaaaDoorDig
import Derived.Test.YtanofnhiopagaaaDoorScan3
namespace Go.Proofs.YtanofnhiopagaaaDoor
open Go.RowKit

set_option maxRecDepth 100000 in
set_option maxHeartbeats 800000 in
theorem push_small (g v base d : Nat) (w : World) (hb : base ≤ 16) (hd : d < 100) (hv : v * base + d < 18446744073709551616) (hbase : 1 ≤ base)
    (hg : w.heap[g]? = some (.cells #[.int .u64 0, .int .u64 v] 85 (0, 0))) :
    Calls Tryd.prog 73 #[.pointer (some ⟨g, 0, none⟩), .int .i64 base, .int .i64 d] w fun e w' =>
      e = .returned (.bool true) ∧ w'.heap[g]? = some (.cells #[.int .u64 0, .int .u64 (v * base + d : Nat)] 85 (0, 0)) ∧ w.grownBy w' (some g) := by
  have hvv : v < 18446744073709551616 := by
    have : v * 1 ≤ v * base := Nat.mul_le_mul_left v hbase
    omega
  have c0 : w.cell? ⟨g, 0, none⟩ = some (.int .u64 0) := by simp [World.cell?, hg]
  have c1 : w.cell? ⟨g, 1, none⟩ = some (.int .u64 v) := by simp [World.cell?, hg]
  have f0 : w.frozen? ⟨g, 0, none⟩ = false := by simp [World.frozen?, hg]
  have f1 : w.frozen? ⟨g, 1, none⟩ = false := by simp [World.frozen?, hg]
  have M1 : ∀ W, Calls Tryd.prog 81 #[.int .u64 0, .int .u64 base] W fun e w' => e = .returned (.tuple #[.int .u64 0, .int .u64 0]) ∧ W = w' := fun W => by
    have := Tryd.bits_Mul64 0 base (by omega) (by omega) W
    simp only [Nat.zero_mul, Nat.zero_div, Nat.zero_mod] at this
    exact this.mono fun _ _ ⟨a, b⟩ => ⟨a, b.symm⟩
  have M2 : ∀ W, Calls Tryd.prog 81 #[.int .u64 v, .int .u64 base] W fun e w' => e = .returned (.tuple #[.int .u64 0, .int .u64 (v * base : Nat)]) ∧ W = w' := fun W => by
    have := Tryd.bits_Mul64 v base hvv (by omega) W
    rw [Nat.div_eq_of_lt (by omega), Nat.mod_eq_of_lt (by omega)] at this
    exact this.mono fun _ _ ⟨a, b⟩ => ⟨a, b.symm⟩
  have A1 : ∀ W, (callFunc 82 #[.int .u64 (v * base : Nat), .int .u64 d, .int .u64 0]).run Tryd.prog W = .ok (.value (.tuple #[.int .u64 (v * base + d : Nat), .int .u64 0])) W := fun W => by
    have := add64_small (v * base) d 0 (by omega) (by omega) W
    simpa using this
  have A2 : ∀ W, (callFunc 82 #[.int .u64 0, .int .u64 0, .int .u64 0]).run Tryd.prog W = .ok (.value (.tuple #[.int .u64 0, .int .u64 0])) W := fun W => by
    have := add64_small 0 0 0 (by omega) (by omega) W
    simpa using this
  generalize hp : v * base = q at *
  have i1 : (base : Int) ≤ 16 := by omega
  have i2 : (d : Int) < 100 := by omega
  have M1' := Lib.hid M1
  have M2' := Lib.hid M2
  have HG := Lib.hid hg
  clear hp M1 M2 hg
  go_enter Tryd.func73, Tryd.ntmps73
  go_wp2_with fail
  refine (M1'.out _).mono ?_; rintro e w' ⟨rfl, rfl⟩
  go_wp2_with fail
  refine (M2'.out _).mono ?_; rintro e w' ⟨rfl, rfl⟩
  go_wp2_with fail
  go_ret
  refine ⟨rfl, ?_, (grown_set g 0 _).trans (grown_set g 1 _)⟩
  simp [World.setCell, Array.getElem?_modify, HG.out]
end Go.Proofs.YtanofnhiopagaaaDoor
