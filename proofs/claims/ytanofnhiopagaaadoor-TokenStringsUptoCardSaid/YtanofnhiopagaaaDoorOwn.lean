/- Small laws: an owned row of bytes as a string. -/
import Derived.Test.YtanofnhiopagaaaDoorScan2
import Derived.OwnWalk
namespace Go.Proofs.YtanofnhiopagaaaDoor
open Go.RowKit

theorem grown_set {w : World} (b i : Nat) (v : Value) : w.grownBy (w.setCell ⟨b, i, none⟩ v) (some b) :=
  ⟨rfl, rfl, rfl, by simp, fun k _ hk => Below.heap_setCell w _ v k (fun e => hk (by simp [e]))⟩
theorem grown_of_below {w w' : World} (h : Below w.heap.size w w') (row : Option Nat) : w.grownBy w' row := ⟨h.os, h.tape, h.output, h.size, fun k hk _ => h.block k hk⟩
def u8s (l : List UInt8) : List Value := l.map fun c => .int .u8 (c.toNat : Int)
theorem grown_alloc (w : World) (o : Obj) (row : Option Nat) : w.grownBy (w.alloc o) row := grown_of_below ((Below.refl _ w).alloc (Nat.le_refl _) o) row

theorem conv_own {W : World} {B : Nat} {v : Value} {l : List UInt8} (hw : W.ownsRow B 5 1 v l.length (u8s l)) : (convert 46 9 v).run Tryd.prog W = .ok (.string ⟨l.toArray⟩) W := by
  rcases hw.2 with ⟨hv, h0⟩ | ⟨gq, cap, cur, hv, h2, h3, _⟩
  · have : l = [] := List.eq_nil_of_length_eq_zero h0
    subst this
    rw [hv, run_convert_bytes_string W 46 9 5 none 0 0 Tryd.underlying46 Tryd.underlying5 Tryd.underlying9]
    rfl
  · subst hv
    have hcells := hw.cells (g := gq) rfl
    exact run_convert_bytes_back (P := Tryd.prog) W 46 9 5 ⟨gq, 0, none⟩ cap l Tryd.underlying46 Tryd.underlying5 Tryd.underlying9 (fun j hj => hcells j (.int .u8 (l[j].toNat : Int)) (by simp [u8s, hj]))
end Go.Proofs.YtanofnhiopagaaaDoor
