/- The scanner's block in memory, and what keeps it. -/
import Derived.Test.YtanofnhiopagaaaDoorRows
import Derived.Test.YtanofnhiopagaaaDoorSpec
import Derived.WalkKit
import Derived.Deep.Draws
namespace Go.Proofs.YtanofnhiopagaaaDoor
open Go.RowKit

/-- Block b is the scanner: its text, its place, its mark of a line, its keywords, its tokens. -/
def Scn (w : World) (b : Nat) (s : ByteArray) (k : Int) (ln : Bool) (M T : Value) : Prop :=
  w.heap[b]? = some (.cells #[.string s, .int .i64 k, .bool ln, M, T] 66 (0, 0))

section
variable {w w' : World} {b : Nat} {s : ByteArray} {k : Int} {ln : Bool} {M T : Value}
theorem Scn.lt (h : Scn w b s k ln M T) : b < w.heap.size := (Array.getElem?_eq_some_iff.1 h).1
theorem Scn.c0 (h : Scn w b s k ln M T) : w.cell? ⟨b, 0, none⟩ = some (.string s) := by unfold Scn at h; simp [World.cell?, h]
theorem Scn.c1 (h : Scn w b s k ln M T) : w.cell? ⟨b, 1, none⟩ = some (.int .i64 k) := by unfold Scn at h; simp [World.cell?, h]
theorem Scn.c2 (h : Scn w b s k ln M T) : w.cell? ⟨b, 2, none⟩ = some (.bool ln) := by unfold Scn at h; simp [World.cell?, h]
theorem Scn.c3 (h : Scn w b s k ln M T) : w.cell? ⟨b, 3, none⟩ = some M := by unfold Scn at h; simp [World.cell?, h]
theorem Scn.c4 (h : Scn w b s k ln M T) : w.cell? ⟨b, 4, none⟩ = some T := by unfold Scn at h; simp [World.cell?, h]
theorem Scn.fz (h : Scn w b s k ln M T) (i : Nat) : w.frozen? ⟨b, i, none⟩ = false := by unfold Scn at h; simp [World.frozen?, h]
theorem Scn.set1 (h : Scn w b s k ln M T) (k' : Int) : Scn (w.setCell ⟨b, 1, none⟩ (.int .i64 k')) b s k' ln M T := by
  unfold Scn at h ⊢; simp [World.setCell, Array.getElem?_modify, h]
theorem Scn.set2 (h : Scn w b s k ln M T) (l : Bool) : Scn (w.setCell ⟨b, 2, none⟩ (.bool l)) b s k l M T := by
  unfold Scn at h ⊢; simp [World.setCell, Array.getElem?_modify, h]
theorem Scn.set4 (h : Scn w b s k ln M T) (T' : Value) : Scn (w.setCell ⟨b, 4, none⟩ T') b s k ln M T' := by
  unfold Scn at h ⊢; simp [World.setCell, Array.getElem?_modify, h]
theorem Scn.drew (h : Scn w b s k ln M T) : Scn w.drew b s k ln M T := h
theorem Scn.drewN (h : Scn w b s k ln M T) (n : Nat) : Scn (w.drewN n) b s k ln M T := h
theorem Scn.alloc (h : Scn w b s k ln M T) (o : Obj) : Scn (w.alloc o) b s k ln M T := (Below.heap_alloc w o b h.lt).trans h
theorem Scn.setOther (h : Scn w b s k ln M T) (a : Addr) (v : Value) (hb : a.block ≠ b) : Scn (w.setCell a v) b s k ln M T := (Below.heap_setCell w a v b (Ne.symm hb)).trans h
theorem Scn.grown (h : Scn w b s k ln M T) {row : Option Nat} (hg : w.grownBy w' row) (hr : some b ≠ row) : Scn w' b s k ln M T := (hg.block b h.lt hr).trans h
end
end Go.Proofs.YtanofnhiopagaaaDoor
