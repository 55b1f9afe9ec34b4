/- Contracts: readers, and the closure that it returns. -/
import Derived.Test.YtanofnhiopagaaaDoorApp
import Derived.Laws.EntriesVeiled
namespace Go.Proofs.YtanofnhiopagaaaDoor
open Go.RowKit

/-- The boxes of the closures: the scanner's address, word, symbol. -/
structure RBox (W : World) (b B : Nat) : Prop where
  s : W.heap[B]? = some (.cells #[.pointer (some ⟨b, 0, none⟩)] 62 (0, 0))
  wd : W.heap[B + 1]? = some (.cells #[.func (.func 47) #[] #[.pointer (some ⟨B, 0, none⟩)]] 72 (0, 0))
  sy : W.heap[B + 2]? = some (.cells #[.func (.func 48) #[] #[.pointer (some ⟨B, 0, none⟩)]] 72 (0, 0))
theorem RBox.grown {w w' : World} {b B : Nat} {row : Option Nat} (h : RBox w b B) (hg : w.grownBy w' row) (h0 : ∀ q, row = some q → q < B ∨ B + 2 < q) : RBox w' b B :=
  ⟨(hg.block _ (Array.getElem?_eq_some_iff.1 h.s).1 (fun e => by have := h0 _ e.symm; omega)).trans h.s, (hg.block _ (Array.getElem?_eq_some_iff.1 h.wd).1 (fun e => by have := h0 _ e.symm; omega)).trans h.wd, (hg.block _ (Array.getElem?_eq_some_iff.1 h.sy).1 (fun e => by have := h0 _ e.symm; omega)).trans h.sy⟩

set_option maxRecDepth 100000 in
set_option maxHeartbeats 400000 in
theorem readers_any (b : Nat) (w : World) :
    Calls Tryd.prog 42 #[.pointer (some ⟨b, 0, none⟩)] w fun e w' =>
      e = .returned (.func (.func 50) #[] #[.pointer (some ⟨w.heap.size, 0, none⟩), .pointer (some ⟨w.heap.size + 1, 0, none⟩), .pointer (some ⟨w.heap.size + 2, 0, none⟩)]) ∧ RBox w' b w.heap.size ∧ Below w.heap.size w w' := by
  go_enter Tryd.func42, Tryd.ntmps42
  go_wp2
  go_ret
  refine ⟨rfl, ⟨?_, ?_, ?_⟩, ?_⟩
  · simp only [heap_alloc_if, World.size_alloc]
    rw [if_neg (by omega), if_neg (by omega)]
    simp
  · simp only [heap_alloc_if, World.size_alloc]
    rw [if_neg (by omega)]
    simp
  · simp only [heap_alloc_if, World.size_alloc]
    simp
  · exact (((Below.refl _ w).alloc (Nat.le_refl _) _).alloc (by simp) _).alloc (by simp; omega) _
end Go.Proofs.YtanofnhiopagaaaDoor
