/- Contracts: digits, integer (numbers below 2^64). -/
import Derived.Test.YtanofnhiopagaaaDoorDec2
import Derived.Test.YtanofnhiopagaaaDoorDig
namespace Go.Proofs.YtanofnhiopagaaaDoor
open Go.RowKit

def valD (base : Nat) : List Int → Nat → Nat
  | [], a => a
  | d :: ds, a => valD base ds (a * base + d.toNat)

set_option maxRecDepth 100000 in
theorem digits_any (b : Nat) (base : Int) (w : World) :
    Calls Tryd.prog 72 #[.pointer (some ⟨b, 0, none⟩), .int .i64 base] w fun e w' =>
      e = .returned (.func (.func 79) #[] #[.pointer (some ⟨w.heap.size, 0, none⟩), .pointer (some ⟨w.heap.size + 1, 0, none⟩)]) ∧ DBox w' b w.heap.size (w.heap.size + 1) base ∧ Below w.heap.size w w' := by
  go_enter Tryd.func72, Tryd.ntmps72
  go_wp2
  go_ret
  refine ⟨rfl, ⟨?_, ?_⟩, ?_⟩
  · exact (Below.heap_alloc _ _ _ (by simp)).trans (World.alloc_heap_new w _)
  · have := World.alloc_heap_new (w.alloc (.cells #[.pointer (some ⟨b, 0, none⟩)] 62 (0, 0))) (.cells #[.int .i64 base] 3 (0, 0))
    rwa [World.size_alloc] at this
  · exact ((Below.refl _ w).alloc (Nat.le_refl _) _).alloc (by simp) _
end Go.Proofs.YtanofnhiopagaaaDoor
