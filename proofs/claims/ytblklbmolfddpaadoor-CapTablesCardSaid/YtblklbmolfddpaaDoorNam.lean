/- Contracts of Name and Parse, of the package and of the reference. -/
import Derived.Test.YtblklbmolfddpaaDoorRefC
import Derived.OwnWalk
namespace Go.Proofs.YtblklbmolfddpaaDoor
open Go.RowKit

def str (l : List UInt8) : ByteArray := ⟨l.toArray⟩
def nameCells : Array Value := (namesT.map fun z => Value.string (str z)).toArray
/-- The names lie in their block. -/
def GNam (w : World) : Prop := ∃ t fr, w.heap[0]? = some (.cells nameCells t fr)
theorem GNam.below {w w' : World} (h : GNam w) (hb : Below w.heap.size w w') : GNam w' := by
  obtain ⟨t, fr, h⟩ := h
  exact ⟨t, fr, (hb.block 0 (Array.getElem?_eq_some_iff.1 h).1).trans h⟩
def nameAt (k : Nat) : List UInt8 := namesT.getD k []
theorem names_len : namesT.length = 12 := rfl
theorem nameCells_at (k : Nat) (hk : k < 12) : nameCells[k]? = some (.string (str (nameAt k))) := by
  unfold nameCells nameAt
  rw [List.getElem?_toArray, List.getElem?_map, List.getElem?_eq_getElem (by rw [names_len]; exact hk)]
  simp [List.getD, List.getElem?_eq_getElem (show k < namesT.length by rw [names_len]; exact hk)]
theorem GNam.cell {w : World} (h : GNam w) (k : Nat) (hk : k < 12) : w.cell? ⟨0, k, none⟩ = some (.string (str (nameAt k))) := by
  obtain ⟨t, fr, h⟩ := h
  unfold World.cell?
  rw [h]
  exact nameCells_at k hk

def nameV (c : Int) : List UInt8 := if 0 ≤ c ∧ c < 12 then nameAt c.toNat else []
theorem name_out {c : Int} (h : ¬ (0 ≤ c ∧ c < 12)) : nameV c = [] := if_neg h
theorem name_in (k : Nat) (h : k < 12) : nameV k = nameAt k := by unfold nameV; rw [if_pos (by omega)]; rfl

set_option maxHeartbeats 400000 in
theorem name_any (c : Int) (w : World) (hG : GNam w) :
    Calls Tryd.prog 11 #[.int .i64 c] w fun e w' => e = .returned (.string (str (nameV c))) ∧ w = w' := by
  by_cases h : 0 ≤ c ∧ c < 12
  · obtain ⟨h0, h1⟩ := h
    obtain ⟨k, rfl⟩ := Int.eq_ofNat_of_zero_le h0
    have hk : k < 12 := by omega
    rw [name_in k hk]
    have hc := hG.cell k hk
    clear hG
    generalize str (nameAt k) = s at hc ⊢
    go_enter Tryd.func11, Tryd.ntmps11
    go_wp2
    go_ret
    exact ⟨rfl, rfl⟩
  · rw [name_out h]
    by_cases h0 : c < 0
    · clear h
      go_enter Tryd.func11, Tryd.ntmps11
      go_wp2
      go_ret
      exact ⟨rfl, rfl⟩
    · have h1 : 12 ≤ c := by omega
      have h2 : 0 ≤ c := by omega
      clear h
      go_enter Tryd.func11, Tryd.ntmps11
      go_wp2
      go_ret
      exact ⟨rfl, rfl⟩

set_option maxHeartbeats 800000 in
theorem r_name (c : Int) (w : World) :
    Calls Tryd.prog 12 #[.int .i64 c] w fun e w' => e = .returned (.string (str (nameV c))) ∧ Below w.heap.size w w' := by
  by_cases h : 0 ≤ c ∧ c < 12
  · obtain ⟨h0, h1⟩ := h
    have hc : c = 0 ∨ c = 1 ∨ c = 2 ∨ c = 3 ∨ c = 4 ∨ c = 5 ∨ c = 6 ∨ c = 7 ∨ c = 8 ∨ c = 9 ∨ c = 10 ∨ c = 11 := by omega
    rcases hc with rfl | rfl | rfl | rfl | rfl | rfl | rfl | rfl | rfl | rfl | rfl | rfl <;> (
      clear h0 h1
      go_enter Tryd.func12, Tryd.ntmps12
      go_wp2
      go_ret
      exact ⟨rfl, (Below.refl _ _).alloc (Nat.le_refl _) _⟩)
  · rw [name_out h]
    by_cases h0 : c < 0
    · clear h
      go_enter Tryd.func12, Tryd.ntmps12
      go_wp2
      go_ret
      exact ⟨rfl, (Below.refl _ _).alloc (Nat.le_refl _) _⟩
    · have h1 : 12 ≤ c := by omega
      have h2 : 0 ≤ c := by omega
      clear h
      go_enter Tryd.func12, Tryd.ntmps12
      go_wp2
      go_ret
      exact ⟨rfl, (Below.refl _ _).alloc (Nat.le_refl _) _⟩
end Go.Proofs.YtblklbmolfddpaaDoor
