/- Contracts of Local, Global, counts, Store, Recover and Consumed of package cap. -/
import Derived.Test.YtblklbmolfddpaaDoorBase
import Derived.Deep.QuietTactic
import Derived.BigQuiet
namespace Go.Proofs.YtblklbmolfddpaaDoor
open Go.RowKit

structure GLoc (w : World) : Prop where
  locals : ∀ k, k < 7 → w.cell? ⟨5, k, none⟩ = some (.int .u64 (localsT.getD k 0))
structure GGlo (w : World) : Prop where
  globals : ∀ k, k < 7 → w.cell? ⟨6, k, none⟩ = some (.int .u64 (globalsT.getD k 0))
structure GSto (w : World) : Prop where
  stores : ∀ k, k < 7 → w.cell? ⟨4, k, none⟩ = some (.int .u64 (storesT.getD k 0))
theorem GLoc.below {w w' : World} (h : GLoc w) (hb : Below w.heap.size w w') : GLoc w' :=
  ⟨fun k hk => by rw [bcell hb 5 k (lt_of_cell (h.locals k hk))]; exact h.locals k hk⟩
theorem GGlo.below {w w' : World} (h : GGlo w) (hb : Below w.heap.size w w') : GGlo w' :=
  ⟨fun k hk => by rw [bcell hb 6 k (lt_of_cell (h.globals k hk))]; exact h.globals k hk⟩
theorem GSto.below {w w' : World} (h : GSto w) (hb : Below w.heap.size w w') : GSto w' :=
  ⟨fun k hk => by rw [bcell hb 4 k (lt_of_cell (h.stores k hk))]; exact h.stores k hk⟩

def localB (a b : Int) : Bool := capB a && amongB b (localsT.getD a.toNat 0)
def globalB (a b : Int) : Bool := capB a && amongB b (globalsT.getD a.toNat 0)

set_option maxHeartbeats 800000 in
theorem local_any (a b : Int) (w : World) (hG : GLoc w) :
    Calls Tryd.prog 41 #[.int .i64 a, .int .i64 b] w fun e w' => e = .returned (.bool (localB a b)) ∧ w = w' := by
  have I := Lib.hid (fun W => is_any a W)
  cases ha : capB a with
  | false =>
    have R : localB a b = false := by unfold localB; rw [ha]; rfl
    rw [R]
    rw [ha] at I
    clear ha hG R
    go_enter Tryd.func41, Tryd.ntmps41
    go_wp2_with ((with_reducible refine (I.out _).mono ?_); rintro e w' ⟨rfl, rfl⟩)
    go_ret
    exact ⟨rfl, rfl⟩
  | true =>
    have h1 := cap_lo ha
    have h2 := cap_hi ha
    have R : localB a b = amongB b (localsT.getD a.toNat 0) := by unfold localB; rw [ha]; rfl
    rw [R]
    rw [ha] at I
    clear ha R
    obtain ⟨k, rfl⟩ := Int.eq_ofNat_of_zero_le (show 0 ≤ a by omega)
    have hc := hG.locals k (by omega)
    rw [show (Int.toNat (k : Int)) = k from rfl]
    have M := Lib.hid (fun W => among_any b (localsT.getD k 0) W)
    generalize localsT.getD k 0 = t at hc M ⊢
    clear hG
    go_enter Tryd.func41, Tryd.ntmps41
    go_wp2_with (first | ((with_reducible refine (I.out _).mono ?_); rintro e w' ⟨rfl, rfl⟩) | ((with_reducible refine (M.out _).mono ?_); rintro e w' ⟨rfl, rfl⟩))
    go_ret
    exact ⟨rfl, rfl⟩

set_option maxHeartbeats 800000 in
theorem global_any (a b : Int) (w : World) (hG : GGlo w) :
    Calls Tryd.prog 43 #[.int .i64 a, .int .i64 b] w fun e w' => e = .returned (.bool (globalB a b)) ∧ w = w' := by
  have I := Lib.hid (fun W => is_any a W)
  cases ha : capB a with
  | false =>
    have R : globalB a b = false := by unfold globalB; rw [ha]; rfl
    rw [R]
    rw [ha] at I
    clear ha hG R
    go_enter Tryd.func43, Tryd.ntmps43
    go_wp2_with ((with_reducible refine (I.out _).mono ?_); rintro e w' ⟨rfl, rfl⟩)
    go_ret
    exact ⟨rfl, rfl⟩
  | true =>
    have h1 := cap_lo ha
    have h2 := cap_hi ha
    have R : globalB a b = amongB b (globalsT.getD a.toNat 0) := by unfold globalB; rw [ha]; rfl
    rw [R]
    rw [ha] at I
    clear ha R
    obtain ⟨k, rfl⟩ := Int.eq_ofNat_of_zero_le (show 0 ≤ a by omega)
    have hc := hG.globals k (by omega)
    rw [show (Int.toNat (k : Int)) = k from rfl]
    have M := Lib.hid (fun W => among_any b (globalsT.getD k 0) W)
    generalize globalsT.getD k 0 = t at hc M ⊢
    clear hG
    go_enter Tryd.func43, Tryd.ntmps43
    go_wp2_with (first | ((with_reducible refine (I.out _).mono ?_); rintro e w' ⟨rfl, rfl⟩) | ((with_reducible refine (M.out _).mono ?_); rintro e w' ⟨rfl, rfl⟩))
    go_ret
    exact ⟨rfl, rfl⟩

theorem local_bel (w : World) (hG : GLoc w) (a b : Int) (W : World) (h : Bel w W) :
    Calls Tryd.prog 41 #[.int .i64 a, .int .i64 b] W fun e w' => e = .returned (.bool (localB a b)) ∧ W = w' := local_any a b W (hG.below h)
theorem global_bel (w : World) (hG : GGlo w) (a b : Int) (W : World) (h : Bel w W) :
    Calls Tryd.prog 43 #[.int .i64 a, .int .i64 b] W fun e w' => e = .returned (.bool (globalB a b)) ∧ W = w' := global_any a b W (hG.below h)

def symAll : Bool := caps.all fun x => caps.all fun y => (localB x y == localB y x) && (globalB x y == globalB y x) && (!globalB x y || (localB x y && !(writesB x && readsB y))) &&
  (!fitsB (aliasV x 0).1 (aliasV x 0).2 y 0 || localB x y) && caps.all fun z => !(fitsB x 1 y 0 && sendB y && localB x z) || globalB y z
set_option maxRecDepth 100000 in
theorem symAll_true : symAll = true := by kernel_rfl
theorem sym_facts {x y z : Int} (hx : capB x = true) (hy : capB y = true) (hz : capB z = true) :
    localB y x = localB x y ∧ globalB y x = globalB x y ∧ (globalB x y = true → localB x y = true ∧ (writesB x = true → readsB y = false)) ∧
    (fitsB (aliasV x 0).1 (aliasV x 0).2 y 0 = true → localB x y = true) ∧ (fitsB x 1 y 0 = true → sendB y = true → localB x z = true → globalB y z = true) := by
  have h0 := symAll_true
  unfold symAll at h0
  have h1 := List.all_eq_true.1 (List.all_eq_true.1 h0 x (mem_caps hx)) y (mem_caps hy)
  simp only [Bool.and_eq_true] at h1
  obtain ⟨⟨⟨⟨a, b⟩, c⟩, d⟩, e⟩ := h1
  have e1 := List.all_eq_true.1 e z (mem_caps hz)
  refine ⟨(by simpa using a : localB x y = localB y x).symm, (by simpa using b : globalB x y = globalB y x).symm, fun h => ?_, fun h => ?_, fun h1 h2 h3 => ?_⟩
  · rw [h] at c
    simp only [Bool.not_true, Bool.false_or, Bool.and_eq_true] at c
    refine ⟨c.1, fun hw => ?_⟩
    have := c.2
    rw [hw] at this
    simpa using this
  · rw [h] at d
    simpa using d
  · rw [h1, h2, h3] at e1
    simpa using e1
end Go.Proofs.YtblklbmolfddpaaDoor
