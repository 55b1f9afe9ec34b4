/- Contracts of the leaves of package cap. -/
import Derived.Test.YtblklbmolfddpaaDoorRows
import Derived.Test.YtblklbmolfddpaaDoorSpec
import Derived.WalkKit
import Derived.WalkSpells
import Derived.WalkLawsBesides
import Derived.Lib.Hide
namespace Go.Proofs.YtblklbmolfddpaaDoor
open Go.RowKit

theorem ret_bool {a b : Bool} (h : a = b) : Ending.returned (.bool a) = .returned (.bool b) := by rw [h]
theorem ret_int {k : IntKind} {a b : Int} (h : a = b) : Ending.returned (.int k a) = .returned (.int k b) := by rw [h]

/-- What the tables hold. -/
structure GFits (w : World) : Prop where
  fits : ∀ k, k < 10 → w.cell? ⟨2, k, none⟩ = some (.int .u64 (fitsT.getD k 0))
structure GViews (w : World) : Prop where
  views : ∀ k, k < 49 → w.cell? ⟨3, k, none⟩ = some (.int .i64 (viewsT.getD k 0))

set_option maxHeartbeats 400000 in
theorem is_any (c : Int) (w : World) :
    Calls Tryd.prog 13 #[.int .i64 c] w fun e w' => e = .returned (.bool (capB c)) ∧ w = w' := by
  go_enter Tryd.func13, Tryd.ntmps13
  go_wp2
  all_goals go_ret
  all_goals exact ⟨ret_bool (by simp only [capB]; rw [Bool.eq_iff_iff]; simp; try omega), rfl⟩

set_option maxHeartbeats 400000 in
theorem isMark_any (c : Int) (w : World) :
    Calls Tryd.prog 54 #[.int .i64 c] w fun e w' => e = .returned (.bool (markB c)) ∧ w = w' := by
  go_enter Tryd.func54, Tryd.ntmps54
  go_wp2
  all_goals go_ret
  all_goals exact ⟨ret_bool (by simp only [markB]; rw [Bool.eq_iff_iff]; simp; try omega), rfl⟩

theorem cap_lo {c : Int} (h : capB c = true) : 1 ≤ c := by simp [capB] at h; omega
theorem cap_hi {c : Int} (h : capB c = true) : c ≤ 6 := by simp [capB] at h; omega

set_option maxHeartbeats 400000 in
theorem among_any (c t : Int) (w : World) :
    Calls Tryd.prog 51 #[.int .i64 c, .int .u64 t] w fun e w' => e = .returned (.bool (amongB c t)) ∧ w = w' := by
  cases h : capB c with
  | true =>
    have h1 := cap_lo h
    have h2 := cap_hi h
    have h0 : 0 ≤ c := by omega
    have R : Hid (amongB c t = bitB t c.toNat) := by unfold amongB; rw [h]; rfl
    have I := Lib.hid (fun W => is_any c W)
    rw [h] at I
    clear h
    go_enter Tryd.func51, Tryd.ntmps51
    go_wp2_with ((with_reducible refine (I.out _).mono ?_); rintro e w' ⟨rfl, rfl⟩)
    go_ret
    exact ⟨ret_bool R.out.symm, rfl⟩
  | false =>
    have R : Hid (amongB c t = false) := by unfold amongB; rw [h]; rfl
    have I := Lib.hid (fun W => is_any c W)
    rw [h] at I
    clear h
    go_enter Tryd.func51, Tryd.ntmps51
    go_wp2_with ((with_reducible refine (I.out _).mono ?_); rintro e w' ⟨rfl, rfl⟩)
    go_ret
    exact ⟨ret_bool R.out.symm, rfl⟩

set_option maxHeartbeats 400000 in
theorem reads_any (c : Int) (w : World) :
    Calls Tryd.prog 18 #[.int .i64 c] w fun e w' => e = .returned (.bool (readsB c)) ∧ w = w' := by
  go_enter Tryd.func18, Tryd.ntmps18
  go_wp2_with ((with_reducible refine (among_any _ _ _).mono ?_); rintro e w' ⟨rfl, rfl⟩)
  go_ret
  exact ⟨rfl, rfl⟩
set_option maxHeartbeats 400000 in
theorem writes_any (c : Int) (w : World) :
    Calls Tryd.prog 20 #[.int .i64 c] w fun e w' => e = .returned (.bool (writesB c)) ∧ w = w' := by
  go_enter Tryd.func20, Tryd.ntmps20
  go_wp2_with ((with_reducible refine (among_any _ _ _).mono ?_); rintro e w' ⟨rfl, rfl⟩)
  go_ret
  exact ⟨rfl, rfl⟩
set_option maxHeartbeats 400000 in
theorem send_any (c : Int) (w : World) :
    Calls Tryd.prog 22 #[.int .i64 c] w fun e w' => e = .returned (.bool (sendB c)) ∧ w = w' := by
  go_enter Tryd.func22, Tryd.ntmps22
  go_wp2_with ((with_reducible refine (among_any _ _ _).mono ?_); rintro e w' ⟨rfl, rfl⟩)
  go_ret
  exact ⟨rfl, rfl⟩
set_option maxHeartbeats 400000 in
theorem unique_any (c : Int) (w : World) :
    Calls Tryd.prog 55 #[.int .i64 c] w fun e w' => e = .returned (.bool (uniqueB c)) ∧ w = w' := by
  go_enter Tryd.func55, Tryd.ntmps55
  go_wp2
  all_goals go_ret
  all_goals exact ⟨ret_bool (by simp [uniqueB, *]), rfl⟩

set_option maxHeartbeats 400000 in
theorem marked_none (c m : Int) (w : World) (h : (capB c && markB m) = false) :
    Calls Tryd.prog 52 #[.int .i64 c, .int .i64 m] w fun e w' => e = .returned (.int .i64 (markedV c m)) ∧ Below w.heap.size w w' := by
  have R : Hid (markedV c m = -1) := by unfold markedV; rw [h]; rfl
  have I := Lib.hid (fun W => is_any c W)
  have J := Lib.hid (fun W => isMark_any m W)
  cases hc : capB c with
  | true =>
    rw [hc] at h I
    have hm : markB m = false := by simpa using h
    rw [hm] at J
    clear h hc hm
    go_enter Tryd.func52, Tryd.ntmps52
    go_wp2_with (first | ((with_reducible refine (I.out _).mono ?_); rintro e w' ⟨rfl, rfl⟩) | ((with_reducible refine (J.out _).mono ?_); rintro e w' ⟨rfl, rfl⟩))
    go_ret
    exact ⟨ret_int R.out.symm, Below.refl _ _⟩
  | false =>
    rw [hc] at I
    clear h hc
    go_enter Tryd.func52, Tryd.ntmps52
    go_wp2_with (first | ((with_reducible refine (I.out _).mono ?_); rintro e w' ⟨rfl, rfl⟩) | ((with_reducible refine (J.out _).mono ?_); rintro e w' ⟨rfl, rfl⟩))
    go_ret
    exact ⟨ret_int R.out.symm, Below.refl _ _⟩

set_option maxHeartbeats 800000 in
theorem marked_some (c m : Int) (w : World) (hc : capB c = true) (hm : markB m = true) :
    Calls Tryd.prog 52 #[.int .i64 c, .int .i64 m] w fun e w' => e = .returned (.int .i64 (markedV c m)) ∧ Below w.heap.size w w' := by
  have I := Lib.hid (fun W => is_any c W)
  have J := Lib.hid (fun W => isMark_any m W)
  rw [hc] at I
  rw [hm] at J
  rcases cap_cases hc with rfl | rfl | rfl | rfl | rfl | rfl <;> rcases mark_cases hm with rfl | rfl | rfl <;> (
    clear hc hm
    go_enter Tryd.func52, Tryd.ntmps52
    go_wp2_with (first | ((with_reducible refine (I.out _).mono ?_); rintro e w' ⟨rfl, rfl⟩) | ((with_reducible refine (J.out _).mono ?_); rintro e w' ⟨rfl, rfl⟩))
    go_ret
    refine ⟨ret_int (by first | rfl | decide), ?_⟩
    first | exact Below.refl _ _ | exact (((Below.refl _ _).alloc (Nat.le_refl _) _).setCell (by simp) _) | exact ((Below.refl _ _).alloc (Nat.le_refl _) _))
end Go.Proofs.YtblklbmolfddpaaDoor
