/- Contracts of the reference's Is, Writes, Sendable, unique, marked, Counts, View and Extract. -/
import Derived.Test.YtblklbmolfddpaaDoorLoc
namespace Go.Proofs.YtblklbmolfddpaaDoor
open Go.RowKit

set_option maxHeartbeats 400000 in
theorem r_is (c : Int) (w : World) : Calls Tryd.prog 14 #[.int .i64 c] w fun e w' => e = .returned (.bool (capB c)) ∧ w = w' := by
  go_enter Tryd.func14, Tryd.ntmps14
  go_wp2
  all_goals go_ret
  all_goals exact ⟨ret_bool (by simp only [capB]; rw [Bool.eq_iff_iff]; simp; try omega), rfl⟩
set_option maxHeartbeats 400000 in
theorem r_unique (c : Int) (w : World) : Calls Tryd.prog 56 #[.int .i64 c] w fun e w' => e = .returned (.bool (uniqueB c)) ∧ w = w' := by
  go_enter Tryd.func56, Tryd.ntmps56
  go_wp2
  all_goals go_ret
  all_goals exact ⟨ret_bool (by simp [uniqueB, *]), rfl⟩
def oneOf3 (c a b d : Int) : Bool := c == a || c == b || c == d
theorem writes_eq (c : Int) : oneOf3 c 1 2 3 = writesB c := by
  by_cases h : capB c = true
  · rcases cap_cases h with rfl | rfl | rfl | rfl | rfl | rfl <;> decide +kernel
  · have h' : capB c = false := by simpa using h
    have : writesB c = false := by unfold writesB amongB; rw [h']; rfl
    rw [this]
    simp [capB] at h'
    simp only [oneOf3, Bool.or_eq_false_iff, beq_eq_false_iff_ne]
    omega
theorem send_eq (c : Int) : oneOf3 c 1 4 6 = sendB c := by
  by_cases h : capB c = true
  · rcases cap_cases h with rfl | rfl | rfl | rfl | rfl | rfl <;> decide +kernel
  · have h' : capB c = false := by simpa using h
    have : sendB c = false := by unfold sendB amongB; rw [h']; rfl
    rw [this]
    simp [capB] at h'
    simp only [oneOf3, Bool.or_eq_false_iff, beq_eq_false_iff_ne]
    omega
set_option maxHeartbeats 400000 in
theorem r_writes (c : Int) (w : World) : Calls Tryd.prog 21 #[.int .i64 c] w fun e w' => e = .returned (.bool (writesB c)) ∧ w = w' := by
  rw [← writes_eq]
  go_enter Tryd.func21, Tryd.ntmps21
  go_wp2
  all_goals go_ret
  all_goals exact ⟨ret_bool (by simp [oneOf3, *]), rfl⟩
set_option maxHeartbeats 400000 in
theorem r_send (c : Int) (w : World) : Calls Tryd.prog 23 #[.int .i64 c] w fun e w' => e = .returned (.bool (sendB c)) ∧ w = w' := by
  rw [← send_eq]
  go_enter Tryd.func23, Tryd.ntmps23
  go_wp2
  all_goals go_ret
  all_goals exact ⟨ret_bool (by simp [oneOf3, *]), rfl⟩
set_option maxHeartbeats 400000 in
theorem r_marked (c m : Int) (w : World) : Calls Tryd.prog 53 #[.int .i64 c, .int .i64 m] w fun e w' => e = .returned (.bool (capB c && markB m)) ∧ w = w' := by
  have I := Lib.hid (fun W => r_is c W)
  revert I
  generalize capB c = x
  intro I
  cases x <;> (
    go_enter Tryd.func53, Tryd.ntmps53
    go_wp2_with ((with_reducible refine (I.out _).mono ?_); rintro e w' ⟨rfl, rfl⟩)
    all_goals go_ret
    all_goals exact ⟨ret_bool (by simp only [markB]; rw [Bool.eq_iff_iff]; simp; try omega), rfl⟩)
def countsV (c m : Int) : Int := if m = 2 then (if c = 1 then 6 else if c = 2 then 5 else c) else c
set_option maxHeartbeats 400000 in
theorem r_counts (c m : Int) (w : World) : Calls Tryd.prog 58 #[.int .i64 c, .int .i64 m] w fun e w' => e = .returned (.int .i64 (countsV c m)) ∧ w = w' := by
  cases h1 : (m == 2) <;> cases h2 : (c == 1) <;> cases h3 : (c == 2) <;> (
    go_enter Tryd.func58, Tryd.ntmps58
    go_wp2
    go_ret
    refine ⟨ret_int ?_, rfl⟩
    simp only [beq_iff_eq, beq_eq_false_iff_ne] at h1 h2 h3
    simp [countsV, h1, h2, h3])
set_option maxHeartbeats 400000 in
theorem counts_any (c m : Int) (w : World) : Calls Tryd.prog 57 #[.int .i64 c, .int .i64 m] w fun e w' => e = .returned (.int .i64 (countsV c m)) ∧ w = w' := by
  have U := fun W => unique_any c W
  unfold uniqueB at U
  cases h1 : (m == 2) <;> cases h2 : (c == 1) <;> cases h3 : (c == 2) <;> (
    have g1 : (m != 2) = !(m == 2) := rfl
    rw [h1] at g1
    have U' : ∀ (W : World), Calls Tryd.prog 55 #[.int .i64 c] W fun e w' => e = .returned (.bool (!(!((c == 1) || (c == 2))))) ∧ W = w' := by simpa using U
    rw [h2, h3] at U'
    simp only [Bool.not_false, Bool.not_true, Bool.or_false, Bool.or_true, Bool.true_or, Bool.false_or] at g1 U'
    clear U
    have U := Lib.hid U'
    clear U'
    go_enter Tryd.func57, Tryd.ntmps57
    go_wp2_with ((with_reducible refine (U.out _).mono ?_); rintro e w' ⟨rfl, rfl⟩)
    go_ret
    refine ⟨ret_int ?_, rfl⟩
    simp only [beq_iff_eq, beq_eq_false_iff_ne] at h1 h2 h3
    simp [countsV, h1, h2, h3])

theorem view_none {o f : Int} (h : (capB o && capB f) = false) : viewV o f = 0 := by unfold viewV; rw [h]; rfl
set_option maxHeartbeats 800000 in
theorem r_view_no (o f : Int) (w : World) (h : (capB o && capB f) = false) : Calls Tryd.prog 36 #[.int .i64 o, .int .i64 f] w fun e w' => e = .returned (.tuple #[.int .i64 0, .bool false]) ∧ w = w' := by
  have I := Lib.hid (fun W => r_is o W)
  have J := Lib.hid (fun W => r_is f W)
  revert h I J
  generalize capB o = x
  generalize capB f = y
  intro h I J
  cases x <;> cases y <;> first
    | (cases h; done)
    | (clear h
       go_enter Tryd.func36, Tryd.ntmps36
       go_wp2_with (first | ((with_reducible refine (I.out _).mono ?_); rintro e w' ⟨rfl, rfl⟩) | ((with_reducible refine (J.out _).mono ?_); rintro e w' ⟨rfl, rfl⟩))
       go_ret2
       exact ⟨rfl, rfl⟩)
theorem view_yes (g : FuncId) (o f x : Int) (b : Bool) (w : World) (hE : viewV o f = x) (hb : (x != 0) = b) (h : Calls Tryd.prog g #[.int .i64 o, .int .i64 f] w fun e w' => e = .returned (.tuple #[.int .i64 x, .bool b]) ∧ w = w') :
    Calls Tryd.prog g #[.int .i64 o, .int .i64 f] w fun e w' => e = .returned (.tuple #[.int .i64 (viewV o f), .bool (viewV o f != 0)]) ∧ w = w' := by
  rw [hE, hb]; exact h
set_option maxHeartbeats 6400000 in
theorem r_view (o f : Int) (w : World) : Calls Tryd.prog 36 #[.int .i64 o, .int .i64 f] w fun e w' => e = .returned (.tuple #[.int .i64 (viewV o f), .bool (viewV o f != 0)]) ∧ w = w' := by
  cases h : (capB o && capB f) with
  | false =>
    rw [view_none h]
    exact r_view_no o f w h
  | true =>
    obtain ⟨ho, hf⟩ : capB o = true ∧ capB f = true := by simpa using h
    have I := Lib.hid (fun W => r_is o W)
    have J := Lib.hid (fun W => r_is f W)
    have U := fun W => r_unique f W
    rw [ho] at I
    rw [hf] at J
    clear h
    rcases cap_cases ho with rfl | rfl | rfl | rfl | rfl | rfl <;> rcases cap_cases hf with rfl | rfl | rfl | rfl | rfl | rfl
    · refine view_yes 36 1 1 1 true w (by decide +kernel) (by decide) ?_
      rw [show uniqueB 1 = true from by decide] at U
      replace U := Lib.hid U
      clear ho hf
      go_enter Tryd.func36, Tryd.ntmps36
      go_wp2_with (first | ((with_reducible refine (I.out _).mono ?_); rintro e w' ⟨rfl, rfl⟩) | ((with_reducible refine (J.out _).mono ?_); rintro e w' ⟨rfl, rfl⟩) | ((with_reducible refine (U.out _).mono ?_); rintro e w' ⟨rfl, rfl⟩))
      go_ret2
      exact ⟨rfl, rfl⟩
    · refine view_yes 36 1 2 6 true w (by decide +kernel) (by decide) ?_
      rw [show uniqueB 2 = true from by decide] at U
      replace U := Lib.hid U
      clear ho hf
      go_enter Tryd.func36, Tryd.ntmps36
      go_wp2_with (first | ((with_reducible refine (I.out _).mono ?_); rintro e w' ⟨rfl, rfl⟩) | ((with_reducible refine (J.out _).mono ?_); rintro e w' ⟨rfl, rfl⟩) | ((with_reducible refine (U.out _).mono ?_); rintro e w' ⟨rfl, rfl⟩))
      go_ret2
      exact ⟨rfl, rfl⟩
    · refine view_yes 36 1 3 6 true w (by decide +kernel) (by decide) ?_
      rw [show uniqueB 3 = false from by decide] at U
      replace U := Lib.hid U
      clear ho hf
      go_enter Tryd.func36, Tryd.ntmps36
      go_wp2_with (first | ((with_reducible refine (I.out _).mono ?_); rintro e w' ⟨rfl, rfl⟩) | ((with_reducible refine (J.out _).mono ?_); rintro e w' ⟨rfl, rfl⟩) | ((with_reducible refine (U.out _).mono ?_); rintro e w' ⟨rfl, rfl⟩))
      go_ret2
      exact ⟨rfl, rfl⟩
    · refine view_yes 36 1 4 4 true w (by decide +kernel) (by decide) ?_
      rw [show uniqueB 4 = false from by decide] at U
      replace U := Lib.hid U
      clear ho hf
      go_enter Tryd.func36, Tryd.ntmps36
      go_wp2_with (first | ((with_reducible refine (I.out _).mono ?_); rintro e w' ⟨rfl, rfl⟩) | ((with_reducible refine (J.out _).mono ?_); rintro e w' ⟨rfl, rfl⟩) | ((with_reducible refine (U.out _).mono ?_); rintro e w' ⟨rfl, rfl⟩))
      go_ret2
      exact ⟨rfl, rfl⟩
    · refine view_yes 36 1 5 6 true w (by decide +kernel) (by decide) ?_
      rw [show uniqueB 5 = false from by decide] at U
      replace U := Lib.hid U
      clear ho hf
      go_enter Tryd.func36, Tryd.ntmps36
      go_wp2_with (first | ((with_reducible refine (I.out _).mono ?_); rintro e w' ⟨rfl, rfl⟩) | ((with_reducible refine (J.out _).mono ?_); rintro e w' ⟨rfl, rfl⟩) | ((with_reducible refine (U.out _).mono ?_); rintro e w' ⟨rfl, rfl⟩))
      go_ret2
      exact ⟨rfl, rfl⟩
    · refine view_yes 36 1 6 6 true w (by decide +kernel) (by decide) ?_
      rw [show uniqueB 6 = false from by decide] at U
      replace U := Lib.hid U
      clear ho hf
      go_enter Tryd.func36, Tryd.ntmps36
      go_wp2_with (first | ((with_reducible refine (I.out _).mono ?_); rintro e w' ⟨rfl, rfl⟩) | ((with_reducible refine (J.out _).mono ?_); rintro e w' ⟨rfl, rfl⟩) | ((with_reducible refine (U.out _).mono ?_); rintro e w' ⟨rfl, rfl⟩))
      go_ret2
      exact ⟨rfl, rfl⟩
    · refine view_yes 36 2 1 1 true w (by decide +kernel) (by decide) ?_
      rw [show uniqueB 1 = true from by decide] at U
      replace U := Lib.hid U
      clear ho hf
      go_enter Tryd.func36, Tryd.ntmps36
      go_wp2_with (first | ((with_reducible refine (I.out _).mono ?_); rintro e w' ⟨rfl, rfl⟩) | ((with_reducible refine (J.out _).mono ?_); rintro e w' ⟨rfl, rfl⟩) | ((with_reducible refine (U.out _).mono ?_); rintro e w' ⟨rfl, rfl⟩))
      go_ret2
      exact ⟨rfl, rfl⟩
    · refine view_yes 36 2 2 2 true w (by decide +kernel) (by decide) ?_
      rw [show uniqueB 2 = true from by decide] at U
      replace U := Lib.hid U
      clear ho hf
      go_enter Tryd.func36, Tryd.ntmps36
      go_wp2_with (first | ((with_reducible refine (I.out _).mono ?_); rintro e w' ⟨rfl, rfl⟩) | ((with_reducible refine (J.out _).mono ?_); rintro e w' ⟨rfl, rfl⟩) | ((with_reducible refine (U.out _).mono ?_); rintro e w' ⟨rfl, rfl⟩))
      go_ret2
      exact ⟨rfl, rfl⟩
    · refine view_yes 36 2 3 5 true w (by decide +kernel) (by decide) ?_
      rw [show uniqueB 3 = false from by decide] at U
      replace U := Lib.hid U
      clear ho hf
      go_enter Tryd.func36, Tryd.ntmps36
      go_wp2_with (first | ((with_reducible refine (I.out _).mono ?_); rintro e w' ⟨rfl, rfl⟩) | ((with_reducible refine (J.out _).mono ?_); rintro e w' ⟨rfl, rfl⟩) | ((with_reducible refine (U.out _).mono ?_); rintro e w' ⟨rfl, rfl⟩))
      go_ret2
      exact ⟨rfl, rfl⟩
    · refine view_yes 36 2 4 4 true w (by decide +kernel) (by decide) ?_
      rw [show uniqueB 4 = false from by decide] at U
      replace U := Lib.hid U
      clear ho hf
      go_enter Tryd.func36, Tryd.ntmps36
      go_wp2_with (first | ((with_reducible refine (I.out _).mono ?_); rintro e w' ⟨rfl, rfl⟩) | ((with_reducible refine (J.out _).mono ?_); rintro e w' ⟨rfl, rfl⟩) | ((with_reducible refine (U.out _).mono ?_); rintro e w' ⟨rfl, rfl⟩))
      go_ret2
      exact ⟨rfl, rfl⟩
    · refine view_yes 36 2 5 5 true w (by decide +kernel) (by decide) ?_
      rw [show uniqueB 5 = false from by decide] at U
      replace U := Lib.hid U
      clear ho hf
      go_enter Tryd.func36, Tryd.ntmps36
      go_wp2_with (first | ((with_reducible refine (I.out _).mono ?_); rintro e w' ⟨rfl, rfl⟩) | ((with_reducible refine (J.out _).mono ?_); rintro e w' ⟨rfl, rfl⟩) | ((with_reducible refine (U.out _).mono ?_); rintro e w' ⟨rfl, rfl⟩))
      go_ret2
      exact ⟨rfl, rfl⟩
    · refine view_yes 36 2 6 6 true w (by decide +kernel) (by decide) ?_
      rw [show uniqueB 6 = false from by decide] at U
      replace U := Lib.hid U
      clear ho hf
      go_enter Tryd.func36, Tryd.ntmps36
      go_wp2_with (first | ((with_reducible refine (I.out _).mono ?_); rintro e w' ⟨rfl, rfl⟩) | ((with_reducible refine (J.out _).mono ?_); rintro e w' ⟨rfl, rfl⟩) | ((with_reducible refine (U.out _).mono ?_); rintro e w' ⟨rfl, rfl⟩))
      go_ret2
      exact ⟨rfl, rfl⟩
    · refine view_yes 36 3 1 1 true w (by decide +kernel) (by decide) ?_
      rw [show uniqueB 1 = true from by decide] at U
      replace U := Lib.hid U
      clear ho hf
      go_enter Tryd.func36, Tryd.ntmps36
      go_wp2_with (first | ((with_reducible refine (I.out _).mono ?_); rintro e w' ⟨rfl, rfl⟩) | ((with_reducible refine (J.out _).mono ?_); rintro e w' ⟨rfl, rfl⟩) | ((with_reducible refine (U.out _).mono ?_); rintro e w' ⟨rfl, rfl⟩))
      go_ret2
      exact ⟨rfl, rfl⟩
    · refine view_yes 36 3 2 2 true w (by decide +kernel) (by decide) ?_
      rw [show uniqueB 2 = true from by decide] at U
      replace U := Lib.hid U
      clear ho hf
      go_enter Tryd.func36, Tryd.ntmps36
      go_wp2_with (first | ((with_reducible refine (I.out _).mono ?_); rintro e w' ⟨rfl, rfl⟩) | ((with_reducible refine (J.out _).mono ?_); rintro e w' ⟨rfl, rfl⟩) | ((with_reducible refine (U.out _).mono ?_); rintro e w' ⟨rfl, rfl⟩))
      go_ret2
      exact ⟨rfl, rfl⟩
    · refine view_yes 36 3 3 3 true w (by decide +kernel) (by decide) ?_
      rw [show uniqueB 3 = false from by decide] at U
      replace U := Lib.hid U
      clear ho hf
      go_enter Tryd.func36, Tryd.ntmps36
      go_wp2_with (first | ((with_reducible refine (I.out _).mono ?_); rintro e w' ⟨rfl, rfl⟩) | ((with_reducible refine (J.out _).mono ?_); rintro e w' ⟨rfl, rfl⟩) | ((with_reducible refine (U.out _).mono ?_); rintro e w' ⟨rfl, rfl⟩))
      go_ret2
      exact ⟨rfl, rfl⟩
    · refine view_yes 36 3 4 4 true w (by decide +kernel) (by decide) ?_
      rw [show uniqueB 4 = false from by decide] at U
      replace U := Lib.hid U
      clear ho hf
      go_enter Tryd.func36, Tryd.ntmps36
      go_wp2_with (first | ((with_reducible refine (I.out _).mono ?_); rintro e w' ⟨rfl, rfl⟩) | ((with_reducible refine (J.out _).mono ?_); rintro e w' ⟨rfl, rfl⟩) | ((with_reducible refine (U.out _).mono ?_); rintro e w' ⟨rfl, rfl⟩))
      go_ret2
      exact ⟨rfl, rfl⟩
    · refine view_yes 36 3 5 5 true w (by decide +kernel) (by decide) ?_
      rw [show uniqueB 5 = false from by decide] at U
      replace U := Lib.hid U
      clear ho hf
      go_enter Tryd.func36, Tryd.ntmps36
      go_wp2_with (first | ((with_reducible refine (I.out _).mono ?_); rintro e w' ⟨rfl, rfl⟩) | ((with_reducible refine (J.out _).mono ?_); rintro e w' ⟨rfl, rfl⟩) | ((with_reducible refine (U.out _).mono ?_); rintro e w' ⟨rfl, rfl⟩))
      go_ret2
      exact ⟨rfl, rfl⟩
    · refine view_yes 36 3 6 6 true w (by decide +kernel) (by decide) ?_
      rw [show uniqueB 6 = false from by decide] at U
      replace U := Lib.hid U
      clear ho hf
      go_enter Tryd.func36, Tryd.ntmps36
      go_wp2_with (first | ((with_reducible refine (I.out _).mono ?_); rintro e w' ⟨rfl, rfl⟩) | ((with_reducible refine (J.out _).mono ?_); rintro e w' ⟨rfl, rfl⟩) | ((with_reducible refine (U.out _).mono ?_); rintro e w' ⟨rfl, rfl⟩))
      go_ret2
      exact ⟨rfl, rfl⟩
    · refine view_yes 36 4 1 4 true w (by decide +kernel) (by decide) ?_
      rw [show uniqueB 1 = true from by decide] at U
      replace U := Lib.hid U
      clear ho hf
      go_enter Tryd.func36, Tryd.ntmps36
      go_wp2_with (first | ((with_reducible refine (I.out _).mono ?_); rintro e w' ⟨rfl, rfl⟩) | ((with_reducible refine (J.out _).mono ?_); rintro e w' ⟨rfl, rfl⟩) | ((with_reducible refine (U.out _).mono ?_); rintro e w' ⟨rfl, rfl⟩))
      go_ret2
      exact ⟨rfl, rfl⟩
    · refine view_yes 36 4 2 4 true w (by decide +kernel) (by decide) ?_
      rw [show uniqueB 2 = true from by decide] at U
      replace U := Lib.hid U
      clear ho hf
      go_enter Tryd.func36, Tryd.ntmps36
      go_wp2_with (first | ((with_reducible refine (I.out _).mono ?_); rintro e w' ⟨rfl, rfl⟩) | ((with_reducible refine (J.out _).mono ?_); rintro e w' ⟨rfl, rfl⟩) | ((with_reducible refine (U.out _).mono ?_); rintro e w' ⟨rfl, rfl⟩))
      go_ret2
      exact ⟨rfl, rfl⟩
    · refine view_yes 36 4 3 4 true w (by decide +kernel) (by decide) ?_
      rw [show uniqueB 3 = false from by decide] at U
      replace U := Lib.hid U
      clear ho hf
      go_enter Tryd.func36, Tryd.ntmps36
      go_wp2_with (first | ((with_reducible refine (I.out _).mono ?_); rintro e w' ⟨rfl, rfl⟩) | ((with_reducible refine (J.out _).mono ?_); rintro e w' ⟨rfl, rfl⟩) | ((with_reducible refine (U.out _).mono ?_); rintro e w' ⟨rfl, rfl⟩))
      go_ret2
      exact ⟨rfl, rfl⟩
    · refine view_yes 36 4 4 4 true w (by decide +kernel) (by decide) ?_
      rw [show uniqueB 4 = false from by decide] at U
      replace U := Lib.hid U
      clear ho hf
      go_enter Tryd.func36, Tryd.ntmps36
      go_wp2_with (first | ((with_reducible refine (I.out _).mono ?_); rintro e w' ⟨rfl, rfl⟩) | ((with_reducible refine (J.out _).mono ?_); rintro e w' ⟨rfl, rfl⟩) | ((with_reducible refine (U.out _).mono ?_); rintro e w' ⟨rfl, rfl⟩))
      go_ret2
      exact ⟨rfl, rfl⟩
    · refine view_yes 36 4 5 4 true w (by decide +kernel) (by decide) ?_
      rw [show uniqueB 5 = false from by decide] at U
      replace U := Lib.hid U
      clear ho hf
      go_enter Tryd.func36, Tryd.ntmps36
      go_wp2_with (first | ((with_reducible refine (I.out _).mono ?_); rintro e w' ⟨rfl, rfl⟩) | ((with_reducible refine (J.out _).mono ?_); rintro e w' ⟨rfl, rfl⟩) | ((with_reducible refine (U.out _).mono ?_); rintro e w' ⟨rfl, rfl⟩))
      go_ret2
      exact ⟨rfl, rfl⟩
    · refine view_yes 36 4 6 6 true w (by decide +kernel) (by decide) ?_
      rw [show uniqueB 6 = false from by decide] at U
      replace U := Lib.hid U
      clear ho hf
      go_enter Tryd.func36, Tryd.ntmps36
      go_wp2_with (first | ((with_reducible refine (I.out _).mono ?_); rintro e w' ⟨rfl, rfl⟩) | ((with_reducible refine (J.out _).mono ?_); rintro e w' ⟨rfl, rfl⟩) | ((with_reducible refine (U.out _).mono ?_); rintro e w' ⟨rfl, rfl⟩))
      go_ret2
      exact ⟨rfl, rfl⟩
    · refine view_yes 36 5 1 6 true w (by decide +kernel) (by decide) ?_
      rw [show uniqueB 1 = true from by decide] at U
      replace U := Lib.hid U
      clear ho hf
      go_enter Tryd.func36, Tryd.ntmps36
      go_wp2_with (first | ((with_reducible refine (I.out _).mono ?_); rintro e w' ⟨rfl, rfl⟩) | ((with_reducible refine (J.out _).mono ?_); rintro e w' ⟨rfl, rfl⟩) | ((with_reducible refine (U.out _).mono ?_); rintro e w' ⟨rfl, rfl⟩))
      go_ret2
      exact ⟨rfl, rfl⟩
    · refine view_yes 36 5 2 5 true w (by decide +kernel) (by decide) ?_
      rw [show uniqueB 2 = true from by decide] at U
      replace U := Lib.hid U
      clear ho hf
      go_enter Tryd.func36, Tryd.ntmps36
      go_wp2_with (first | ((with_reducible refine (I.out _).mono ?_); rintro e w' ⟨rfl, rfl⟩) | ((with_reducible refine (J.out _).mono ?_); rintro e w' ⟨rfl, rfl⟩) | ((with_reducible refine (U.out _).mono ?_); rintro e w' ⟨rfl, rfl⟩))
      go_ret2
      exact ⟨rfl, rfl⟩
    · refine view_yes 36 5 3 5 true w (by decide +kernel) (by decide) ?_
      rw [show uniqueB 3 = false from by decide] at U
      replace U := Lib.hid U
      clear ho hf
      go_enter Tryd.func36, Tryd.ntmps36
      go_wp2_with (first | ((with_reducible refine (I.out _).mono ?_); rintro e w' ⟨rfl, rfl⟩) | ((with_reducible refine (J.out _).mono ?_); rintro e w' ⟨rfl, rfl⟩) | ((with_reducible refine (U.out _).mono ?_); rintro e w' ⟨rfl, rfl⟩))
      go_ret2
      exact ⟨rfl, rfl⟩
    · refine view_yes 36 5 4 4 true w (by decide +kernel) (by decide) ?_
      rw [show uniqueB 4 = false from by decide] at U
      replace U := Lib.hid U
      clear ho hf
      go_enter Tryd.func36, Tryd.ntmps36
      go_wp2_with (first | ((with_reducible refine (I.out _).mono ?_); rintro e w' ⟨rfl, rfl⟩) | ((with_reducible refine (J.out _).mono ?_); rintro e w' ⟨rfl, rfl⟩) | ((with_reducible refine (U.out _).mono ?_); rintro e w' ⟨rfl, rfl⟩))
      go_ret2
      exact ⟨rfl, rfl⟩
    · refine view_yes 36 5 5 5 true w (by decide +kernel) (by decide) ?_
      rw [show uniqueB 5 = false from by decide] at U
      replace U := Lib.hid U
      clear ho hf
      go_enter Tryd.func36, Tryd.ntmps36
      go_wp2_with (first | ((with_reducible refine (I.out _).mono ?_); rintro e w' ⟨rfl, rfl⟩) | ((with_reducible refine (J.out _).mono ?_); rintro e w' ⟨rfl, rfl⟩) | ((with_reducible refine (U.out _).mono ?_); rintro e w' ⟨rfl, rfl⟩))
      go_ret2
      exact ⟨rfl, rfl⟩
    · refine view_yes 36 5 6 6 true w (by decide +kernel) (by decide) ?_
      rw [show uniqueB 6 = false from by decide] at U
      replace U := Lib.hid U
      clear ho hf
      go_enter Tryd.func36, Tryd.ntmps36
      go_wp2_with (first | ((with_reducible refine (I.out _).mono ?_); rintro e w' ⟨rfl, rfl⟩) | ((with_reducible refine (J.out _).mono ?_); rintro e w' ⟨rfl, rfl⟩) | ((with_reducible refine (U.out _).mono ?_); rintro e w' ⟨rfl, rfl⟩))
      go_ret2
      exact ⟨rfl, rfl⟩
    · refine view_yes 36 6 1 0 false w (by decide +kernel) (by decide) ?_
      rw [show uniqueB 1 = true from by decide] at U
      replace U := Lib.hid U
      clear ho hf
      go_enter Tryd.func36, Tryd.ntmps36
      go_wp2_with (first | ((with_reducible refine (I.out _).mono ?_); rintro e w' ⟨rfl, rfl⟩) | ((with_reducible refine (J.out _).mono ?_); rintro e w' ⟨rfl, rfl⟩) | ((with_reducible refine (U.out _).mono ?_); rintro e w' ⟨rfl, rfl⟩))
      go_ret2
      exact ⟨rfl, rfl⟩
    · refine view_yes 36 6 2 0 false w (by decide +kernel) (by decide) ?_
      rw [show uniqueB 2 = true from by decide] at U
      replace U := Lib.hid U
      clear ho hf
      go_enter Tryd.func36, Tryd.ntmps36
      go_wp2_with (first | ((with_reducible refine (I.out _).mono ?_); rintro e w' ⟨rfl, rfl⟩) | ((with_reducible refine (J.out _).mono ?_); rintro e w' ⟨rfl, rfl⟩) | ((with_reducible refine (U.out _).mono ?_); rintro e w' ⟨rfl, rfl⟩))
      go_ret2
      exact ⟨rfl, rfl⟩
    · refine view_yes 36 6 3 0 false w (by decide +kernel) (by decide) ?_
      rw [show uniqueB 3 = false from by decide] at U
      replace U := Lib.hid U
      clear ho hf
      go_enter Tryd.func36, Tryd.ntmps36
      go_wp2_with (first | ((with_reducible refine (I.out _).mono ?_); rintro e w' ⟨rfl, rfl⟩) | ((with_reducible refine (J.out _).mono ?_); rintro e w' ⟨rfl, rfl⟩) | ((with_reducible refine (U.out _).mono ?_); rintro e w' ⟨rfl, rfl⟩))
      go_ret2
      exact ⟨rfl, rfl⟩
    · refine view_yes 36 6 4 0 false w (by decide +kernel) (by decide) ?_
      rw [show uniqueB 4 = false from by decide] at U
      replace U := Lib.hid U
      clear ho hf
      go_enter Tryd.func36, Tryd.ntmps36
      go_wp2_with (first | ((with_reducible refine (I.out _).mono ?_); rintro e w' ⟨rfl, rfl⟩) | ((with_reducible refine (J.out _).mono ?_); rintro e w' ⟨rfl, rfl⟩) | ((with_reducible refine (U.out _).mono ?_); rintro e w' ⟨rfl, rfl⟩))
      go_ret2
      exact ⟨rfl, rfl⟩
    · refine view_yes 36 6 5 0 false w (by decide +kernel) (by decide) ?_
      rw [show uniqueB 5 = false from by decide] at U
      replace U := Lib.hid U
      clear ho hf
      go_enter Tryd.func36, Tryd.ntmps36
      go_wp2_with (first | ((with_reducible refine (I.out _).mono ?_); rintro e w' ⟨rfl, rfl⟩) | ((with_reducible refine (J.out _).mono ?_); rintro e w' ⟨rfl, rfl⟩) | ((with_reducible refine (U.out _).mono ?_); rintro e w' ⟨rfl, rfl⟩))
      go_ret2
      exact ⟨rfl, rfl⟩
    · refine view_yes 36 6 6 0 false w (by decide +kernel) (by decide) ?_
      rw [show uniqueB 6 = false from by decide] at U
      replace U := Lib.hid U
      clear ho hf
      go_enter Tryd.func36, Tryd.ntmps36
      go_wp2_with (first | ((with_reducible refine (I.out _).mono ?_); rintro e w' ⟨rfl, rfl⟩) | ((with_reducible refine (J.out _).mono ?_); rintro e w' ⟨rfl, rfl⟩) | ((with_reducible refine (U.out _).mono ?_); rintro e w' ⟨rfl, rfl⟩))
      go_ret2
      exact ⟨rfl, rfl⟩

set_option maxHeartbeats 800000 in
theorem r_extract_no (o f : Int) (w : World) (h : (writesB o && capB f) = false) :
    Calls Tryd.prog 38 #[.int .i64 o, .int .i64 f] w fun e w' => e = .returned (.tuple #[.int .i64 0, .int .i64 0, .bool false]) ∧ w = w' := by
  have I := Lib.hid (fun W => r_writes o W)
  have J := Lib.hid (fun W => r_is f W)
  revert h I J
  generalize writesB o = x
  generalize capB f = y
  intro h I J
  cases x <;> cases y <;> first
    | (cases h; done)
    | (clear h
       go_enter Tryd.func38, Tryd.ntmps38
       go_wp2_with (first | ((with_reducible refine (I.out _).mono ?_); rintro e w' ⟨rfl, rfl⟩) | ((with_reducible refine (J.out _).mono ?_); rintro e w' ⟨rfl, rfl⟩))
       exact bodyPost_ret (v := .tuple #[.int .i64 0, .int .i64 0, .bool false]) (by simp [results, Tryd.results38, go_sem]) rfl ⟨rfl, rfl⟩)
theorem extract_yes2 (g : FuncId) (o f x y : Int) (z : Bool) (w : World) (hE : extractV o f = (x, y, z))
    (h : Calls Tryd.prog g #[.int .i64 o, .int .i64 f] w fun e w' => e = .returned (.tuple #[.int .i64 x, .int .i64 y, .bool z]) ∧ w = w') :
    Calls Tryd.prog g #[.int .i64 o, .int .i64 f] w fun e w' => e = .returned (.tuple #[.int .i64 (extractV o f).1, .int .i64 (extractV o f).2.1, .bool (extractV o f).2.2]) ∧ w = w' := by
  rw [hE]; exact h
set_option maxHeartbeats 3200000 in
theorem r_extract (o f : Int) (w : World) :
    Calls Tryd.prog 38 #[.int .i64 o, .int .i64 f] w fun e w' => e = .returned (.tuple #[.int .i64 (extractV o f).1, .int .i64 (extractV o f).2.1, .bool (extractV o f).2.2]) ∧ w = w' := by
  cases h : (writesB o && capB f) with
  | false =>
    have R : extractV o f = (0, 0, false) := by unfold extractV; rw [h]; rfl
    rw [R]
    exact r_extract_no o f w h
  | true =>
    obtain ⟨ho, hf⟩ : writesB o = true ∧ capB f = true := by simpa using h
    have I := Lib.hid (fun W => r_writes o W)
    have J := Lib.hid (fun W => r_is f W)
    have V := r_view o f
    rw [ho] at I
    rw [hf] at J
    clear h
    rcases writes_cases ho with rfl | rfl | rfl <;> rcases cap_cases hf with rfl | rfl | rfl | rfl | rfl | rfl
    · rw [show viewV 1 1 = 1 from by decide +kernel] at V
      refine extract_yes2 38 1 1 1 1 true w (by decide +kernel) ?_
      replace V := Lib.hid V
      clear ho hf
      go_enter Tryd.func38, Tryd.ntmps38
      go_wp2_with (first | ((with_reducible refine (I.out _).mono ?_); rintro e w' ⟨rfl, rfl⟩) | ((with_reducible refine (J.out _).mono ?_); rintro e w' ⟨rfl, rfl⟩) | ((with_reducible refine (V.out _).mono ?_); rintro e w' ⟨rfl, rfl⟩))
      exact bodyPost_ret (v := .tuple #[.int .i64 1, .int .i64 1, .bool true]) (by simp [results, Tryd.results38, go_sem]) rfl ⟨rfl, rfl⟩
    · rw [show viewV 1 2 = 6 from by decide +kernel] at V
      refine extract_yes2 38 1 2 6 0 true w (by decide +kernel) ?_
      replace V := Lib.hid V
      clear ho hf
      go_enter Tryd.func38, Tryd.ntmps38
      go_wp2_with (first | ((with_reducible refine (I.out _).mono ?_); rintro e w' ⟨rfl, rfl⟩) | ((with_reducible refine (J.out _).mono ?_); rintro e w' ⟨rfl, rfl⟩) | ((with_reducible refine (V.out _).mono ?_); rintro e w' ⟨rfl, rfl⟩))
      exact bodyPost_ret (v := .tuple #[.int .i64 6, .int .i64 0, .bool true]) (by simp [results, Tryd.results38, go_sem]) rfl ⟨rfl, rfl⟩
    · rw [show viewV 1 3 = 6 from by decide +kernel] at V
      refine extract_yes2 38 1 3 6 0 true w (by decide +kernel) ?_
      replace V := Lib.hid V
      clear ho hf
      go_enter Tryd.func38, Tryd.ntmps38
      go_wp2_with (first | ((with_reducible refine (I.out _).mono ?_); rintro e w' ⟨rfl, rfl⟩) | ((with_reducible refine (J.out _).mono ?_); rintro e w' ⟨rfl, rfl⟩) | ((with_reducible refine (V.out _).mono ?_); rintro e w' ⟨rfl, rfl⟩))
      exact bodyPost_ret (v := .tuple #[.int .i64 6, .int .i64 0, .bool true]) (by simp [results, Tryd.results38, go_sem]) rfl ⟨rfl, rfl⟩
    · rw [show viewV 1 4 = 4 from by decide +kernel] at V
      refine extract_yes2 38 1 4 4 0 true w (by decide +kernel) ?_
      replace V := Lib.hid V
      clear ho hf
      go_enter Tryd.func38, Tryd.ntmps38
      go_wp2_with (first | ((with_reducible refine (I.out _).mono ?_); rintro e w' ⟨rfl, rfl⟩) | ((with_reducible refine (J.out _).mono ?_); rintro e w' ⟨rfl, rfl⟩) | ((with_reducible refine (V.out _).mono ?_); rintro e w' ⟨rfl, rfl⟩))
      exact bodyPost_ret (v := .tuple #[.int .i64 4, .int .i64 0, .bool true]) (by simp [results, Tryd.results38, go_sem]) rfl ⟨rfl, rfl⟩
    · rw [show viewV 1 5 = 6 from by decide +kernel] at V
      refine extract_yes2 38 1 5 6 0 true w (by decide +kernel) ?_
      replace V := Lib.hid V
      clear ho hf
      go_enter Tryd.func38, Tryd.ntmps38
      go_wp2_with (first | ((with_reducible refine (I.out _).mono ?_); rintro e w' ⟨rfl, rfl⟩) | ((with_reducible refine (J.out _).mono ?_); rintro e w' ⟨rfl, rfl⟩) | ((with_reducible refine (V.out _).mono ?_); rintro e w' ⟨rfl, rfl⟩))
      exact bodyPost_ret (v := .tuple #[.int .i64 6, .int .i64 0, .bool true]) (by simp [results, Tryd.results38, go_sem]) rfl ⟨rfl, rfl⟩
    · rw [show viewV 1 6 = 6 from by decide +kernel] at V
      refine extract_yes2 38 1 6 6 0 true w (by decide +kernel) ?_
      replace V := Lib.hid V
      clear ho hf
      go_enter Tryd.func38, Tryd.ntmps38
      go_wp2_with (first | ((with_reducible refine (I.out _).mono ?_); rintro e w' ⟨rfl, rfl⟩) | ((with_reducible refine (J.out _).mono ?_); rintro e w' ⟨rfl, rfl⟩) | ((with_reducible refine (V.out _).mono ?_); rintro e w' ⟨rfl, rfl⟩))
      exact bodyPost_ret (v := .tuple #[.int .i64 6, .int .i64 0, .bool true]) (by simp [results, Tryd.results38, go_sem]) rfl ⟨rfl, rfl⟩
    · rw [show viewV 2 1 = 1 from by decide +kernel] at V
      refine extract_yes2 38 2 1 1 1 true w (by decide +kernel) ?_
      replace V := Lib.hid V
      clear ho hf
      go_enter Tryd.func38, Tryd.ntmps38
      go_wp2_with (first | ((with_reducible refine (I.out _).mono ?_); rintro e w' ⟨rfl, rfl⟩) | ((with_reducible refine (J.out _).mono ?_); rintro e w' ⟨rfl, rfl⟩) | ((with_reducible refine (V.out _).mono ?_); rintro e w' ⟨rfl, rfl⟩))
      exact bodyPost_ret (v := .tuple #[.int .i64 1, .int .i64 1, .bool true]) (by simp [results, Tryd.results38, go_sem]) rfl ⟨rfl, rfl⟩
    · rw [show viewV 2 2 = 2 from by decide +kernel] at V
      refine extract_yes2 38 2 2 5 0 true w (by decide +kernel) ?_
      replace V := Lib.hid V
      clear ho hf
      go_enter Tryd.func38, Tryd.ntmps38
      go_wp2_with (first | ((with_reducible refine (I.out _).mono ?_); rintro e w' ⟨rfl, rfl⟩) | ((with_reducible refine (J.out _).mono ?_); rintro e w' ⟨rfl, rfl⟩) | ((with_reducible refine (V.out _).mono ?_); rintro e w' ⟨rfl, rfl⟩))
      exact bodyPost_ret (v := .tuple #[.int .i64 5, .int .i64 0, .bool true]) (by simp [results, Tryd.results38, go_sem]) rfl ⟨rfl, rfl⟩
    · rw [show viewV 2 3 = 5 from by decide +kernel] at V
      refine extract_yes2 38 2 3 5 0 true w (by decide +kernel) ?_
      replace V := Lib.hid V
      clear ho hf
      go_enter Tryd.func38, Tryd.ntmps38
      go_wp2_with (first | ((with_reducible refine (I.out _).mono ?_); rintro e w' ⟨rfl, rfl⟩) | ((with_reducible refine (J.out _).mono ?_); rintro e w' ⟨rfl, rfl⟩) | ((with_reducible refine (V.out _).mono ?_); rintro e w' ⟨rfl, rfl⟩))
      exact bodyPost_ret (v := .tuple #[.int .i64 5, .int .i64 0, .bool true]) (by simp [results, Tryd.results38, go_sem]) rfl ⟨rfl, rfl⟩
    · rw [show viewV 2 4 = 4 from by decide +kernel] at V
      refine extract_yes2 38 2 4 4 0 true w (by decide +kernel) ?_
      replace V := Lib.hid V
      clear ho hf
      go_enter Tryd.func38, Tryd.ntmps38
      go_wp2_with (first | ((with_reducible refine (I.out _).mono ?_); rintro e w' ⟨rfl, rfl⟩) | ((with_reducible refine (J.out _).mono ?_); rintro e w' ⟨rfl, rfl⟩) | ((with_reducible refine (V.out _).mono ?_); rintro e w' ⟨rfl, rfl⟩))
      exact bodyPost_ret (v := .tuple #[.int .i64 4, .int .i64 0, .bool true]) (by simp [results, Tryd.results38, go_sem]) rfl ⟨rfl, rfl⟩
    · rw [show viewV 2 5 = 5 from by decide +kernel] at V
      refine extract_yes2 38 2 5 5 0 true w (by decide +kernel) ?_
      replace V := Lib.hid V
      clear ho hf
      go_enter Tryd.func38, Tryd.ntmps38
      go_wp2_with (first | ((with_reducible refine (I.out _).mono ?_); rintro e w' ⟨rfl, rfl⟩) | ((with_reducible refine (J.out _).mono ?_); rintro e w' ⟨rfl, rfl⟩) | ((with_reducible refine (V.out _).mono ?_); rintro e w' ⟨rfl, rfl⟩))
      exact bodyPost_ret (v := .tuple #[.int .i64 5, .int .i64 0, .bool true]) (by simp [results, Tryd.results38, go_sem]) rfl ⟨rfl, rfl⟩
    · rw [show viewV 2 6 = 6 from by decide +kernel] at V
      refine extract_yes2 38 2 6 6 0 true w (by decide +kernel) ?_
      replace V := Lib.hid V
      clear ho hf
      go_enter Tryd.func38, Tryd.ntmps38
      go_wp2_with (first | ((with_reducible refine (I.out _).mono ?_); rintro e w' ⟨rfl, rfl⟩) | ((with_reducible refine (J.out _).mono ?_); rintro e w' ⟨rfl, rfl⟩) | ((with_reducible refine (V.out _).mono ?_); rintro e w' ⟨rfl, rfl⟩))
      exact bodyPost_ret (v := .tuple #[.int .i64 6, .int .i64 0, .bool true]) (by simp [results, Tryd.results38, go_sem]) rfl ⟨rfl, rfl⟩
    · rw [show viewV 3 1 = 1 from by decide +kernel] at V
      refine extract_yes2 38 3 1 1 1 true w (by decide +kernel) ?_
      replace V := Lib.hid V
      clear ho hf
      go_enter Tryd.func38, Tryd.ntmps38
      go_wp2_with (first | ((with_reducible refine (I.out _).mono ?_); rintro e w' ⟨rfl, rfl⟩) | ((with_reducible refine (J.out _).mono ?_); rintro e w' ⟨rfl, rfl⟩) | ((with_reducible refine (V.out _).mono ?_); rintro e w' ⟨rfl, rfl⟩))
      exact bodyPost_ret (v := .tuple #[.int .i64 1, .int .i64 1, .bool true]) (by simp [results, Tryd.results38, go_sem]) rfl ⟨rfl, rfl⟩
    · rw [show viewV 3 2 = 2 from by decide +kernel] at V
      refine extract_yes2 38 3 2 2 1 true w (by decide +kernel) ?_
      replace V := Lib.hid V
      clear ho hf
      go_enter Tryd.func38, Tryd.ntmps38
      go_wp2_with (first | ((with_reducible refine (I.out _).mono ?_); rintro e w' ⟨rfl, rfl⟩) | ((with_reducible refine (J.out _).mono ?_); rintro e w' ⟨rfl, rfl⟩) | ((with_reducible refine (V.out _).mono ?_); rintro e w' ⟨rfl, rfl⟩))
      exact bodyPost_ret (v := .tuple #[.int .i64 2, .int .i64 1, .bool true]) (by simp [results, Tryd.results38, go_sem]) rfl ⟨rfl, rfl⟩
    · rw [show viewV 3 3 = 3 from by decide +kernel] at V
      refine extract_yes2 38 3 3 3 0 true w (by decide +kernel) ?_
      replace V := Lib.hid V
      clear ho hf
      go_enter Tryd.func38, Tryd.ntmps38
      go_wp2_with (first | ((with_reducible refine (I.out _).mono ?_); rintro e w' ⟨rfl, rfl⟩) | ((with_reducible refine (J.out _).mono ?_); rintro e w' ⟨rfl, rfl⟩) | ((with_reducible refine (V.out _).mono ?_); rintro e w' ⟨rfl, rfl⟩))
      exact bodyPost_ret (v := .tuple #[.int .i64 3, .int .i64 0, .bool true]) (by simp [results, Tryd.results38, go_sem]) rfl ⟨rfl, rfl⟩
    · rw [show viewV 3 4 = 4 from by decide +kernel] at V
      refine extract_yes2 38 3 4 4 0 true w (by decide +kernel) ?_
      replace V := Lib.hid V
      clear ho hf
      go_enter Tryd.func38, Tryd.ntmps38
      go_wp2_with (first | ((with_reducible refine (I.out _).mono ?_); rintro e w' ⟨rfl, rfl⟩) | ((with_reducible refine (J.out _).mono ?_); rintro e w' ⟨rfl, rfl⟩) | ((with_reducible refine (V.out _).mono ?_); rintro e w' ⟨rfl, rfl⟩))
      exact bodyPost_ret (v := .tuple #[.int .i64 4, .int .i64 0, .bool true]) (by simp [results, Tryd.results38, go_sem]) rfl ⟨rfl, rfl⟩
    · rw [show viewV 3 5 = 5 from by decide +kernel] at V
      refine extract_yes2 38 3 5 5 0 true w (by decide +kernel) ?_
      replace V := Lib.hid V
      clear ho hf
      go_enter Tryd.func38, Tryd.ntmps38
      go_wp2_with (first | ((with_reducible refine (I.out _).mono ?_); rintro e w' ⟨rfl, rfl⟩) | ((with_reducible refine (J.out _).mono ?_); rintro e w' ⟨rfl, rfl⟩) | ((with_reducible refine (V.out _).mono ?_); rintro e w' ⟨rfl, rfl⟩))
      exact bodyPost_ret (v := .tuple #[.int .i64 5, .int .i64 0, .bool true]) (by simp [results, Tryd.results38, go_sem]) rfl ⟨rfl, rfl⟩
    · rw [show viewV 3 6 = 6 from by decide +kernel] at V
      refine extract_yes2 38 3 6 6 0 true w (by decide +kernel) ?_
      replace V := Lib.hid V
      clear ho hf
      go_enter Tryd.func38, Tryd.ntmps38
      go_wp2_with (first | ((with_reducible refine (I.out _).mono ?_); rintro e w' ⟨rfl, rfl⟩) | ((with_reducible refine (J.out _).mono ?_); rintro e w' ⟨rfl, rfl⟩) | ((with_reducible refine (V.out _).mono ?_); rintro e w' ⟨rfl, rfl⟩))
      exact bodyPost_ret (v := .tuple #[.int .i64 6, .int .i64 0, .bool true]) (by simp [results, Tryd.results38, go_sem]) rfl ⟨rfl, rfl⟩
end Go.Proofs.YtblklbmolfddpaaDoor
