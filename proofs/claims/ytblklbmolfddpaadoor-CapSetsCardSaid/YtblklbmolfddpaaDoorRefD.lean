/- Contracts of the reference's Reads, Fits, Sub, Alias, Consumed, Recover and Members, of the package's Consumed, Recover and Members, and of slices.Equal over integers. -/
import Derived.Test.YtblklbmolfddpaaDoorMbr
import Derived.Test.YtblklbmolfddpaaDoorShelf
namespace Go.Proofs.YtblklbmolfddpaaDoor
open Go.RowKit

theorem reads_eq (c : Int) : (capB c && (c != 6)) = readsB c := by
  by_cases h : capB c = true
  · rcases cap_cases h with rfl | rfl | rfl | rfl | rfl | rfl <;> decide +kernel
  · have h' : capB c = false := by simpa using h
    unfold readsB amongB
    rw [h']; rfl
set_option maxHeartbeats 400000 in
theorem r_reads (c : Int) (w : World) : Calls Tryd.prog 19 #[.int .i64 c] w fun e w' => e = .returned (.bool (readsB c)) ∧ w = w' := by
  rw [← reads_eq]
  have I := Lib.hid (fun W => r_is c W)
  revert I
  generalize capB c = x
  intro I
  cases x <;> (
    go_enter Tryd.func19, Tryd.ntmps19
    go_wp2_with ((with_reducible refine (I.out _).mono ?_); rintro e w' ⟨rfl, rfl⟩)
    go_ret
    exact ⟨ret_bool (by simp), rfl⟩)

theorem fits_none {a m b o : Int} (h : (capB a && markB m && (capB b && markB o)) = false) : fitsB a m b o = false := by
  unfold fitsB
  cases h1 : (capB a && markB m) with
  | false =>
    have e : markedV a m = -1 := by unfold markedV; rw [h1]; rfl
    rw [e]; simp
  | true =>
    rw [h1] at h
    simp only [Bool.true_and] at h
    have e : markedV b o = -1 := by unfold markedV; rw [h]; rfl
    rw [e]; simp
set_option maxHeartbeats 800000 in
theorem r_fits_no (a m b o : Int) (w : World) (h : (capB a && markB m && (capB b && markB o)) = false) :
    Calls Tryd.prog 27 #[.int .i64 a, .int .i64 m, .int .i64 b, .int .i64 o] w fun e w' => e = .returned (.bool (fitsB a m b o)) ∧ w = w' := by
  rw [fits_none h]
  have I := Lib.hid (fun W => r_marked a m W)
  have J := Lib.hid (fun W => r_marked b o W)
  revert h I J
  generalize (capB a && markB m) = x
  generalize (capB b && markB o) = y
  intro h I J
  cases x <;> cases y <;> first
    | (cases h; done)
    | (clear h
       go_enter Tryd.func27, Tryd.ntmps27
       go_wp2_with (first | ((with_reducible refine (I.out _).mono ?_); rintro e w' ⟨rfl, rfl⟩) | ((with_reducible refine (J.out _).mono ?_); rintro e w' ⟨rfl, rfl⟩))
       go_ret
       exact ⟨rfl, rfl⟩)
set_option maxHeartbeats 12800000 in
theorem r_fits_yes (a m b o : Int) (w : World) (ha : capB a = true) (hm : markB m = true) (hb : capB b = true) (ho : markB o = true) :
    Calls Tryd.prog 27 #[.int .i64 a, .int .i64 m, .int .i64 b, .int .i64 o] w fun e w' => e = .returned (.bool (fitsB a m b o)) ∧ w = w' := by
  have I := Lib.hid (fun W => r_marked a m W)
  have J := Lib.hid (fun W => r_marked b o W)
  rw [ha, hm] at I
  rw [hb, ho] at J
  simp only [Bool.and_true] at I J
  rcases cap_cases ha with rfl | rfl | rfl | rfl | rfl | rfl
  · rcases mark_cases hm with rfl | rfl | rfl
    · rcases cap_cases hb with rfl | rfl | rfl | rfl | rfl | rfl
      · rcases mark_cases ho with rfl | rfl | rfl
        · rw [show fitsB 1 0 1 0 = true from by decide +kernel]
          clear ha hm hb ho
          go_enter Tryd.func27, Tryd.ntmps27
          go_wp2_with (first | ((with_reducible refine (I.out _).mono ?_); rintro e w' ⟨rfl, rfl⟩) | ((with_reducible refine (J.out _).mono ?_); rintro e w' ⟨rfl, rfl⟩))
          go_ret
          exact ⟨rfl, rfl⟩
        · rw [show fitsB 1 0 1 1 = false from by decide +kernel]
          clear ha hm hb ho
          go_enter Tryd.func27, Tryd.ntmps27
          go_wp2_with (first | ((with_reducible refine (I.out _).mono ?_); rintro e w' ⟨rfl, rfl⟩) | ((with_reducible refine (J.out _).mono ?_); rintro e w' ⟨rfl, rfl⟩))
          go_ret
          exact ⟨rfl, rfl⟩
        · rw [show fitsB 1 0 1 2 = true from by decide +kernel]
          clear ha hm hb ho
          go_enter Tryd.func27, Tryd.ntmps27
          go_wp2_with (first | ((with_reducible refine (I.out _).mono ?_); rintro e w' ⟨rfl, rfl⟩) | ((with_reducible refine (J.out _).mono ?_); rintro e w' ⟨rfl, rfl⟩))
          go_ret
          exact ⟨rfl, rfl⟩
      · rw [show fitsB 1 0 2 o = false from by rcases mark_cases ho with rfl | rfl | rfl <;> decide +kernel]
        clear ha hm hb ho
        go_enter Tryd.func27, Tryd.ntmps27
        go_wp2_with (first | ((with_reducible refine (I.out _).mono ?_); rintro e w' ⟨rfl, rfl⟩) | ((with_reducible refine (J.out _).mono ?_); rintro e w' ⟨rfl, rfl⟩))
        go_ret
        exact ⟨rfl, rfl⟩
      · rw [show fitsB 1 0 3 o = false from by rcases mark_cases ho with rfl | rfl | rfl <;> decide +kernel]
        clear ha hm hb ho
        go_enter Tryd.func27, Tryd.ntmps27
        go_wp2_with (first | ((with_reducible refine (I.out _).mono ?_); rintro e w' ⟨rfl, rfl⟩) | ((with_reducible refine (J.out _).mono ?_); rintro e w' ⟨rfl, rfl⟩))
        go_ret
        exact ⟨rfl, rfl⟩
      · rw [show fitsB 1 0 4 o = false from by rcases mark_cases ho with rfl | rfl | rfl <;> decide +kernel]
        clear ha hm hb ho
        go_enter Tryd.func27, Tryd.ntmps27
        go_wp2_with (first | ((with_reducible refine (I.out _).mono ?_); rintro e w' ⟨rfl, rfl⟩) | ((with_reducible refine (J.out _).mono ?_); rintro e w' ⟨rfl, rfl⟩))
        go_ret
        exact ⟨rfl, rfl⟩
      · rw [show fitsB 1 0 5 o = false from by rcases mark_cases ho with rfl | rfl | rfl <;> decide +kernel]
        clear ha hm hb ho
        go_enter Tryd.func27, Tryd.ntmps27
        go_wp2_with (first | ((with_reducible refine (I.out _).mono ?_); rintro e w' ⟨rfl, rfl⟩) | ((with_reducible refine (J.out _).mono ?_); rintro e w' ⟨rfl, rfl⟩))
        go_ret
        exact ⟨rfl, rfl⟩
      · rw [show fitsB 1 0 6 o = true from by rcases mark_cases ho with rfl | rfl | rfl <;> decide +kernel]
        clear ha hm hb ho
        go_enter Tryd.func27, Tryd.ntmps27
        go_wp2_with (first | ((with_reducible refine (I.out _).mono ?_); rintro e w' ⟨rfl, rfl⟩) | ((with_reducible refine (J.out _).mono ?_); rintro e w' ⟨rfl, rfl⟩))
        go_ret
        exact ⟨rfl, rfl⟩
    · rcases cap_cases hb with rfl | rfl | rfl | rfl | rfl | rfl
      · rcases mark_cases ho with rfl | rfl | rfl
        · rw [show fitsB 1 1 1 0 = true from by decide +kernel]
          clear ha hm hb ho
          go_enter Tryd.func27, Tryd.ntmps27
          go_wp2_with (first | ((with_reducible refine (I.out _).mono ?_); rintro e w' ⟨rfl, rfl⟩) | ((with_reducible refine (J.out _).mono ?_); rintro e w' ⟨rfl, rfl⟩))
          go_ret
          exact ⟨rfl, rfl⟩
        · rw [show fitsB 1 1 1 1 = true from by decide +kernel]
          clear ha hm hb ho
          go_enter Tryd.func27, Tryd.ntmps27
          go_wp2_with (first | ((with_reducible refine (I.out _).mono ?_); rintro e w' ⟨rfl, rfl⟩) | ((with_reducible refine (J.out _).mono ?_); rintro e w' ⟨rfl, rfl⟩))
          go_ret
          exact ⟨rfl, rfl⟩
        · rw [show fitsB 1 1 1 2 = true from by decide +kernel]
          clear ha hm hb ho
          go_enter Tryd.func27, Tryd.ntmps27
          go_wp2_with (first | ((with_reducible refine (I.out _).mono ?_); rintro e w' ⟨rfl, rfl⟩) | ((with_reducible refine (J.out _).mono ?_); rintro e w' ⟨rfl, rfl⟩))
          go_ret
          exact ⟨rfl, rfl⟩
      · rw [show fitsB 1 1 2 o = true from by rcases mark_cases ho with rfl | rfl | rfl <;> decide +kernel]
        clear ha hm hb ho
        go_enter Tryd.func27, Tryd.ntmps27
        go_wp2_with (first | ((with_reducible refine (I.out _).mono ?_); rintro e w' ⟨rfl, rfl⟩) | ((with_reducible refine (J.out _).mono ?_); rintro e w' ⟨rfl, rfl⟩))
        go_ret
        exact ⟨rfl, rfl⟩
      · rw [show fitsB 1 1 3 o = true from by rcases mark_cases ho with rfl | rfl | rfl <;> decide +kernel]
        clear ha hm hb ho
        go_enter Tryd.func27, Tryd.ntmps27
        go_wp2_with (first | ((with_reducible refine (I.out _).mono ?_); rintro e w' ⟨rfl, rfl⟩) | ((with_reducible refine (J.out _).mono ?_); rintro e w' ⟨rfl, rfl⟩))
        go_ret
        exact ⟨rfl, rfl⟩
      · rw [show fitsB 1 1 4 o = true from by rcases mark_cases ho with rfl | rfl | rfl <;> decide +kernel]
        clear ha hm hb ho
        go_enter Tryd.func27, Tryd.ntmps27
        go_wp2_with (first | ((with_reducible refine (I.out _).mono ?_); rintro e w' ⟨rfl, rfl⟩) | ((with_reducible refine (J.out _).mono ?_); rintro e w' ⟨rfl, rfl⟩))
        go_ret
        exact ⟨rfl, rfl⟩
      · rw [show fitsB 1 1 5 o = true from by rcases mark_cases ho with rfl | rfl | rfl <;> decide +kernel]
        clear ha hm hb ho
        go_enter Tryd.func27, Tryd.ntmps27
        go_wp2_with (first | ((with_reducible refine (I.out _).mono ?_); rintro e w' ⟨rfl, rfl⟩) | ((with_reducible refine (J.out _).mono ?_); rintro e w' ⟨rfl, rfl⟩))
        go_ret
        exact ⟨rfl, rfl⟩
      · rw [show fitsB 1 1 6 o = true from by rcases mark_cases ho with rfl | rfl | rfl <;> decide +kernel]
        clear ha hm hb ho
        go_enter Tryd.func27, Tryd.ntmps27
        go_wp2_with (first | ((with_reducible refine (I.out _).mono ?_); rintro e w' ⟨rfl, rfl⟩) | ((with_reducible refine (J.out _).mono ?_); rintro e w' ⟨rfl, rfl⟩))
        go_ret
        exact ⟨rfl, rfl⟩
    · rcases cap_cases hb with rfl | rfl | rfl | rfl | rfl | rfl
      · rcases mark_cases ho with rfl | rfl | rfl
        · rw [show fitsB 1 2 1 0 = false from by decide +kernel]
          clear ha hm hb ho
          go_enter Tryd.func27, Tryd.ntmps27
          go_wp2_with (first | ((with_reducible refine (I.out _).mono ?_); rintro e w' ⟨rfl, rfl⟩) | ((with_reducible refine (J.out _).mono ?_); rintro e w' ⟨rfl, rfl⟩))
          go_ret
          exact ⟨rfl, rfl⟩
        · rw [show fitsB 1 2 1 1 = false from by decide +kernel]
          clear ha hm hb ho
          go_enter Tryd.func27, Tryd.ntmps27
          go_wp2_with (first | ((with_reducible refine (I.out _).mono ?_); rintro e w' ⟨rfl, rfl⟩) | ((with_reducible refine (J.out _).mono ?_); rintro e w' ⟨rfl, rfl⟩))
          go_ret
          exact ⟨rfl, rfl⟩
        · rw [show fitsB 1 2 1 2 = true from by decide +kernel]
          clear ha hm hb ho
          go_enter Tryd.func27, Tryd.ntmps27
          go_wp2_with (first | ((with_reducible refine (I.out _).mono ?_); rintro e w' ⟨rfl, rfl⟩) | ((with_reducible refine (J.out _).mono ?_); rintro e w' ⟨rfl, rfl⟩))
          go_ret
          exact ⟨rfl, rfl⟩
      · rw [show fitsB 1 2 2 o = false from by rcases mark_cases ho with rfl | rfl | rfl <;> decide +kernel]
        clear ha hm hb ho
        go_enter Tryd.func27, Tryd.ntmps27
        go_wp2_with (first | ((with_reducible refine (I.out _).mono ?_); rintro e w' ⟨rfl, rfl⟩) | ((with_reducible refine (J.out _).mono ?_); rintro e w' ⟨rfl, rfl⟩))
        go_ret
        exact ⟨rfl, rfl⟩
      · rw [show fitsB 1 2 3 o = false from by rcases mark_cases ho with rfl | rfl | rfl <;> decide +kernel]
        clear ha hm hb ho
        go_enter Tryd.func27, Tryd.ntmps27
        go_wp2_with (first | ((with_reducible refine (I.out _).mono ?_); rintro e w' ⟨rfl, rfl⟩) | ((with_reducible refine (J.out _).mono ?_); rintro e w' ⟨rfl, rfl⟩))
        go_ret
        exact ⟨rfl, rfl⟩
      · rw [show fitsB 1 2 4 o = false from by rcases mark_cases ho with rfl | rfl | rfl <;> decide +kernel]
        clear ha hm hb ho
        go_enter Tryd.func27, Tryd.ntmps27
        go_wp2_with (first | ((with_reducible refine (I.out _).mono ?_); rintro e w' ⟨rfl, rfl⟩) | ((with_reducible refine (J.out _).mono ?_); rintro e w' ⟨rfl, rfl⟩))
        go_ret
        exact ⟨rfl, rfl⟩
      · rw [show fitsB 1 2 5 o = false from by rcases mark_cases ho with rfl | rfl | rfl <;> decide +kernel]
        clear ha hm hb ho
        go_enter Tryd.func27, Tryd.ntmps27
        go_wp2_with (first | ((with_reducible refine (I.out _).mono ?_); rintro e w' ⟨rfl, rfl⟩) | ((with_reducible refine (J.out _).mono ?_); rintro e w' ⟨rfl, rfl⟩))
        go_ret
        exact ⟨rfl, rfl⟩
      · rw [show fitsB 1 2 6 o = true from by rcases mark_cases ho with rfl | rfl | rfl <;> decide +kernel]
        clear ha hm hb ho
        go_enter Tryd.func27, Tryd.ntmps27
        go_wp2_with (first | ((with_reducible refine (I.out _).mono ?_); rintro e w' ⟨rfl, rfl⟩) | ((with_reducible refine (J.out _).mono ?_); rintro e w' ⟨rfl, rfl⟩))
        go_ret
        exact ⟨rfl, rfl⟩
  · rcases mark_cases hm with rfl | rfl | rfl
    · rcases cap_cases hb with rfl | rfl | rfl | rfl | rfl | rfl
      · rw [show fitsB 2 0 1 o = false from by rcases mark_cases ho with rfl | rfl | rfl <;> decide +kernel]
        clear ha hm hb ho
        go_enter Tryd.func27, Tryd.ntmps27
        go_wp2_with (first | ((with_reducible refine (I.out _).mono ?_); rintro e w' ⟨rfl, rfl⟩) | ((with_reducible refine (J.out _).mono ?_); rintro e w' ⟨rfl, rfl⟩))
        go_ret
        exact ⟨rfl, rfl⟩
      · rcases mark_cases ho with rfl | rfl | rfl
        · rw [show fitsB 2 0 2 0 = true from by decide +kernel]
          clear ha hm hb ho
          go_enter Tryd.func27, Tryd.ntmps27
          go_wp2_with (first | ((with_reducible refine (I.out _).mono ?_); rintro e w' ⟨rfl, rfl⟩) | ((with_reducible refine (J.out _).mono ?_); rintro e w' ⟨rfl, rfl⟩))
          go_ret
          exact ⟨rfl, rfl⟩
        · rw [show fitsB 2 0 2 1 = false from by decide +kernel]
          clear ha hm hb ho
          go_enter Tryd.func27, Tryd.ntmps27
          go_wp2_with (first | ((with_reducible refine (I.out _).mono ?_); rintro e w' ⟨rfl, rfl⟩) | ((with_reducible refine (J.out _).mono ?_); rintro e w' ⟨rfl, rfl⟩))
          go_ret
          exact ⟨rfl, rfl⟩
        · rw [show fitsB 2 0 2 2 = true from by decide +kernel]
          clear ha hm hb ho
          go_enter Tryd.func27, Tryd.ntmps27
          go_wp2_with (first | ((with_reducible refine (I.out _).mono ?_); rintro e w' ⟨rfl, rfl⟩) | ((with_reducible refine (J.out _).mono ?_); rintro e w' ⟨rfl, rfl⟩))
          go_ret
          exact ⟨rfl, rfl⟩
      · rw [show fitsB 2 0 3 o = false from by rcases mark_cases ho with rfl | rfl | rfl <;> decide +kernel]
        clear ha hm hb ho
        go_enter Tryd.func27, Tryd.ntmps27
        go_wp2_with (first | ((with_reducible refine (I.out _).mono ?_); rintro e w' ⟨rfl, rfl⟩) | ((with_reducible refine (J.out _).mono ?_); rintro e w' ⟨rfl, rfl⟩))
        go_ret
        exact ⟨rfl, rfl⟩
      · rw [show fitsB 2 0 4 o = false from by rcases mark_cases ho with rfl | rfl | rfl <;> decide +kernel]
        clear ha hm hb ho
        go_enter Tryd.func27, Tryd.ntmps27
        go_wp2_with (first | ((with_reducible refine (I.out _).mono ?_); rintro e w' ⟨rfl, rfl⟩) | ((with_reducible refine (J.out _).mono ?_); rintro e w' ⟨rfl, rfl⟩))
        go_ret
        exact ⟨rfl, rfl⟩
      · rw [show fitsB 2 0 5 o = true from by rcases mark_cases ho with rfl | rfl | rfl <;> decide +kernel]
        clear ha hm hb ho
        go_enter Tryd.func27, Tryd.ntmps27
        go_wp2_with (first | ((with_reducible refine (I.out _).mono ?_); rintro e w' ⟨rfl, rfl⟩) | ((with_reducible refine (J.out _).mono ?_); rintro e w' ⟨rfl, rfl⟩))
        go_ret
        exact ⟨rfl, rfl⟩
      · rw [show fitsB 2 0 6 o = true from by rcases mark_cases ho with rfl | rfl | rfl <;> decide +kernel]
        clear ha hm hb ho
        go_enter Tryd.func27, Tryd.ntmps27
        go_wp2_with (first | ((with_reducible refine (I.out _).mono ?_); rintro e w' ⟨rfl, rfl⟩) | ((with_reducible refine (J.out _).mono ?_); rintro e w' ⟨rfl, rfl⟩))
        go_ret
        exact ⟨rfl, rfl⟩
    · rcases cap_cases hb with rfl | rfl | rfl | rfl | rfl | rfl
      · rw [show fitsB 2 1 1 o = false from by rcases mark_cases ho with rfl | rfl | rfl <;> decide +kernel]
        clear ha hm hb ho
        go_enter Tryd.func27, Tryd.ntmps27
        go_wp2_with (first | ((with_reducible refine (I.out _).mono ?_); rintro e w' ⟨rfl, rfl⟩) | ((with_reducible refine (J.out _).mono ?_); rintro e w' ⟨rfl, rfl⟩))
        go_ret
        exact ⟨rfl, rfl⟩
      · rcases mark_cases ho with rfl | rfl | rfl
        · rw [show fitsB 2 1 2 0 = true from by decide +kernel]
          clear ha hm hb ho
          go_enter Tryd.func27, Tryd.ntmps27
          go_wp2_with (first | ((with_reducible refine (I.out _).mono ?_); rintro e w' ⟨rfl, rfl⟩) | ((with_reducible refine (J.out _).mono ?_); rintro e w' ⟨rfl, rfl⟩))
          go_ret
          exact ⟨rfl, rfl⟩
        · rw [show fitsB 2 1 2 1 = true from by decide +kernel]
          clear ha hm hb ho
          go_enter Tryd.func27, Tryd.ntmps27
          go_wp2_with (first | ((with_reducible refine (I.out _).mono ?_); rintro e w' ⟨rfl, rfl⟩) | ((with_reducible refine (J.out _).mono ?_); rintro e w' ⟨rfl, rfl⟩))
          go_ret
          exact ⟨rfl, rfl⟩
        · rw [show fitsB 2 1 2 2 = true from by decide +kernel]
          clear ha hm hb ho
          go_enter Tryd.func27, Tryd.ntmps27
          go_wp2_with (first | ((with_reducible refine (I.out _).mono ?_); rintro e w' ⟨rfl, rfl⟩) | ((with_reducible refine (J.out _).mono ?_); rintro e w' ⟨rfl, rfl⟩))
          go_ret
          exact ⟨rfl, rfl⟩
      · rw [show fitsB 2 1 3 o = true from by rcases mark_cases ho with rfl | rfl | rfl <;> decide +kernel]
        clear ha hm hb ho
        go_enter Tryd.func27, Tryd.ntmps27
        go_wp2_with (first | ((with_reducible refine (I.out _).mono ?_); rintro e w' ⟨rfl, rfl⟩) | ((with_reducible refine (J.out _).mono ?_); rintro e w' ⟨rfl, rfl⟩))
        go_ret
        exact ⟨rfl, rfl⟩
      · rw [show fitsB 2 1 4 o = true from by rcases mark_cases ho with rfl | rfl | rfl <;> decide +kernel]
        clear ha hm hb ho
        go_enter Tryd.func27, Tryd.ntmps27
        go_wp2_with (first | ((with_reducible refine (I.out _).mono ?_); rintro e w' ⟨rfl, rfl⟩) | ((with_reducible refine (J.out _).mono ?_); rintro e w' ⟨rfl, rfl⟩))
        go_ret
        exact ⟨rfl, rfl⟩
      · rw [show fitsB 2 1 5 o = true from by rcases mark_cases ho with rfl | rfl | rfl <;> decide +kernel]
        clear ha hm hb ho
        go_enter Tryd.func27, Tryd.ntmps27
        go_wp2_with (first | ((with_reducible refine (I.out _).mono ?_); rintro e w' ⟨rfl, rfl⟩) | ((with_reducible refine (J.out _).mono ?_); rintro e w' ⟨rfl, rfl⟩))
        go_ret
        exact ⟨rfl, rfl⟩
      · rw [show fitsB 2 1 6 o = true from by rcases mark_cases ho with rfl | rfl | rfl <;> decide +kernel]
        clear ha hm hb ho
        go_enter Tryd.func27, Tryd.ntmps27
        go_wp2_with (first | ((with_reducible refine (I.out _).mono ?_); rintro e w' ⟨rfl, rfl⟩) | ((with_reducible refine (J.out _).mono ?_); rintro e w' ⟨rfl, rfl⟩))
        go_ret
        exact ⟨rfl, rfl⟩
    · rcases cap_cases hb with rfl | rfl | rfl | rfl | rfl | rfl
      · rw [show fitsB 2 2 1 o = false from by rcases mark_cases ho with rfl | rfl | rfl <;> decide +kernel]
        clear ha hm hb ho
        go_enter Tryd.func27, Tryd.ntmps27
        go_wp2_with (first | ((with_reducible refine (I.out _).mono ?_); rintro e w' ⟨rfl, rfl⟩) | ((with_reducible refine (J.out _).mono ?_); rintro e w' ⟨rfl, rfl⟩))
        go_ret
        exact ⟨rfl, rfl⟩
      · rcases mark_cases ho with rfl | rfl | rfl
        · rw [show fitsB 2 2 2 0 = false from by decide +kernel]
          clear ha hm hb ho
          go_enter Tryd.func27, Tryd.ntmps27
          go_wp2_with (first | ((with_reducible refine (I.out _).mono ?_); rintro e w' ⟨rfl, rfl⟩) | ((with_reducible refine (J.out _).mono ?_); rintro e w' ⟨rfl, rfl⟩))
          go_ret
          exact ⟨rfl, rfl⟩
        · rw [show fitsB 2 2 2 1 = false from by decide +kernel]
          clear ha hm hb ho
          go_enter Tryd.func27, Tryd.ntmps27
          go_wp2_with (first | ((with_reducible refine (I.out _).mono ?_); rintro e w' ⟨rfl, rfl⟩) | ((with_reducible refine (J.out _).mono ?_); rintro e w' ⟨rfl, rfl⟩))
          go_ret
          exact ⟨rfl, rfl⟩
        · rw [show fitsB 2 2 2 2 = true from by decide +kernel]
          clear ha hm hb ho
          go_enter Tryd.func27, Tryd.ntmps27
          go_wp2_with (first | ((with_reducible refine (I.out _).mono ?_); rintro e w' ⟨rfl, rfl⟩) | ((with_reducible refine (J.out _).mono ?_); rintro e w' ⟨rfl, rfl⟩))
          go_ret
          exact ⟨rfl, rfl⟩
      · rw [show fitsB 2 2 3 o = false from by rcases mark_cases ho with rfl | rfl | rfl <;> decide +kernel]
        clear ha hm hb ho
        go_enter Tryd.func27, Tryd.ntmps27
        go_wp2_with (first | ((with_reducible refine (I.out _).mono ?_); rintro e w' ⟨rfl, rfl⟩) | ((with_reducible refine (J.out _).mono ?_); rintro e w' ⟨rfl, rfl⟩))
        go_ret
        exact ⟨rfl, rfl⟩
      · rw [show fitsB 2 2 4 o = false from by rcases mark_cases ho with rfl | rfl | rfl <;> decide +kernel]
        clear ha hm hb ho
        go_enter Tryd.func27, Tryd.ntmps27
        go_wp2_with (first | ((with_reducible refine (I.out _).mono ?_); rintro e w' ⟨rfl, rfl⟩) | ((with_reducible refine (J.out _).mono ?_); rintro e w' ⟨rfl, rfl⟩))
        go_ret
        exact ⟨rfl, rfl⟩
      · rw [show fitsB 2 2 5 o = true from by rcases mark_cases ho with rfl | rfl | rfl <;> decide +kernel]
        clear ha hm hb ho
        go_enter Tryd.func27, Tryd.ntmps27
        go_wp2_with (first | ((with_reducible refine (I.out _).mono ?_); rintro e w' ⟨rfl, rfl⟩) | ((with_reducible refine (J.out _).mono ?_); rintro e w' ⟨rfl, rfl⟩))
        go_ret
        exact ⟨rfl, rfl⟩
      · rw [show fitsB 2 2 6 o = true from by rcases mark_cases ho with rfl | rfl | rfl <;> decide +kernel]
        clear ha hm hb ho
        go_enter Tryd.func27, Tryd.ntmps27
        go_wp2_with (first | ((with_reducible refine (I.out _).mono ?_); rintro e w' ⟨rfl, rfl⟩) | ((with_reducible refine (J.out _).mono ?_); rintro e w' ⟨rfl, rfl⟩))
        go_ret
        exact ⟨rfl, rfl⟩
  · rcases cap_cases hb with rfl | rfl | rfl | rfl | rfl | rfl
    · rw [show fitsB 3 m 1 o = false from by rcases mark_cases hm with rfl | rfl | rfl <;> rcases mark_cases ho with rfl | rfl | rfl <;> decide +kernel]
      clear ha hm hb ho
      go_enter Tryd.func27, Tryd.ntmps27
      go_wp2_with (first | ((with_reducible refine (I.out _).mono ?_); rintro e w' ⟨rfl, rfl⟩) | ((with_reducible refine (J.out _).mono ?_); rintro e w' ⟨rfl, rfl⟩))
      go_ret
      exact ⟨rfl, rfl⟩
    · rw [show fitsB 3 m 2 o = false from by rcases mark_cases hm with rfl | rfl | rfl <;> rcases mark_cases ho with rfl | rfl | rfl <;> decide +kernel]
      clear ha hm hb ho
      go_enter Tryd.func27, Tryd.ntmps27
      go_wp2_with (first | ((with_reducible refine (I.out _).mono ?_); rintro e w' ⟨rfl, rfl⟩) | ((with_reducible refine (J.out _).mono ?_); rintro e w' ⟨rfl, rfl⟩))
      go_ret
      exact ⟨rfl, rfl⟩
    · rw [show fitsB 3 m 3 o = true from by rcases mark_cases hm with rfl | rfl | rfl <;> rcases mark_cases ho with rfl | rfl | rfl <;> decide +kernel]
      clear ha hm hb ho
      go_enter Tryd.func27, Tryd.ntmps27
      go_wp2_with (first | ((with_reducible refine (I.out _).mono ?_); rintro e w' ⟨rfl, rfl⟩) | ((with_reducible refine (J.out _).mono ?_); rintro e w' ⟨rfl, rfl⟩))
      go_ret
      exact ⟨rfl, rfl⟩
    · rw [show fitsB 3 m 4 o = false from by rcases mark_cases hm with rfl | rfl | rfl <;> rcases mark_cases ho with rfl | rfl | rfl <;> decide +kernel]
      clear ha hm hb ho
      go_enter Tryd.func27, Tryd.ntmps27
      go_wp2_with (first | ((with_reducible refine (I.out _).mono ?_); rintro e w' ⟨rfl, rfl⟩) | ((with_reducible refine (J.out _).mono ?_); rintro e w' ⟨rfl, rfl⟩))
      go_ret
      exact ⟨rfl, rfl⟩
    · rw [show fitsB 3 m 5 o = true from by rcases mark_cases hm with rfl | rfl | rfl <;> rcases mark_cases ho with rfl | rfl | rfl <;> decide +kernel]
      clear ha hm hb ho
      go_enter Tryd.func27, Tryd.ntmps27
      go_wp2_with (first | ((with_reducible refine (I.out _).mono ?_); rintro e w' ⟨rfl, rfl⟩) | ((with_reducible refine (J.out _).mono ?_); rintro e w' ⟨rfl, rfl⟩))
      go_ret
      exact ⟨rfl, rfl⟩
    · rw [show fitsB 3 m 6 o = true from by rcases mark_cases hm with rfl | rfl | rfl <;> rcases mark_cases ho with rfl | rfl | rfl <;> decide +kernel]
      clear ha hm hb ho
      go_enter Tryd.func27, Tryd.ntmps27
      go_wp2_with (first | ((with_reducible refine (I.out _).mono ?_); rintro e w' ⟨rfl, rfl⟩) | ((with_reducible refine (J.out _).mono ?_); rintro e w' ⟨rfl, rfl⟩))
      go_ret
      exact ⟨rfl, rfl⟩
  · rcases cap_cases hb with rfl | rfl | rfl | rfl | rfl | rfl
    · rw [show fitsB 4 m 1 o = false from by rcases mark_cases hm with rfl | rfl | rfl <;> rcases mark_cases ho with rfl | rfl | rfl <;> decide +kernel]
      clear ha hm hb ho
      go_enter Tryd.func27, Tryd.ntmps27
      go_wp2_with (first | ((with_reducible refine (I.out _).mono ?_); rintro e w' ⟨rfl, rfl⟩) | ((with_reducible refine (J.out _).mono ?_); rintro e w' ⟨rfl, rfl⟩))
      go_ret
      exact ⟨rfl, rfl⟩
    · rw [show fitsB 4 m 2 o = false from by rcases mark_cases hm with rfl | rfl | rfl <;> rcases mark_cases ho with rfl | rfl | rfl <;> decide +kernel]
      clear ha hm hb ho
      go_enter Tryd.func27, Tryd.ntmps27
      go_wp2_with (first | ((with_reducible refine (I.out _).mono ?_); rintro e w' ⟨rfl, rfl⟩) | ((with_reducible refine (J.out _).mono ?_); rintro e w' ⟨rfl, rfl⟩))
      go_ret
      exact ⟨rfl, rfl⟩
    · rw [show fitsB 4 m 3 o = false from by rcases mark_cases hm with rfl | rfl | rfl <;> rcases mark_cases ho with rfl | rfl | rfl <;> decide +kernel]
      clear ha hm hb ho
      go_enter Tryd.func27, Tryd.ntmps27
      go_wp2_with (first | ((with_reducible refine (I.out _).mono ?_); rintro e w' ⟨rfl, rfl⟩) | ((with_reducible refine (J.out _).mono ?_); rintro e w' ⟨rfl, rfl⟩))
      go_ret
      exact ⟨rfl, rfl⟩
    · rw [show fitsB 4 m 4 o = true from by rcases mark_cases hm with rfl | rfl | rfl <;> rcases mark_cases ho with rfl | rfl | rfl <;> decide +kernel]
      clear ha hm hb ho
      go_enter Tryd.func27, Tryd.ntmps27
      go_wp2_with (first | ((with_reducible refine (I.out _).mono ?_); rintro e w' ⟨rfl, rfl⟩) | ((with_reducible refine (J.out _).mono ?_); rintro e w' ⟨rfl, rfl⟩))
      go_ret
      exact ⟨rfl, rfl⟩
    · rw [show fitsB 4 m 5 o = true from by rcases mark_cases hm with rfl | rfl | rfl <;> rcases mark_cases ho with rfl | rfl | rfl <;> decide +kernel]
      clear ha hm hb ho
      go_enter Tryd.func27, Tryd.ntmps27
      go_wp2_with (first | ((with_reducible refine (I.out _).mono ?_); rintro e w' ⟨rfl, rfl⟩) | ((with_reducible refine (J.out _).mono ?_); rintro e w' ⟨rfl, rfl⟩))
      go_ret
      exact ⟨rfl, rfl⟩
    · rw [show fitsB 4 m 6 o = true from by rcases mark_cases hm with rfl | rfl | rfl <;> rcases mark_cases ho with rfl | rfl | rfl <;> decide +kernel]
      clear ha hm hb ho
      go_enter Tryd.func27, Tryd.ntmps27
      go_wp2_with (first | ((with_reducible refine (I.out _).mono ?_); rintro e w' ⟨rfl, rfl⟩) | ((with_reducible refine (J.out _).mono ?_); rintro e w' ⟨rfl, rfl⟩))
      go_ret
      exact ⟨rfl, rfl⟩
  · rcases cap_cases hb with rfl | rfl | rfl | rfl | rfl | rfl
    · rw [show fitsB 5 m 1 o = false from by rcases mark_cases hm with rfl | rfl | rfl <;> rcases mark_cases ho with rfl | rfl | rfl <;> decide +kernel]
      clear ha hm hb ho
      go_enter Tryd.func27, Tryd.ntmps27
      go_wp2_with (first | ((with_reducible refine (I.out _).mono ?_); rintro e w' ⟨rfl, rfl⟩) | ((with_reducible refine (J.out _).mono ?_); rintro e w' ⟨rfl, rfl⟩))
      go_ret
      exact ⟨rfl, rfl⟩
    · rw [show fitsB 5 m 2 o = false from by rcases mark_cases hm with rfl | rfl | rfl <;> rcases mark_cases ho with rfl | rfl | rfl <;> decide +kernel]
      clear ha hm hb ho
      go_enter Tryd.func27, Tryd.ntmps27
      go_wp2_with (first | ((with_reducible refine (I.out _).mono ?_); rintro e w' ⟨rfl, rfl⟩) | ((with_reducible refine (J.out _).mono ?_); rintro e w' ⟨rfl, rfl⟩))
      go_ret
      exact ⟨rfl, rfl⟩
    · rw [show fitsB 5 m 3 o = false from by rcases mark_cases hm with rfl | rfl | rfl <;> rcases mark_cases ho with rfl | rfl | rfl <;> decide +kernel]
      clear ha hm hb ho
      go_enter Tryd.func27, Tryd.ntmps27
      go_wp2_with (first | ((with_reducible refine (I.out _).mono ?_); rintro e w' ⟨rfl, rfl⟩) | ((with_reducible refine (J.out _).mono ?_); rintro e w' ⟨rfl, rfl⟩))
      go_ret
      exact ⟨rfl, rfl⟩
    · rw [show fitsB 5 m 4 o = false from by rcases mark_cases hm with rfl | rfl | rfl <;> rcases mark_cases ho with rfl | rfl | rfl <;> decide +kernel]
      clear ha hm hb ho
      go_enter Tryd.func27, Tryd.ntmps27
      go_wp2_with (first | ((with_reducible refine (I.out _).mono ?_); rintro e w' ⟨rfl, rfl⟩) | ((with_reducible refine (J.out _).mono ?_); rintro e w' ⟨rfl, rfl⟩))
      go_ret
      exact ⟨rfl, rfl⟩
    · rw [show fitsB 5 m 5 o = true from by rcases mark_cases hm with rfl | rfl | rfl <;> rcases mark_cases ho with rfl | rfl | rfl <;> decide +kernel]
      clear ha hm hb ho
      go_enter Tryd.func27, Tryd.ntmps27
      go_wp2_with (first | ((with_reducible refine (I.out _).mono ?_); rintro e w' ⟨rfl, rfl⟩) | ((with_reducible refine (J.out _).mono ?_); rintro e w' ⟨rfl, rfl⟩))
      go_ret
      exact ⟨rfl, rfl⟩
    · rw [show fitsB 5 m 6 o = true from by rcases mark_cases hm with rfl | rfl | rfl <;> rcases mark_cases ho with rfl | rfl | rfl <;> decide +kernel]
      clear ha hm hb ho
      go_enter Tryd.func27, Tryd.ntmps27
      go_wp2_with (first | ((with_reducible refine (I.out _).mono ?_); rintro e w' ⟨rfl, rfl⟩) | ((with_reducible refine (J.out _).mono ?_); rintro e w' ⟨rfl, rfl⟩))
      go_ret
      exact ⟨rfl, rfl⟩
  · rcases cap_cases hb with rfl | rfl | rfl | rfl | rfl | rfl
    · rw [show fitsB 6 m 1 o = false from by rcases mark_cases hm with rfl | rfl | rfl <;> rcases mark_cases ho with rfl | rfl | rfl <;> decide +kernel]
      clear ha hm hb ho
      go_enter Tryd.func27, Tryd.ntmps27
      go_wp2_with (first | ((with_reducible refine (I.out _).mono ?_); rintro e w' ⟨rfl, rfl⟩) | ((with_reducible refine (J.out _).mono ?_); rintro e w' ⟨rfl, rfl⟩))
      go_ret
      exact ⟨rfl, rfl⟩
    · rw [show fitsB 6 m 2 o = false from by rcases mark_cases hm with rfl | rfl | rfl <;> rcases mark_cases ho with rfl | rfl | rfl <;> decide +kernel]
      clear ha hm hb ho
      go_enter Tryd.func27, Tryd.ntmps27
      go_wp2_with (first | ((with_reducible refine (I.out _).mono ?_); rintro e w' ⟨rfl, rfl⟩) | ((with_reducible refine (J.out _).mono ?_); rintro e w' ⟨rfl, rfl⟩))
      go_ret
      exact ⟨rfl, rfl⟩
    · rw [show fitsB 6 m 3 o = false from by rcases mark_cases hm with rfl | rfl | rfl <;> rcases mark_cases ho with rfl | rfl | rfl <;> decide +kernel]
      clear ha hm hb ho
      go_enter Tryd.func27, Tryd.ntmps27
      go_wp2_with (first | ((with_reducible refine (I.out _).mono ?_); rintro e w' ⟨rfl, rfl⟩) | ((with_reducible refine (J.out _).mono ?_); rintro e w' ⟨rfl, rfl⟩))
      go_ret
      exact ⟨rfl, rfl⟩
    · rw [show fitsB 6 m 4 o = false from by rcases mark_cases hm with rfl | rfl | rfl <;> rcases mark_cases ho with rfl | rfl | rfl <;> decide +kernel]
      clear ha hm hb ho
      go_enter Tryd.func27, Tryd.ntmps27
      go_wp2_with (first | ((with_reducible refine (I.out _).mono ?_); rintro e w' ⟨rfl, rfl⟩) | ((with_reducible refine (J.out _).mono ?_); rintro e w' ⟨rfl, rfl⟩))
      go_ret
      exact ⟨rfl, rfl⟩
    · rw [show fitsB 6 m 5 o = false from by rcases mark_cases hm with rfl | rfl | rfl <;> rcases mark_cases ho with rfl | rfl | rfl <;> decide +kernel]
      clear ha hm hb ho
      go_enter Tryd.func27, Tryd.ntmps27
      go_wp2_with (first | ((with_reducible refine (I.out _).mono ?_); rintro e w' ⟨rfl, rfl⟩) | ((with_reducible refine (J.out _).mono ?_); rintro e w' ⟨rfl, rfl⟩))
      go_ret
      exact ⟨rfl, rfl⟩
    · rw [show fitsB 6 m 6 o = true from by rcases mark_cases hm with rfl | rfl | rfl <;> rcases mark_cases ho with rfl | rfl | rfl <;> decide +kernel]
      clear ha hm hb ho
      go_enter Tryd.func27, Tryd.ntmps27
      go_wp2_with (first | ((with_reducible refine (I.out _).mono ?_); rintro e w' ⟨rfl, rfl⟩) | ((with_reducible refine (J.out _).mono ?_); rintro e w' ⟨rfl, rfl⟩))
      go_ret
      exact ⟨rfl, rfl⟩
theorem r_fits (a m b o : Int) (w : World) :
    Calls Tryd.prog 27 #[.int .i64 a, .int .i64 m, .int .i64 b, .int .i64 o] w fun e w' => e = .returned (.bool (fitsB a m b o)) ∧ w = w' := by
  cases h : (capB a && markB m && (capB b && markB o)) with
  | false => exact r_fits_no a m b o w h
  | true =>
    simp only [Bool.and_eq_true] at h
    exact r_fits_yes a m b o w h.1.1 h.1.2 h.2.1 h.2.2
set_option maxHeartbeats 400000 in
theorem r_sub (a b : Int) (w : World) :
    Calls Tryd.prog 25 #[.int .i64 a, .int .i64 b] w fun e w' => e = .returned (.bool (fitsB a 1 b 0)) ∧ w = w' := by
  have F := Lib.hid (r_fits a 1 b 0)
  go_enter Tryd.func25, Tryd.ntmps25
  go_wp2_with ((with_reducible refine (F.out _).mono ?_); rintro e w' ⟨rfl, rfl⟩)
  go_ret
  exact ⟨rfl, rfl⟩

set_option maxHeartbeats 800000 in
theorem r_alias (c m : Int) (w : World) :
    Calls Tryd.prog 29 #[.int .i64 c, .int .i64 m] w fun e w' => e = .returned (.tuple #[.int .i64 (aliasV c m).1, .int .i64 (aliasV c m).2]) ∧ w = w' := by
  have I := Lib.hid (fun W => r_marked c m W)
  have K := Lib.hid (fun W => r_unique c W)
  have R : Hid (aliasV c m = if !(capB c && markB m) then (0, 0) else if !uniqueB c || m == 1 then (c, 0) else (c, 2)) := rfl
  revert R I K
  generalize (capB c && markB m) = x
  generalize uniqueB c = z
  generalize aliasV c m = v
  intro I K R
  cases hm : (m == 1) <;> cases x <;> cases z <;> (
    replace R := R.out
    rw [hm] at R
    simp at R
    subst R
    go_enter Tryd.func29, Tryd.ntmps29
    go_wp2_with (first | ((with_reducible refine (I.out _).mono ?_); rintro e w' ⟨rfl, rfl⟩) | ((with_reducible refine (K.out _).mono ?_); rintro e w' ⟨rfl, rfl⟩))
    go_ret2
    exact ⟨rfl, rfl⟩)

def consumedV (c m : Int) : Int × Int :=
  if !(capB c && markB m) then (0, 0) else if !uniqueB c then (c, 0) else if m == 2 then (c, 2) else (c, 1)
set_option maxHeartbeats 800000 in
theorem consumed_any (c m : Int) (w : World) :
    Calls Tryd.prog 30 #[.int .i64 c, .int .i64 m] w fun e w' => e = .returned (.tuple #[.int .i64 (consumedV c m).1, .int .i64 (consumedV c m).2]) ∧ w = w' := by
  have I := Lib.hid (fun W => is_any c W)
  have J := Lib.hid (fun W => isMark_any m W)
  have K := Lib.hid (fun W => unique_any c W)
  have R : Hid (consumedV c m = if !(capB c && markB m) then (0, 0) else if !uniqueB c then (c, 0) else if m == 2 then (c, 2) else (c, 1)) := rfl
  revert R I J K
  generalize capB c = x
  generalize markB m = y
  generalize uniqueB c = z
  generalize consumedV c m = v
  intro I J K R
  cases hm : (m == 2) <;> cases x <;> cases y <;> cases z <;> (
    replace R := R.out
    rw [hm] at R
    simp at R
    subst R
    go_enter Tryd.func30, Tryd.ntmps30
    go_wp2_with (first | ((with_reducible refine (I.out _).mono ?_); rintro e w' ⟨rfl, rfl⟩) | ((with_reducible refine (J.out _).mono ?_); rintro e w' ⟨rfl, rfl⟩) | ((with_reducible refine (K.out _).mono ?_); rintro e w' ⟨rfl, rfl⟩))
    go_ret2
    exact ⟨rfl, rfl⟩)
set_option maxHeartbeats 800000 in
theorem r_consumed (c m : Int) (w : World) :
    Calls Tryd.prog 31 #[.int .i64 c, .int .i64 m] w fun e w' => e = .returned (.tuple #[.int .i64 (consumedV c m).1, .int .i64 (consumedV c m).2]) ∧ w = w' := by
  have I := Lib.hid (fun W => r_marked c m W)
  have K := Lib.hid (fun W => r_unique c W)
  have R : Hid (consumedV c m = if !(capB c && markB m) then (0, 0) else if !uniqueB c then (c, 0) else if m == 2 then (c, 2) else (c, 1)) := rfl
  revert R I K
  generalize (capB c && markB m) = x
  generalize uniqueB c = z
  generalize consumedV c m = v
  intro I K R
  cases hm : (m == 2) <;> cases x <;> cases z <;> (
    replace R := R.out
    rw [hm] at R
    simp at R
    subst R
    go_enter Tryd.func31, Tryd.ntmps31
    go_wp2_with (first | ((with_reducible refine (I.out _).mono ?_); rintro e w' ⟨rfl, rfl⟩) | ((with_reducible refine (K.out _).mono ?_); rintro e w' ⟨rfl, rfl⟩))
    go_ret2
    exact ⟨rfl, rfl⟩)

def recoverV (c : Int) : Int × Bool := if c = 1 then (1, true) else if c = 2 then (1, true) else if c = 3 then (1, true) else if c = 4 then (4, true) else if c = 5 then (4, true) else if c = 6 then (6, true) else (0, false)
theorem recover_out {c : Int} (h : capB c = false) : recoverV c = (0, false) := by
  simp [capB] at h
  unfold recoverV
  rw [if_neg (by omega), if_neg (by omega), if_neg (by omega), if_neg (by omega), if_neg (by omega), if_neg (by omega)]
set_option maxHeartbeats 800000 in
theorem recover_any (c : Int) (w : World) :
    Calls Tryd.prog 32 #[.int .i64 c] w fun e w' => e = .returned (.tuple #[.int .i64 (recoverV c).1, .bool (recoverV c).2]) ∧ w = w' := by
  have I := Lib.hid (fun W => is_any c W)
  have WR := fun W => writes_any c W
  have RD := fun W => reads_any c W
  cases h : capB c with
  | false =>
    rw [recover_out h]
    rw [h] at I
    clear h WR RD
    go_enter Tryd.func32, Tryd.ntmps32
    go_wp2_with ((with_reducible refine (I.out _).mono ?_); rintro e w' ⟨rfl, rfl⟩)
    go_ret2
    exact ⟨rfl, rfl⟩
  | true =>
    rw [h] at I
    rcases cap_cases h with rfl | rfl | rfl | rfl | rfl | rfl
    · rw [show writesB 1 = true from by decide +kernel] at WR
      rw [show readsB 1 = true from by decide +kernel] at RD
      replace WR := Lib.hid WR
      replace RD := Lib.hid RD
      clear h
      go_enter Tryd.func32, Tryd.ntmps32
      go_wp2_with (first | ((with_reducible refine (I.out _).mono ?_); rintro e w' ⟨rfl, rfl⟩) | ((with_reducible refine (WR.out _).mono ?_); rintro e w' ⟨rfl, rfl⟩) | ((with_reducible refine (RD.out _).mono ?_); rintro e w' ⟨rfl, rfl⟩))
      go_ret2
      exact ⟨rfl, rfl⟩
    · rw [show writesB 2 = true from by decide +kernel] at WR
      rw [show readsB 2 = true from by decide +kernel] at RD
      replace WR := Lib.hid WR
      replace RD := Lib.hid RD
      clear h
      go_enter Tryd.func32, Tryd.ntmps32
      go_wp2_with (first | ((with_reducible refine (I.out _).mono ?_); rintro e w' ⟨rfl, rfl⟩) | ((with_reducible refine (WR.out _).mono ?_); rintro e w' ⟨rfl, rfl⟩) | ((with_reducible refine (RD.out _).mono ?_); rintro e w' ⟨rfl, rfl⟩))
      go_ret2
      exact ⟨rfl, rfl⟩
    · rw [show writesB 3 = true from by decide +kernel] at WR
      rw [show readsB 3 = true from by decide +kernel] at RD
      replace WR := Lib.hid WR
      replace RD := Lib.hid RD
      clear h
      go_enter Tryd.func32, Tryd.ntmps32
      go_wp2_with (first | ((with_reducible refine (I.out _).mono ?_); rintro e w' ⟨rfl, rfl⟩) | ((with_reducible refine (WR.out _).mono ?_); rintro e w' ⟨rfl, rfl⟩) | ((with_reducible refine (RD.out _).mono ?_); rintro e w' ⟨rfl, rfl⟩))
      go_ret2
      exact ⟨rfl, rfl⟩
    · rw [show writesB 4 = false from by decide +kernel] at WR
      rw [show readsB 4 = true from by decide +kernel] at RD
      replace WR := Lib.hid WR
      replace RD := Lib.hid RD
      clear h
      go_enter Tryd.func32, Tryd.ntmps32
      go_wp2_with (first | ((with_reducible refine (I.out _).mono ?_); rintro e w' ⟨rfl, rfl⟩) | ((with_reducible refine (WR.out _).mono ?_); rintro e w' ⟨rfl, rfl⟩) | ((with_reducible refine (RD.out _).mono ?_); rintro e w' ⟨rfl, rfl⟩))
      go_ret2
      exact ⟨rfl, rfl⟩
    · rw [show writesB 5 = false from by decide +kernel] at WR
      rw [show readsB 5 = true from by decide +kernel] at RD
      replace WR := Lib.hid WR
      replace RD := Lib.hid RD
      clear h
      go_enter Tryd.func32, Tryd.ntmps32
      go_wp2_with (first | ((with_reducible refine (I.out _).mono ?_); rintro e w' ⟨rfl, rfl⟩) | ((with_reducible refine (WR.out _).mono ?_); rintro e w' ⟨rfl, rfl⟩) | ((with_reducible refine (RD.out _).mono ?_); rintro e w' ⟨rfl, rfl⟩))
      go_ret2
      exact ⟨rfl, rfl⟩
    · rw [show writesB 6 = false from by decide +kernel] at WR
      rw [show readsB 6 = false from by decide +kernel] at RD
      replace WR := Lib.hid WR
      replace RD := Lib.hid RD
      clear h
      go_enter Tryd.func32, Tryd.ntmps32
      go_wp2_with (first | ((with_reducible refine (I.out _).mono ?_); rintro e w' ⟨rfl, rfl⟩) | ((with_reducible refine (WR.out _).mono ?_); rintro e w' ⟨rfl, rfl⟩) | ((with_reducible refine (RD.out _).mono ?_); rintro e w' ⟨rfl, rfl⟩))
      go_ret2
      exact ⟨rfl, rfl⟩

set_option maxHeartbeats 800000 in
theorem r_recover (c : Int) (w : World) :
    Calls Tryd.prog 33 #[.int .i64 c] w fun e w' => e = .returned (.tuple #[.int .i64 (recoverV c).1, .bool (recoverV c).2]) ∧ w = w' := by
  cases h : capB c with
  | false =>
    rw [recover_out h]
    simp [capB] at h
    have g1 : (c == 1) = false := by simp; omega
    have g2 : (c == 2) = false := by simp; omega
    have g3 : (c == 3) = false := by simp; omega
    have g4 : (c == 4) = false := by simp; omega
    have g5 : (c == 5) = false := by simp; omega
    have g6 : (c == 6) = false := by simp; omega
    clear h
    go_enter Tryd.func33, Tryd.ntmps33
    go_wp2
    go_ret2
    exact ⟨rfl, rfl⟩
  | true =>
    rcases cap_cases h with rfl | rfl | rfl | rfl | rfl | rfl <;> (
      clear h
      go_enter Tryd.func33, Tryd.ntmps33
      go_wp2
      go_ret2
      exact ⟨rfl, rfl⟩)

theorem members_out {c : Int} (h : ¬ (0 ≤ c ∧ c < 12)) : membersV c = [] := if_neg h
set_option maxHeartbeats 800000 in
theorem members_any (c : Int) (w : World) (hG : GMem w) :
    Calls Tryd.prog 16 #[.int .i64 c] w fun e w' => ∃ v, e = .returned v ∧ IsInts w' v (membersV c) ∧ Bel w w' := by
  by_cases h : 0 ≤ c ∧ c < 12
  · obtain ⟨k, rfl⟩ := Int.eq_ofNat_of_zero_le h.1
    have e : membersV k = memL (membersT.getD k 0) 6 := by unfold membersV; rw [if_pos h]; rfl
    rw [e]
    exact members_in k (by omega) w hG
  · rw [members_out h]
    clear hG
    by_cases h0 : c < 0
    · clear h
      go_enter Tryd.func16, Tryd.ntmps16
      go_wp2
      go_ret
      exact ⟨_, rfl, .inl ⟨rfl, rfl⟩, Bel.refl _⟩
    · have h1 : 12 ≤ c := by omega
      have h2 : 0 ≤ c := by omega
      clear h
      go_enter Tryd.func16, Tryd.ntmps16
      go_wp2
      go_ret
      exact ⟨_, rfl, .inl ⟨rfl, rfl⟩, Bel.refl _⟩

theorem heap_new (w : World) (o : Obj) : (w.alloc o).heap[w.heap.size]? = some o := by
  show (w.heap.push o)[w.heap.size]? = _
  simp
theorem ints_new (w : World) (l : List Int) (t : TypeId) (n : Nat) (hn : l.length = n) : IsInts (w.alloc (.cells (intsV l).toArray t)) (.slice (some ⟨w.heap.size, 0, none⟩) n n) l := by
  subst hn
  refine .inr ⟨w.heap.size, l.length, rfl, by simp, fun j hj => ?_⟩
  simp only [World.cell?, heap_new]
  simp [intsV, List.getD, List.getElem?_eq_getElem hj]
set_option maxHeartbeats 1600000 in
theorem r_members (c : Int) (w : World) :
    Calls Tryd.prog 17 #[.int .i64 c] w fun e w' => ∃ v, e = .returned v ∧ IsInts w' v (membersV c) ∧ Bel w w' := by
  have I := fun W => r_is c W
  by_cases h : 1 ≤ c ∧ c < 12
  · obtain ⟨h0, h1⟩ := h
    have hc : c = 1 ∨ c = 2 ∨ c = 3 ∨ c = 4 ∨ c = 5 ∨ c = 6 ∨ c = 7 ∨ c = 8 ∨ c = 9 ∨ c = 10 ∨ c = 11 := by omega
    rcases hc with rfl | rfl | rfl | rfl | rfl | rfl | rfl | rfl | rfl | rfl | rfl
    · rw [show membersV 1 = [1] from by decide +kernel]
      rw [show capB 1 = true from by decide] at I
      replace I := Lib.hid I
      clear h0 h1
      go_enter Tryd.func17, Tryd.ntmps17
      go_wp2_with ((with_reducible refine (I.out _).mono ?_); rintro e w' ⟨rfl, rfl⟩)
      go_ret
      exact ⟨_, rfl, ints_new _ [1] _ _ rfl, (Below.refl _ _).alloc (Nat.le_refl _) _⟩
    · rw [show membersV 2 = [2] from by decide +kernel]
      rw [show capB 2 = true from by decide] at I
      replace I := Lib.hid I
      clear h0 h1
      go_enter Tryd.func17, Tryd.ntmps17
      go_wp2_with ((with_reducible refine (I.out _).mono ?_); rintro e w' ⟨rfl, rfl⟩)
      go_ret
      exact ⟨_, rfl, ints_new _ [2] _ _ rfl, (Below.refl _ _).alloc (Nat.le_refl _) _⟩
    · rw [show membersV 3 = [3] from by decide +kernel]
      rw [show capB 3 = true from by decide] at I
      replace I := Lib.hid I
      clear h0 h1
      go_enter Tryd.func17, Tryd.ntmps17
      go_wp2_with ((with_reducible refine (I.out _).mono ?_); rintro e w' ⟨rfl, rfl⟩)
      go_ret
      exact ⟨_, rfl, ints_new _ [3] _ _ rfl, (Below.refl _ _).alloc (Nat.le_refl _) _⟩
    · rw [show membersV 4 = [4] from by decide +kernel]
      rw [show capB 4 = true from by decide] at I
      replace I := Lib.hid I
      clear h0 h1
      go_enter Tryd.func17, Tryd.ntmps17
      go_wp2_with ((with_reducible refine (I.out _).mono ?_); rintro e w' ⟨rfl, rfl⟩)
      go_ret
      exact ⟨_, rfl, ints_new _ [4] _ _ rfl, (Below.refl _ _).alloc (Nat.le_refl _) _⟩
    · rw [show membersV 5 = [5] from by decide +kernel]
      rw [show capB 5 = true from by decide] at I
      replace I := Lib.hid I
      clear h0 h1
      go_enter Tryd.func17, Tryd.ntmps17
      go_wp2_with ((with_reducible refine (I.out _).mono ?_); rintro e w' ⟨rfl, rfl⟩)
      go_ret
      exact ⟨_, rfl, ints_new _ [5] _ _ rfl, (Below.refl _ _).alloc (Nat.le_refl _) _⟩
    · rw [show membersV 6 = [6] from by decide +kernel]
      rw [show capB 6 = true from by decide] at I
      replace I := Lib.hid I
      clear h0 h1
      go_enter Tryd.func17, Tryd.ntmps17
      go_wp2_with ((with_reducible refine (I.out _).mono ?_); rintro e w' ⟨rfl, rfl⟩)
      go_ret
      exact ⟨_, rfl, ints_new _ [6] _ _ rfl, (Below.refl _ _).alloc (Nat.le_refl _) _⟩
    · rw [show membersV 7 = [3, 4, 5] from by decide +kernel]
      rw [show capB 7 = false from by decide] at I
      replace I := Lib.hid I
      clear h0 h1
      go_enter Tryd.func17, Tryd.ntmps17
      go_wp2_with ((with_reducible refine (I.out _).mono ?_); rintro e w' ⟨rfl, rfl⟩)
      go_ret
      exact ⟨_, rfl, ints_new _ [3, 4, 5] _ _ rfl, (Below.refl _ _).alloc (Nat.le_refl _) _⟩
    · rw [show membersV 8 = [1, 4, 6] from by decide +kernel]
      rw [show capB 8 = false from by decide] at I
      replace I := Lib.hid I
      clear h0 h1
      go_enter Tryd.func17, Tryd.ntmps17
      go_wp2_with ((with_reducible refine (I.out _).mono ?_); rintro e w' ⟨rfl, rfl⟩)
      go_ret
      exact ⟨_, rfl, ints_new _ [1, 4, 6] _ _ rfl, (Below.refl _ _).alloc (Nat.le_refl _) _⟩
    · rw [show membersV 9 = [4, 6] from by decide +kernel]
      rw [show capB 9 = false from by decide] at I
      replace I := Lib.hid I
      clear h0 h1
      go_enter Tryd.func17, Tryd.ntmps17
      go_wp2_with ((with_reducible refine (I.out _).mono ?_); rintro e w' ⟨rfl, rfl⟩)
      go_ret
      exact ⟨_, rfl, ints_new _ [4, 6] _ _ rfl, (Below.refl _ _).alloc (Nat.le_refl _) _⟩
    · rw [show membersV 10 = [3, 4, 5, 6] from by decide +kernel]
      rw [show capB 10 = false from by decide] at I
      replace I := Lib.hid I
      clear h0 h1
      go_enter Tryd.func17, Tryd.ntmps17
      go_wp2_with ((with_reducible refine (I.out _).mono ?_); rintro e w' ⟨rfl, rfl⟩)
      go_ret
      exact ⟨_, rfl, ints_new _ [3, 4, 5, 6] _ _ rfl, (Below.refl _ _).alloc (Nat.le_refl _) _⟩
    · rw [show membersV 11 = [1, 2, 3, 4, 5, 6] from by decide +kernel]
      rw [show capB 11 = false from by decide] at I
      replace I := Lib.hid I
      clear h0 h1
      go_enter Tryd.func17, Tryd.ntmps17
      go_wp2_with ((with_reducible refine (I.out _).mono ?_); rintro e w' ⟨rfl, rfl⟩)
      go_ret
      exact ⟨_, rfl, ints_new _ [1, 2, 3, 4, 5, 6] _ _ rfl, (Below.refl _ _).alloc (Nat.le_refl _) _⟩
  · have e : membersV c = [] := by
      by_cases h2 : 0 ≤ c ∧ c < 12
      · obtain rfl : c = 0 := by omega
        decide +kernel
      · exact members_out h2
    rw [e]
    have hcap : capB c = false := by simp [capB]; omega
    rw [hcap] at I
    replace I := Lib.hid I
    have g7 : (c == 7) = false := by simp; omega
    have g8 : (c == 8) = false := by simp; omega
    have g9 : (c == 9) = false := by simp; omega
    have g10 : (c == 10) = false := by simp; omega
    have g11 : (c == 11) = false := by simp; omega
    clear h e hcap
    go_enter Tryd.func17, Tryd.ntmps17
    go_wp2_with ((with_reducible refine (I.out _).mono ?_); rintro e w' ⟨rfl, rfl⟩)
    go_ret
    exact ⟨_, rfl, .inl ⟨rfl, rfl⟩, Bel.refl _⟩

theorem equal_ints (v1 v2 : Value) (l : List Int) (W : World) (hl : l.length ≤ 1000) (h1 : IsInts W v1 l) (h2 : IsInts W v2 l) :
    Calls Tryd.prog 15 #[v1, v2] W fun e w' => e = .returned (.bool true) ∧ Bel W w' := by
  by_cases hn : l = []
  · subst hn
    obtain ⟨a1, c1, rfl⟩ : ∃ a1 c1, v1 = .slice a1 0 c1 := by
      rcases h1 with ⟨rfl, _⟩ | ⟨g, c, rfl, _, _⟩
      · exact ⟨_, _, rfl⟩
      · exact ⟨_, _, rfl⟩
    obtain ⟨a2, c2, rfl⟩ : ∃ a2 c2, v2 = .slice a2 0 c2 := by
      rcases h2 with ⟨rfl, _⟩ | ⟨g, c, rfl, _, _⟩
      · exact ⟨_, _, rfl⟩
      · exact ⟨_, _, rfl⟩
    refine (Tryd.slices_Equal_int_empty a1 a2 c1 0 c2 W (by omega)).mono fun e w' h => ?_
    obtain ⟨he, hw⟩ := h
    subst hw
    exact ⟨he, Bel.refl _⟩
  · rcases h1 with ⟨_, h⟩ | ⟨g1, c1, rfl, _, e1⟩
    · exact absurd h hn
    rcases h2 with ⟨_, h⟩ | ⟨g2, c2, rfl, _, e2⟩
    · exact absurd h hn
    refine (Tryd.slices_Equal_int g1 0 l.length c1 g2 0 l.length c2 l l W (Nat.le_refl _) (Nat.le_refl _) (by omega) (by omega) (fun j hj => by rw [Nat.zero_add]; exact e1 j hj) (fun j hj => by rw [Nat.zero_add]; exact e2 j hj)).mono fun e w' h => ?_
    obtain ⟨he, q, hw⟩ := h
    rw [hw]
    refine ⟨he.trans ?_, bel_drewN (Bel.refl W) q⟩
    rw [beq_self_eq_true]
end Go.Proofs.YtblklbmolfddpaaDoor
