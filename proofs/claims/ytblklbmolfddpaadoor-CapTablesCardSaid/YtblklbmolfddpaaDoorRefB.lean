/- Contracts of Store, and of the reference's Store, Local and Global. -/
import Derived.Test.YtblklbmolfddpaaDoorRefA
namespace Go.Proofs.YtblklbmolfddpaaDoor
open Go.RowKit

theorem quiet_w {P : Program} {f : FuncId} {args : Array Value} {w : World} {n : Nat} {v : Value}
    (h : Calls P f args (w.drewN n) fun e w' => e = .returned v ∧ w.drewN n = w') : Calls P f args (w.drewN n) fun e w'' => e = .returned v ∧ ∃ m, w'' = w.drewN m :=
  h.mono fun _ _ ⟨he, hm⟩ => ⟨he, n, hm.symm⟩
theorem bel_drewN {w W : World} (h : Bel w W) (n : Nat) : Bel w (W.drewN n) := ⟨h.os, h.tape, h.output, h.size, h.block⟩

def storeB (o c m : Int) : Bool := capB o && markB m && capB c && amongB (countsV c m) (storesT.getD o.toNat 0)

set_option maxHeartbeats 1600000 in
theorem store_any (o c m : Int) (w : World) (hG : GSto w) :
    Calls Tryd.prog 39 #[.int .i64 o, .int .i64 c, .int .i64 m] w fun e w' => e = .returned (.bool (storeB o c m)) ∧ ∃ n, w' = w.drewN n := by
  have I := Lib.hid (fun W => is_any o W)
  have J := Lib.hid (fun W => isMark_any m W)
  have K := Lib.hid (fun W => is_any c W)
  have C := Lib.hid (fun W => counts_any c m W)
  have R : storeB o c m = (capB o && markB m && capB c && amongB (countsV c m) (storesT.getD o.toNat 0)) := rfl
  cases ho : capB o with
  | false =>
    rw [ho] at I R
    simp only [Bool.false_and] at R
    rw [R]
    clear ho hG R
    go_enter Tryd.func39, Tryd.ntmps39
    go_wp2
    go_quiet ((first | (go_at_call 13; exact quiet_w (I.out _))))
    go_wp2
    go_ret
    exact ⟨rfl, _, rfl⟩
  | true =>
    have h1 := cap_lo ho
    have h2 := cap_hi ho
    obtain ⟨k, rfl⟩ := Int.eq_ofNat_of_zero_le (show 0 ≤ o by omega)
    have hc := hG.stores k (by omega)
    rw [show (Int.toNat (k : Int)) = k from rfl] at R
    have M := Lib.hid (fun W => among_any (countsV c m) (storesT.getD k 0) W)
    rw [ho] at I R
    simp only [Bool.true_and] at R
    rw [R]
    clear R ho hG
    generalize amongB (countsV c m) (storesT.getD k 0) = z at M ⊢
    generalize storesT.getD k 0 = t at hc M
    generalize countsV c m = cv at C M
    revert J K
    generalize markB m = x
    generalize capB c = y
    intro J K
    cases x <;> cases y <;> (
      simp only [Bool.and_true, Bool.and_false, Bool.true_and, Bool.false_and]
      go_enter Tryd.func39, Tryd.ntmps39
      go_wp2
      go_quiet ((first | exact quiet_w (I.out _) | exact quiet_w (J.out _) | exact quiet_w (K.out _) | exact quiet_w (C.out _) | exact quiet_w (M.out _)))
      go_wp2
      go_ret
      exact ⟨rfl, _, rfl⟩)

theorem store_no {o c m : Int} (h : (writesB o && (capB c && markB m)) = false) : storeB o c m = false := by
  unfold storeB
  cases hc : capB c with
  | false => simp
  | true =>
    cases hm : markB m with
    | false => simp
    | true =>
      rw [hc, hm] at h
      simp only [Bool.and_true] at h
      cases ho : capB o with
      | false => simp
      | true =>
        rcases cap_cases ho with rfl | rfl | rfl | rfl | rfl | rfl
        · exact absurd h (by decide +kernel)
        · exact absurd h (by decide +kernel)
        · exact absurd h (by decide +kernel)
        all_goals
          rcases cap_cases hc with rfl | rfl | rfl | rfl | rfl | rfl <;> rcases mark_cases hm with rfl | rfl | rfl <;> decide +kernel

set_option maxHeartbeats 800000 in
theorem r_store_no (o c m : Int) (w : World) (h : (writesB o && (capB c && markB m)) = false) :
    Calls Tryd.prog 40 #[.int .i64 o, .int .i64 c, .int .i64 m] w fun e w' => e = .returned (.bool (storeB o c m)) ∧ w = w' := by
  rw [store_no h]
  have I := Lib.hid (fun W => r_writes o W)
  have J := Lib.hid (fun W => r_marked c m W)
  revert h I J
  generalize writesB o = x
  generalize (capB c && markB m) = y
  intro h I J
  cases x <;> cases y <;> first
    | (cases h; done)
    | (clear h
       go_enter Tryd.func40, Tryd.ntmps40
       go_wp2_with (first | ((with_reducible refine (I.out _).mono ?_); rintro e w' ⟨rfl, rfl⟩) | ((with_reducible refine (J.out _).mono ?_); rintro e w' ⟨rfl, rfl⟩))
       go_ret
       exact ⟨rfl, rfl⟩)

set_option maxHeartbeats 6400000 in
theorem r_store (o c m : Int) (w : World) :
    Calls Tryd.prog 40 #[.int .i64 o, .int .i64 c, .int .i64 m] w fun e w' => e = .returned (.bool (storeB o c m)) ∧ w = w' := by
  cases h : (writesB o && (capB c && markB m)) with
  | false => exact r_store_no o c m w h
  | true =>
    have I := Lib.hid (fun W => r_writes o W)
    have J := Lib.hid (fun W => r_marked c m W)
    have C := fun W => r_counts c m W
    obtain ⟨ho, hc, hm⟩ : writesB o = true ∧ capB c = true ∧ markB m = true := by simpa using h
    rw [ho] at I
    rw [hc, hm] at J
    simp only [Bool.and_true] at J
    clear h
    rcases writes_cases ho with rfl | rfl | rfl <;> rcases cap_cases hc with rfl | rfl | rfl | rfl | rfl | rfl <;> rcases mark_cases hm with rfl | rfl | rfl
    · rw [show storeB 1 1 0 = true from by decide +kernel]
      rw [show countsV 1 0 = 1 from by decide +kernel] at C
      replace C := Lib.hid C
      have S := r_send 1
      rw [show sendB 1 = true from by decide +kernel] at S
      replace S := Lib.hid S
      clear ho hc hm
      go_enter Tryd.func40, Tryd.ntmps40
      go_wp2_with (first | ((with_reducible refine (I.out _).mono ?_); rintro e w' ⟨rfl, rfl⟩) | ((with_reducible refine (J.out _).mono ?_); rintro e w' ⟨rfl, rfl⟩) | ((with_reducible refine (C.out _).mono ?_); rintro e w' ⟨rfl, rfl⟩) | ((with_reducible refine (S.out _).mono ?_); rintro e w' ⟨rfl, rfl⟩))
      go_ret
      exact ⟨rfl, rfl⟩
    · rw [show storeB 1 1 1 = true from by decide +kernel]
      rw [show countsV 1 1 = 1 from by decide +kernel] at C
      replace C := Lib.hid C
      have S := r_send 1
      rw [show sendB 1 = true from by decide +kernel] at S
      replace S := Lib.hid S
      clear ho hc hm
      go_enter Tryd.func40, Tryd.ntmps40
      go_wp2_with (first | ((with_reducible refine (I.out _).mono ?_); rintro e w' ⟨rfl, rfl⟩) | ((with_reducible refine (J.out _).mono ?_); rintro e w' ⟨rfl, rfl⟩) | ((with_reducible refine (C.out _).mono ?_); rintro e w' ⟨rfl, rfl⟩) | ((with_reducible refine (S.out _).mono ?_); rintro e w' ⟨rfl, rfl⟩))
      go_ret
      exact ⟨rfl, rfl⟩
    · rw [show storeB 1 1 2 = true from by decide +kernel]
      rw [show countsV 1 2 = 6 from by decide +kernel] at C
      replace C := Lib.hid C
      have S := r_send 6
      rw [show sendB 6 = true from by decide +kernel] at S
      replace S := Lib.hid S
      clear ho hc hm
      go_enter Tryd.func40, Tryd.ntmps40
      go_wp2_with (first | ((with_reducible refine (I.out _).mono ?_); rintro e w' ⟨rfl, rfl⟩) | ((with_reducible refine (J.out _).mono ?_); rintro e w' ⟨rfl, rfl⟩) | ((with_reducible refine (C.out _).mono ?_); rintro e w' ⟨rfl, rfl⟩) | ((with_reducible refine (S.out _).mono ?_); rintro e w' ⟨rfl, rfl⟩))
      go_ret
      exact ⟨rfl, rfl⟩
    · rw [show storeB 1 2 0 = false from by decide +kernel]
      rw [show countsV 2 0 = 2 from by decide +kernel] at C
      replace C := Lib.hid C
      have S := r_send 2
      rw [show sendB 2 = false from by decide +kernel] at S
      replace S := Lib.hid S
      clear ho hc hm
      go_enter Tryd.func40, Tryd.ntmps40
      go_wp2_with (first | ((with_reducible refine (I.out _).mono ?_); rintro e w' ⟨rfl, rfl⟩) | ((with_reducible refine (J.out _).mono ?_); rintro e w' ⟨rfl, rfl⟩) | ((with_reducible refine (C.out _).mono ?_); rintro e w' ⟨rfl, rfl⟩) | ((with_reducible refine (S.out _).mono ?_); rintro e w' ⟨rfl, rfl⟩))
      go_ret
      exact ⟨rfl, rfl⟩
    · rw [show storeB 1 2 1 = false from by decide +kernel]
      rw [show countsV 2 1 = 2 from by decide +kernel] at C
      replace C := Lib.hid C
      have S := r_send 2
      rw [show sendB 2 = false from by decide +kernel] at S
      replace S := Lib.hid S
      clear ho hc hm
      go_enter Tryd.func40, Tryd.ntmps40
      go_wp2_with (first | ((with_reducible refine (I.out _).mono ?_); rintro e w' ⟨rfl, rfl⟩) | ((with_reducible refine (J.out _).mono ?_); rintro e w' ⟨rfl, rfl⟩) | ((with_reducible refine (C.out _).mono ?_); rintro e w' ⟨rfl, rfl⟩) | ((with_reducible refine (S.out _).mono ?_); rintro e w' ⟨rfl, rfl⟩))
      go_ret
      exact ⟨rfl, rfl⟩
    · rw [show storeB 1 2 2 = false from by decide +kernel]
      rw [show countsV 2 2 = 5 from by decide +kernel] at C
      replace C := Lib.hid C
      have S := r_send 5
      rw [show sendB 5 = false from by decide +kernel] at S
      replace S := Lib.hid S
      clear ho hc hm
      go_enter Tryd.func40, Tryd.ntmps40
      go_wp2_with (first | ((with_reducible refine (I.out _).mono ?_); rintro e w' ⟨rfl, rfl⟩) | ((with_reducible refine (J.out _).mono ?_); rintro e w' ⟨rfl, rfl⟩) | ((with_reducible refine (C.out _).mono ?_); rintro e w' ⟨rfl, rfl⟩) | ((with_reducible refine (S.out _).mono ?_); rintro e w' ⟨rfl, rfl⟩))
      go_ret
      exact ⟨rfl, rfl⟩
    · rw [show storeB 1 3 0 = false from by decide +kernel]
      rw [show countsV 3 0 = 3 from by decide +kernel] at C
      replace C := Lib.hid C
      have S := r_send 3
      rw [show sendB 3 = false from by decide +kernel] at S
      replace S := Lib.hid S
      clear ho hc hm
      go_enter Tryd.func40, Tryd.ntmps40
      go_wp2_with (first | ((with_reducible refine (I.out _).mono ?_); rintro e w' ⟨rfl, rfl⟩) | ((with_reducible refine (J.out _).mono ?_); rintro e w' ⟨rfl, rfl⟩) | ((with_reducible refine (C.out _).mono ?_); rintro e w' ⟨rfl, rfl⟩) | ((with_reducible refine (S.out _).mono ?_); rintro e w' ⟨rfl, rfl⟩))
      go_ret
      exact ⟨rfl, rfl⟩
    · rw [show storeB 1 3 1 = false from by decide +kernel]
      rw [show countsV 3 1 = 3 from by decide +kernel] at C
      replace C := Lib.hid C
      have S := r_send 3
      rw [show sendB 3 = false from by decide +kernel] at S
      replace S := Lib.hid S
      clear ho hc hm
      go_enter Tryd.func40, Tryd.ntmps40
      go_wp2_with (first | ((with_reducible refine (I.out _).mono ?_); rintro e w' ⟨rfl, rfl⟩) | ((with_reducible refine (J.out _).mono ?_); rintro e w' ⟨rfl, rfl⟩) | ((with_reducible refine (C.out _).mono ?_); rintro e w' ⟨rfl, rfl⟩) | ((with_reducible refine (S.out _).mono ?_); rintro e w' ⟨rfl, rfl⟩))
      go_ret
      exact ⟨rfl, rfl⟩
    · rw [show storeB 1 3 2 = false from by decide +kernel]
      rw [show countsV 3 2 = 3 from by decide +kernel] at C
      replace C := Lib.hid C
      have S := r_send 3
      rw [show sendB 3 = false from by decide +kernel] at S
      replace S := Lib.hid S
      clear ho hc hm
      go_enter Tryd.func40, Tryd.ntmps40
      go_wp2_with (first | ((with_reducible refine (I.out _).mono ?_); rintro e w' ⟨rfl, rfl⟩) | ((with_reducible refine (J.out _).mono ?_); rintro e w' ⟨rfl, rfl⟩) | ((with_reducible refine (C.out _).mono ?_); rintro e w' ⟨rfl, rfl⟩) | ((with_reducible refine (S.out _).mono ?_); rintro e w' ⟨rfl, rfl⟩))
      go_ret
      exact ⟨rfl, rfl⟩
    · rw [show storeB 1 4 0 = true from by decide +kernel]
      rw [show countsV 4 0 = 4 from by decide +kernel] at C
      replace C := Lib.hid C
      have S := r_send 4
      rw [show sendB 4 = true from by decide +kernel] at S
      replace S := Lib.hid S
      clear ho hc hm
      go_enter Tryd.func40, Tryd.ntmps40
      go_wp2_with (first | ((with_reducible refine (I.out _).mono ?_); rintro e w' ⟨rfl, rfl⟩) | ((with_reducible refine (J.out _).mono ?_); rintro e w' ⟨rfl, rfl⟩) | ((with_reducible refine (C.out _).mono ?_); rintro e w' ⟨rfl, rfl⟩) | ((with_reducible refine (S.out _).mono ?_); rintro e w' ⟨rfl, rfl⟩))
      go_ret
      exact ⟨rfl, rfl⟩
    · rw [show storeB 1 4 1 = true from by decide +kernel]
      rw [show countsV 4 1 = 4 from by decide +kernel] at C
      replace C := Lib.hid C
      have S := r_send 4
      rw [show sendB 4 = true from by decide +kernel] at S
      replace S := Lib.hid S
      clear ho hc hm
      go_enter Tryd.func40, Tryd.ntmps40
      go_wp2_with (first | ((with_reducible refine (I.out _).mono ?_); rintro e w' ⟨rfl, rfl⟩) | ((with_reducible refine (J.out _).mono ?_); rintro e w' ⟨rfl, rfl⟩) | ((with_reducible refine (C.out _).mono ?_); rintro e w' ⟨rfl, rfl⟩) | ((with_reducible refine (S.out _).mono ?_); rintro e w' ⟨rfl, rfl⟩))
      go_ret
      exact ⟨rfl, rfl⟩
    · rw [show storeB 1 4 2 = true from by decide +kernel]
      rw [show countsV 4 2 = 4 from by decide +kernel] at C
      replace C := Lib.hid C
      have S := r_send 4
      rw [show sendB 4 = true from by decide +kernel] at S
      replace S := Lib.hid S
      clear ho hc hm
      go_enter Tryd.func40, Tryd.ntmps40
      go_wp2_with (first | ((with_reducible refine (I.out _).mono ?_); rintro e w' ⟨rfl, rfl⟩) | ((with_reducible refine (J.out _).mono ?_); rintro e w' ⟨rfl, rfl⟩) | ((with_reducible refine (C.out _).mono ?_); rintro e w' ⟨rfl, rfl⟩) | ((with_reducible refine (S.out _).mono ?_); rintro e w' ⟨rfl, rfl⟩))
      go_ret
      exact ⟨rfl, rfl⟩
    · rw [show storeB 1 5 0 = false from by decide +kernel]
      rw [show countsV 5 0 = 5 from by decide +kernel] at C
      replace C := Lib.hid C
      have S := r_send 5
      rw [show sendB 5 = false from by decide +kernel] at S
      replace S := Lib.hid S
      clear ho hc hm
      go_enter Tryd.func40, Tryd.ntmps40
      go_wp2_with (first | ((with_reducible refine (I.out _).mono ?_); rintro e w' ⟨rfl, rfl⟩) | ((with_reducible refine (J.out _).mono ?_); rintro e w' ⟨rfl, rfl⟩) | ((with_reducible refine (C.out _).mono ?_); rintro e w' ⟨rfl, rfl⟩) | ((with_reducible refine (S.out _).mono ?_); rintro e w' ⟨rfl, rfl⟩))
      go_ret
      exact ⟨rfl, rfl⟩
    · rw [show storeB 1 5 1 = false from by decide +kernel]
      rw [show countsV 5 1 = 5 from by decide +kernel] at C
      replace C := Lib.hid C
      have S := r_send 5
      rw [show sendB 5 = false from by decide +kernel] at S
      replace S := Lib.hid S
      clear ho hc hm
      go_enter Tryd.func40, Tryd.ntmps40
      go_wp2_with (first | ((with_reducible refine (I.out _).mono ?_); rintro e w' ⟨rfl, rfl⟩) | ((with_reducible refine (J.out _).mono ?_); rintro e w' ⟨rfl, rfl⟩) | ((with_reducible refine (C.out _).mono ?_); rintro e w' ⟨rfl, rfl⟩) | ((with_reducible refine (S.out _).mono ?_); rintro e w' ⟨rfl, rfl⟩))
      go_ret
      exact ⟨rfl, rfl⟩
    · rw [show storeB 1 5 2 = false from by decide +kernel]
      rw [show countsV 5 2 = 5 from by decide +kernel] at C
      replace C := Lib.hid C
      have S := r_send 5
      rw [show sendB 5 = false from by decide +kernel] at S
      replace S := Lib.hid S
      clear ho hc hm
      go_enter Tryd.func40, Tryd.ntmps40
      go_wp2_with (first | ((with_reducible refine (I.out _).mono ?_); rintro e w' ⟨rfl, rfl⟩) | ((with_reducible refine (J.out _).mono ?_); rintro e w' ⟨rfl, rfl⟩) | ((with_reducible refine (C.out _).mono ?_); rintro e w' ⟨rfl, rfl⟩) | ((with_reducible refine (S.out _).mono ?_); rintro e w' ⟨rfl, rfl⟩))
      go_ret
      exact ⟨rfl, rfl⟩
    · rw [show storeB 1 6 0 = true from by decide +kernel]
      rw [show countsV 6 0 = 6 from by decide +kernel] at C
      replace C := Lib.hid C
      have S := r_send 6
      rw [show sendB 6 = true from by decide +kernel] at S
      replace S := Lib.hid S
      clear ho hc hm
      go_enter Tryd.func40, Tryd.ntmps40
      go_wp2_with (first | ((with_reducible refine (I.out _).mono ?_); rintro e w' ⟨rfl, rfl⟩) | ((with_reducible refine (J.out _).mono ?_); rintro e w' ⟨rfl, rfl⟩) | ((with_reducible refine (C.out _).mono ?_); rintro e w' ⟨rfl, rfl⟩) | ((with_reducible refine (S.out _).mono ?_); rintro e w' ⟨rfl, rfl⟩))
      go_ret
      exact ⟨rfl, rfl⟩
    · rw [show storeB 1 6 1 = true from by decide +kernel]
      rw [show countsV 6 1 = 6 from by decide +kernel] at C
      replace C := Lib.hid C
      have S := r_send 6
      rw [show sendB 6 = true from by decide +kernel] at S
      replace S := Lib.hid S
      clear ho hc hm
      go_enter Tryd.func40, Tryd.ntmps40
      go_wp2_with (first | ((with_reducible refine (I.out _).mono ?_); rintro e w' ⟨rfl, rfl⟩) | ((with_reducible refine (J.out _).mono ?_); rintro e w' ⟨rfl, rfl⟩) | ((with_reducible refine (C.out _).mono ?_); rintro e w' ⟨rfl, rfl⟩) | ((with_reducible refine (S.out _).mono ?_); rintro e w' ⟨rfl, rfl⟩))
      go_ret
      exact ⟨rfl, rfl⟩
    · rw [show storeB 1 6 2 = true from by decide +kernel]
      rw [show countsV 6 2 = 6 from by decide +kernel] at C
      replace C := Lib.hid C
      have S := r_send 6
      rw [show sendB 6 = true from by decide +kernel] at S
      replace S := Lib.hid S
      clear ho hc hm
      go_enter Tryd.func40, Tryd.ntmps40
      go_wp2_with (first | ((with_reducible refine (I.out _).mono ?_); rintro e w' ⟨rfl, rfl⟩) | ((with_reducible refine (J.out _).mono ?_); rintro e w' ⟨rfl, rfl⟩) | ((with_reducible refine (C.out _).mono ?_); rintro e w' ⟨rfl, rfl⟩) | ((with_reducible refine (S.out _).mono ?_); rintro e w' ⟨rfl, rfl⟩))
      go_ret
      exact ⟨rfl, rfl⟩
    · rw [show storeB 2 1 0 = true from by decide +kernel]
      rw [show countsV 1 0 = 1 from by decide +kernel] at C
      replace C := Lib.hid C
      have S := r_send 1
      rw [show sendB 1 = true from by decide +kernel] at S
      replace S := Lib.hid S
      clear ho hc hm
      go_enter Tryd.func40, Tryd.ntmps40
      go_wp2_with (first | ((with_reducible refine (I.out _).mono ?_); rintro e w' ⟨rfl, rfl⟩) | ((with_reducible refine (J.out _).mono ?_); rintro e w' ⟨rfl, rfl⟩) | ((with_reducible refine (C.out _).mono ?_); rintro e w' ⟨rfl, rfl⟩) | ((with_reducible refine (S.out _).mono ?_); rintro e w' ⟨rfl, rfl⟩))
      go_ret
      exact ⟨rfl, rfl⟩
    · rw [show storeB 2 1 1 = true from by decide +kernel]
      rw [show countsV 1 1 = 1 from by decide +kernel] at C
      replace C := Lib.hid C
      have S := r_send 1
      rw [show sendB 1 = true from by decide +kernel] at S
      replace S := Lib.hid S
      clear ho hc hm
      go_enter Tryd.func40, Tryd.ntmps40
      go_wp2_with (first | ((with_reducible refine (I.out _).mono ?_); rintro e w' ⟨rfl, rfl⟩) | ((with_reducible refine (J.out _).mono ?_); rintro e w' ⟨rfl, rfl⟩) | ((with_reducible refine (C.out _).mono ?_); rintro e w' ⟨rfl, rfl⟩) | ((with_reducible refine (S.out _).mono ?_); rintro e w' ⟨rfl, rfl⟩))
      go_ret
      exact ⟨rfl, rfl⟩
    · rw [show storeB 2 1 2 = true from by decide +kernel]
      rw [show countsV 1 2 = 6 from by decide +kernel] at C
      replace C := Lib.hid C
      have S := r_send 6
      rw [show sendB 6 = true from by decide +kernel] at S
      replace S := Lib.hid S
      clear ho hc hm
      go_enter Tryd.func40, Tryd.ntmps40
      go_wp2_with (first | ((with_reducible refine (I.out _).mono ?_); rintro e w' ⟨rfl, rfl⟩) | ((with_reducible refine (J.out _).mono ?_); rintro e w' ⟨rfl, rfl⟩) | ((with_reducible refine (C.out _).mono ?_); rintro e w' ⟨rfl, rfl⟩) | ((with_reducible refine (S.out _).mono ?_); rintro e w' ⟨rfl, rfl⟩))
      go_ret
      exact ⟨rfl, rfl⟩
    · rw [show storeB 2 2 0 = true from by decide +kernel]
      rw [show countsV 2 0 = 2 from by decide +kernel] at C
      replace C := Lib.hid C
      have S := r_send 2
      rw [show sendB 2 = false from by decide +kernel] at S
      replace S := Lib.hid S
      clear ho hc hm
      go_enter Tryd.func40, Tryd.ntmps40
      go_wp2_with (first | ((with_reducible refine (I.out _).mono ?_); rintro e w' ⟨rfl, rfl⟩) | ((with_reducible refine (J.out _).mono ?_); rintro e w' ⟨rfl, rfl⟩) | ((with_reducible refine (C.out _).mono ?_); rintro e w' ⟨rfl, rfl⟩) | ((with_reducible refine (S.out _).mono ?_); rintro e w' ⟨rfl, rfl⟩))
      go_ret
      exact ⟨rfl, rfl⟩
    · rw [show storeB 2 2 1 = true from by decide +kernel]
      rw [show countsV 2 1 = 2 from by decide +kernel] at C
      replace C := Lib.hid C
      have S := r_send 2
      rw [show sendB 2 = false from by decide +kernel] at S
      replace S := Lib.hid S
      clear ho hc hm
      go_enter Tryd.func40, Tryd.ntmps40
      go_wp2_with (first | ((with_reducible refine (I.out _).mono ?_); rintro e w' ⟨rfl, rfl⟩) | ((with_reducible refine (J.out _).mono ?_); rintro e w' ⟨rfl, rfl⟩) | ((with_reducible refine (C.out _).mono ?_); rintro e w' ⟨rfl, rfl⟩) | ((with_reducible refine (S.out _).mono ?_); rintro e w' ⟨rfl, rfl⟩))
      go_ret
      exact ⟨rfl, rfl⟩
    · rw [show storeB 2 2 2 = false from by decide +kernel]
      rw [show countsV 2 2 = 5 from by decide +kernel] at C
      replace C := Lib.hid C
      have S := r_send 5
      rw [show sendB 5 = false from by decide +kernel] at S
      replace S := Lib.hid S
      clear ho hc hm
      go_enter Tryd.func40, Tryd.ntmps40
      go_wp2_with (first | ((with_reducible refine (I.out _).mono ?_); rintro e w' ⟨rfl, rfl⟩) | ((with_reducible refine (J.out _).mono ?_); rintro e w' ⟨rfl, rfl⟩) | ((with_reducible refine (C.out _).mono ?_); rintro e w' ⟨rfl, rfl⟩) | ((with_reducible refine (S.out _).mono ?_); rintro e w' ⟨rfl, rfl⟩))
      go_ret
      exact ⟨rfl, rfl⟩
    · rw [show storeB 2 3 0 = false from by decide +kernel]
      rw [show countsV 3 0 = 3 from by decide +kernel] at C
      replace C := Lib.hid C
      have S := r_send 3
      rw [show sendB 3 = false from by decide +kernel] at S
      replace S := Lib.hid S
      clear ho hc hm
      go_enter Tryd.func40, Tryd.ntmps40
      go_wp2_with (first | ((with_reducible refine (I.out _).mono ?_); rintro e w' ⟨rfl, rfl⟩) | ((with_reducible refine (J.out _).mono ?_); rintro e w' ⟨rfl, rfl⟩) | ((with_reducible refine (C.out _).mono ?_); rintro e w' ⟨rfl, rfl⟩) | ((with_reducible refine (S.out _).mono ?_); rintro e w' ⟨rfl, rfl⟩))
      go_ret
      exact ⟨rfl, rfl⟩
    · rw [show storeB 2 3 1 = false from by decide +kernel]
      rw [show countsV 3 1 = 3 from by decide +kernel] at C
      replace C := Lib.hid C
      have S := r_send 3
      rw [show sendB 3 = false from by decide +kernel] at S
      replace S := Lib.hid S
      clear ho hc hm
      go_enter Tryd.func40, Tryd.ntmps40
      go_wp2_with (first | ((with_reducible refine (I.out _).mono ?_); rintro e w' ⟨rfl, rfl⟩) | ((with_reducible refine (J.out _).mono ?_); rintro e w' ⟨rfl, rfl⟩) | ((with_reducible refine (C.out _).mono ?_); rintro e w' ⟨rfl, rfl⟩) | ((with_reducible refine (S.out _).mono ?_); rintro e w' ⟨rfl, rfl⟩))
      go_ret
      exact ⟨rfl, rfl⟩
    · rw [show storeB 2 3 2 = false from by decide +kernel]
      rw [show countsV 3 2 = 3 from by decide +kernel] at C
      replace C := Lib.hid C
      have S := r_send 3
      rw [show sendB 3 = false from by decide +kernel] at S
      replace S := Lib.hid S
      clear ho hc hm
      go_enter Tryd.func40, Tryd.ntmps40
      go_wp2_with (first | ((with_reducible refine (I.out _).mono ?_); rintro e w' ⟨rfl, rfl⟩) | ((with_reducible refine (J.out _).mono ?_); rintro e w' ⟨rfl, rfl⟩) | ((with_reducible refine (C.out _).mono ?_); rintro e w' ⟨rfl, rfl⟩) | ((with_reducible refine (S.out _).mono ?_); rintro e w' ⟨rfl, rfl⟩))
      go_ret
      exact ⟨rfl, rfl⟩
    · rw [show storeB 2 4 0 = true from by decide +kernel]
      rw [show countsV 4 0 = 4 from by decide +kernel] at C
      replace C := Lib.hid C
      have S := r_send 4
      rw [show sendB 4 = true from by decide +kernel] at S
      replace S := Lib.hid S
      clear ho hc hm
      go_enter Tryd.func40, Tryd.ntmps40
      go_wp2_with (first | ((with_reducible refine (I.out _).mono ?_); rintro e w' ⟨rfl, rfl⟩) | ((with_reducible refine (J.out _).mono ?_); rintro e w' ⟨rfl, rfl⟩) | ((with_reducible refine (C.out _).mono ?_); rintro e w' ⟨rfl, rfl⟩) | ((with_reducible refine (S.out _).mono ?_); rintro e w' ⟨rfl, rfl⟩))
      go_ret
      exact ⟨rfl, rfl⟩
    · rw [show storeB 2 4 1 = true from by decide +kernel]
      rw [show countsV 4 1 = 4 from by decide +kernel] at C
      replace C := Lib.hid C
      have S := r_send 4
      rw [show sendB 4 = true from by decide +kernel] at S
      replace S := Lib.hid S
      clear ho hc hm
      go_enter Tryd.func40, Tryd.ntmps40
      go_wp2_with (first | ((with_reducible refine (I.out _).mono ?_); rintro e w' ⟨rfl, rfl⟩) | ((with_reducible refine (J.out _).mono ?_); rintro e w' ⟨rfl, rfl⟩) | ((with_reducible refine (C.out _).mono ?_); rintro e w' ⟨rfl, rfl⟩) | ((with_reducible refine (S.out _).mono ?_); rintro e w' ⟨rfl, rfl⟩))
      go_ret
      exact ⟨rfl, rfl⟩
    · rw [show storeB 2 4 2 = true from by decide +kernel]
      rw [show countsV 4 2 = 4 from by decide +kernel] at C
      replace C := Lib.hid C
      have S := r_send 4
      rw [show sendB 4 = true from by decide +kernel] at S
      replace S := Lib.hid S
      clear ho hc hm
      go_enter Tryd.func40, Tryd.ntmps40
      go_wp2_with (first | ((with_reducible refine (I.out _).mono ?_); rintro e w' ⟨rfl, rfl⟩) | ((with_reducible refine (J.out _).mono ?_); rintro e w' ⟨rfl, rfl⟩) | ((with_reducible refine (C.out _).mono ?_); rintro e w' ⟨rfl, rfl⟩) | ((with_reducible refine (S.out _).mono ?_); rintro e w' ⟨rfl, rfl⟩))
      go_ret
      exact ⟨rfl, rfl⟩
    · rw [show storeB 2 5 0 = false from by decide +kernel]
      rw [show countsV 5 0 = 5 from by decide +kernel] at C
      replace C := Lib.hid C
      have S := r_send 5
      rw [show sendB 5 = false from by decide +kernel] at S
      replace S := Lib.hid S
      clear ho hc hm
      go_enter Tryd.func40, Tryd.ntmps40
      go_wp2_with (first | ((with_reducible refine (I.out _).mono ?_); rintro e w' ⟨rfl, rfl⟩) | ((with_reducible refine (J.out _).mono ?_); rintro e w' ⟨rfl, rfl⟩) | ((with_reducible refine (C.out _).mono ?_); rintro e w' ⟨rfl, rfl⟩) | ((with_reducible refine (S.out _).mono ?_); rintro e w' ⟨rfl, rfl⟩))
      go_ret
      exact ⟨rfl, rfl⟩
    · rw [show storeB 2 5 1 = false from by decide +kernel]
      rw [show countsV 5 1 = 5 from by decide +kernel] at C
      replace C := Lib.hid C
      have S := r_send 5
      rw [show sendB 5 = false from by decide +kernel] at S
      replace S := Lib.hid S
      clear ho hc hm
      go_enter Tryd.func40, Tryd.ntmps40
      go_wp2_with (first | ((with_reducible refine (I.out _).mono ?_); rintro e w' ⟨rfl, rfl⟩) | ((with_reducible refine (J.out _).mono ?_); rintro e w' ⟨rfl, rfl⟩) | ((with_reducible refine (C.out _).mono ?_); rintro e w' ⟨rfl, rfl⟩) | ((with_reducible refine (S.out _).mono ?_); rintro e w' ⟨rfl, rfl⟩))
      go_ret
      exact ⟨rfl, rfl⟩
    · rw [show storeB 2 5 2 = false from by decide +kernel]
      rw [show countsV 5 2 = 5 from by decide +kernel] at C
      replace C := Lib.hid C
      have S := r_send 5
      rw [show sendB 5 = false from by decide +kernel] at S
      replace S := Lib.hid S
      clear ho hc hm
      go_enter Tryd.func40, Tryd.ntmps40
      go_wp2_with (first | ((with_reducible refine (I.out _).mono ?_); rintro e w' ⟨rfl, rfl⟩) | ((with_reducible refine (J.out _).mono ?_); rintro e w' ⟨rfl, rfl⟩) | ((with_reducible refine (C.out _).mono ?_); rintro e w' ⟨rfl, rfl⟩) | ((with_reducible refine (S.out _).mono ?_); rintro e w' ⟨rfl, rfl⟩))
      go_ret
      exact ⟨rfl, rfl⟩
    · rw [show storeB 2 6 0 = true from by decide +kernel]
      rw [show countsV 6 0 = 6 from by decide +kernel] at C
      replace C := Lib.hid C
      have S := r_send 6
      rw [show sendB 6 = true from by decide +kernel] at S
      replace S := Lib.hid S
      clear ho hc hm
      go_enter Tryd.func40, Tryd.ntmps40
      go_wp2_with (first | ((with_reducible refine (I.out _).mono ?_); rintro e w' ⟨rfl, rfl⟩) | ((with_reducible refine (J.out _).mono ?_); rintro e w' ⟨rfl, rfl⟩) | ((with_reducible refine (C.out _).mono ?_); rintro e w' ⟨rfl, rfl⟩) | ((with_reducible refine (S.out _).mono ?_); rintro e w' ⟨rfl, rfl⟩))
      go_ret
      exact ⟨rfl, rfl⟩
    · rw [show storeB 2 6 1 = true from by decide +kernel]
      rw [show countsV 6 1 = 6 from by decide +kernel] at C
      replace C := Lib.hid C
      have S := r_send 6
      rw [show sendB 6 = true from by decide +kernel] at S
      replace S := Lib.hid S
      clear ho hc hm
      go_enter Tryd.func40, Tryd.ntmps40
      go_wp2_with (first | ((with_reducible refine (I.out _).mono ?_); rintro e w' ⟨rfl, rfl⟩) | ((with_reducible refine (J.out _).mono ?_); rintro e w' ⟨rfl, rfl⟩) | ((with_reducible refine (C.out _).mono ?_); rintro e w' ⟨rfl, rfl⟩) | ((with_reducible refine (S.out _).mono ?_); rintro e w' ⟨rfl, rfl⟩))
      go_ret
      exact ⟨rfl, rfl⟩
    · rw [show storeB 2 6 2 = true from by decide +kernel]
      rw [show countsV 6 2 = 6 from by decide +kernel] at C
      replace C := Lib.hid C
      have S := r_send 6
      rw [show sendB 6 = true from by decide +kernel] at S
      replace S := Lib.hid S
      clear ho hc hm
      go_enter Tryd.func40, Tryd.ntmps40
      go_wp2_with (first | ((with_reducible refine (I.out _).mono ?_); rintro e w' ⟨rfl, rfl⟩) | ((with_reducible refine (J.out _).mono ?_); rintro e w' ⟨rfl, rfl⟩) | ((with_reducible refine (C.out _).mono ?_); rintro e w' ⟨rfl, rfl⟩) | ((with_reducible refine (S.out _).mono ?_); rintro e w' ⟨rfl, rfl⟩))
      go_ret
      exact ⟨rfl, rfl⟩
    · rw [show storeB 3 1 0 = true from by decide +kernel]
      rw [show countsV 1 0 = 1 from by decide +kernel] at C
      replace C := Lib.hid C
      have S := r_send 1
      rw [show sendB 1 = true from by decide +kernel] at S
      replace S := Lib.hid S
      clear ho hc hm
      go_enter Tryd.func40, Tryd.ntmps40
      go_wp2_with (first | ((with_reducible refine (I.out _).mono ?_); rintro e w' ⟨rfl, rfl⟩) | ((with_reducible refine (J.out _).mono ?_); rintro e w' ⟨rfl, rfl⟩) | ((with_reducible refine (C.out _).mono ?_); rintro e w' ⟨rfl, rfl⟩) | ((with_reducible refine (S.out _).mono ?_); rintro e w' ⟨rfl, rfl⟩))
      go_ret
      exact ⟨rfl, rfl⟩
    · rw [show storeB 3 1 1 = true from by decide +kernel]
      rw [show countsV 1 1 = 1 from by decide +kernel] at C
      replace C := Lib.hid C
      have S := r_send 1
      rw [show sendB 1 = true from by decide +kernel] at S
      replace S := Lib.hid S
      clear ho hc hm
      go_enter Tryd.func40, Tryd.ntmps40
      go_wp2_with (first | ((with_reducible refine (I.out _).mono ?_); rintro e w' ⟨rfl, rfl⟩) | ((with_reducible refine (J.out _).mono ?_); rintro e w' ⟨rfl, rfl⟩) | ((with_reducible refine (C.out _).mono ?_); rintro e w' ⟨rfl, rfl⟩) | ((with_reducible refine (S.out _).mono ?_); rintro e w' ⟨rfl, rfl⟩))
      go_ret
      exact ⟨rfl, rfl⟩
    · rw [show storeB 3 1 2 = true from by decide +kernel]
      rw [show countsV 1 2 = 6 from by decide +kernel] at C
      replace C := Lib.hid C
      have S := r_send 6
      rw [show sendB 6 = true from by decide +kernel] at S
      replace S := Lib.hid S
      clear ho hc hm
      go_enter Tryd.func40, Tryd.ntmps40
      go_wp2_with (first | ((with_reducible refine (I.out _).mono ?_); rintro e w' ⟨rfl, rfl⟩) | ((with_reducible refine (J.out _).mono ?_); rintro e w' ⟨rfl, rfl⟩) | ((with_reducible refine (C.out _).mono ?_); rintro e w' ⟨rfl, rfl⟩) | ((with_reducible refine (S.out _).mono ?_); rintro e w' ⟨rfl, rfl⟩))
      go_ret
      exact ⟨rfl, rfl⟩
    · rw [show storeB 3 2 0 = true from by decide +kernel]
      rw [show countsV 2 0 = 2 from by decide +kernel] at C
      replace C := Lib.hid C
      have S := r_send 2
      rw [show sendB 2 = false from by decide +kernel] at S
      replace S := Lib.hid S
      clear ho hc hm
      go_enter Tryd.func40, Tryd.ntmps40
      go_wp2_with (first | ((with_reducible refine (I.out _).mono ?_); rintro e w' ⟨rfl, rfl⟩) | ((with_reducible refine (J.out _).mono ?_); rintro e w' ⟨rfl, rfl⟩) | ((with_reducible refine (C.out _).mono ?_); rintro e w' ⟨rfl, rfl⟩) | ((with_reducible refine (S.out _).mono ?_); rintro e w' ⟨rfl, rfl⟩))
      go_ret
      exact ⟨rfl, rfl⟩
    · rw [show storeB 3 2 1 = true from by decide +kernel]
      rw [show countsV 2 1 = 2 from by decide +kernel] at C
      replace C := Lib.hid C
      have S := r_send 2
      rw [show sendB 2 = false from by decide +kernel] at S
      replace S := Lib.hid S
      clear ho hc hm
      go_enter Tryd.func40, Tryd.ntmps40
      go_wp2_with (first | ((with_reducible refine (I.out _).mono ?_); rintro e w' ⟨rfl, rfl⟩) | ((with_reducible refine (J.out _).mono ?_); rintro e w' ⟨rfl, rfl⟩) | ((with_reducible refine (C.out _).mono ?_); rintro e w' ⟨rfl, rfl⟩) | ((with_reducible refine (S.out _).mono ?_); rintro e w' ⟨rfl, rfl⟩))
      go_ret
      exact ⟨rfl, rfl⟩
    · rw [show storeB 3 2 2 = true from by decide +kernel]
      rw [show countsV 2 2 = 5 from by decide +kernel] at C
      replace C := Lib.hid C
      have S := r_send 5
      rw [show sendB 5 = false from by decide +kernel] at S
      replace S := Lib.hid S
      clear ho hc hm
      go_enter Tryd.func40, Tryd.ntmps40
      go_wp2_with (first | ((with_reducible refine (I.out _).mono ?_); rintro e w' ⟨rfl, rfl⟩) | ((with_reducible refine (J.out _).mono ?_); rintro e w' ⟨rfl, rfl⟩) | ((with_reducible refine (C.out _).mono ?_); rintro e w' ⟨rfl, rfl⟩) | ((with_reducible refine (S.out _).mono ?_); rintro e w' ⟨rfl, rfl⟩))
      go_ret
      exact ⟨rfl, rfl⟩
    · rw [show storeB 3 3 0 = true from by decide +kernel]
      rw [show countsV 3 0 = 3 from by decide +kernel] at C
      replace C := Lib.hid C
      have S := r_send 3
      rw [show sendB 3 = false from by decide +kernel] at S
      replace S := Lib.hid S
      clear ho hc hm
      go_enter Tryd.func40, Tryd.ntmps40
      go_wp2_with (first | ((with_reducible refine (I.out _).mono ?_); rintro e w' ⟨rfl, rfl⟩) | ((with_reducible refine (J.out _).mono ?_); rintro e w' ⟨rfl, rfl⟩) | ((with_reducible refine (C.out _).mono ?_); rintro e w' ⟨rfl, rfl⟩) | ((with_reducible refine (S.out _).mono ?_); rintro e w' ⟨rfl, rfl⟩))
      go_ret
      exact ⟨rfl, rfl⟩
    · rw [show storeB 3 3 1 = true from by decide +kernel]
      rw [show countsV 3 1 = 3 from by decide +kernel] at C
      replace C := Lib.hid C
      have S := r_send 3
      rw [show sendB 3 = false from by decide +kernel] at S
      replace S := Lib.hid S
      clear ho hc hm
      go_enter Tryd.func40, Tryd.ntmps40
      go_wp2_with (first | ((with_reducible refine (I.out _).mono ?_); rintro e w' ⟨rfl, rfl⟩) | ((with_reducible refine (J.out _).mono ?_); rintro e w' ⟨rfl, rfl⟩) | ((with_reducible refine (C.out _).mono ?_); rintro e w' ⟨rfl, rfl⟩) | ((with_reducible refine (S.out _).mono ?_); rintro e w' ⟨rfl, rfl⟩))
      go_ret
      exact ⟨rfl, rfl⟩
    · rw [show storeB 3 3 2 = true from by decide +kernel]
      rw [show countsV 3 2 = 3 from by decide +kernel] at C
      replace C := Lib.hid C
      have S := r_send 3
      rw [show sendB 3 = false from by decide +kernel] at S
      replace S := Lib.hid S
      clear ho hc hm
      go_enter Tryd.func40, Tryd.ntmps40
      go_wp2_with (first | ((with_reducible refine (I.out _).mono ?_); rintro e w' ⟨rfl, rfl⟩) | ((with_reducible refine (J.out _).mono ?_); rintro e w' ⟨rfl, rfl⟩) | ((with_reducible refine (C.out _).mono ?_); rintro e w' ⟨rfl, rfl⟩) | ((with_reducible refine (S.out _).mono ?_); rintro e w' ⟨rfl, rfl⟩))
      go_ret
      exact ⟨rfl, rfl⟩
    · rw [show storeB 3 4 0 = true from by decide +kernel]
      rw [show countsV 4 0 = 4 from by decide +kernel] at C
      replace C := Lib.hid C
      have S := r_send 4
      rw [show sendB 4 = true from by decide +kernel] at S
      replace S := Lib.hid S
      clear ho hc hm
      go_enter Tryd.func40, Tryd.ntmps40
      go_wp2_with (first | ((with_reducible refine (I.out _).mono ?_); rintro e w' ⟨rfl, rfl⟩) | ((with_reducible refine (J.out _).mono ?_); rintro e w' ⟨rfl, rfl⟩) | ((with_reducible refine (C.out _).mono ?_); rintro e w' ⟨rfl, rfl⟩) | ((with_reducible refine (S.out _).mono ?_); rintro e w' ⟨rfl, rfl⟩))
      go_ret
      exact ⟨rfl, rfl⟩
    · rw [show storeB 3 4 1 = true from by decide +kernel]
      rw [show countsV 4 1 = 4 from by decide +kernel] at C
      replace C := Lib.hid C
      have S := r_send 4
      rw [show sendB 4 = true from by decide +kernel] at S
      replace S := Lib.hid S
      clear ho hc hm
      go_enter Tryd.func40, Tryd.ntmps40
      go_wp2_with (first | ((with_reducible refine (I.out _).mono ?_); rintro e w' ⟨rfl, rfl⟩) | ((with_reducible refine (J.out _).mono ?_); rintro e w' ⟨rfl, rfl⟩) | ((with_reducible refine (C.out _).mono ?_); rintro e w' ⟨rfl, rfl⟩) | ((with_reducible refine (S.out _).mono ?_); rintro e w' ⟨rfl, rfl⟩))
      go_ret
      exact ⟨rfl, rfl⟩
    · rw [show storeB 3 4 2 = true from by decide +kernel]
      rw [show countsV 4 2 = 4 from by decide +kernel] at C
      replace C := Lib.hid C
      have S := r_send 4
      rw [show sendB 4 = true from by decide +kernel] at S
      replace S := Lib.hid S
      clear ho hc hm
      go_enter Tryd.func40, Tryd.ntmps40
      go_wp2_with (first | ((with_reducible refine (I.out _).mono ?_); rintro e w' ⟨rfl, rfl⟩) | ((with_reducible refine (J.out _).mono ?_); rintro e w' ⟨rfl, rfl⟩) | ((with_reducible refine (C.out _).mono ?_); rintro e w' ⟨rfl, rfl⟩) | ((with_reducible refine (S.out _).mono ?_); rintro e w' ⟨rfl, rfl⟩))
      go_ret
      exact ⟨rfl, rfl⟩
    · rw [show storeB 3 5 0 = true from by decide +kernel]
      rw [show countsV 5 0 = 5 from by decide +kernel] at C
      replace C := Lib.hid C
      have S := r_send 5
      rw [show sendB 5 = false from by decide +kernel] at S
      replace S := Lib.hid S
      clear ho hc hm
      go_enter Tryd.func40, Tryd.ntmps40
      go_wp2_with (first | ((with_reducible refine (I.out _).mono ?_); rintro e w' ⟨rfl, rfl⟩) | ((with_reducible refine (J.out _).mono ?_); rintro e w' ⟨rfl, rfl⟩) | ((with_reducible refine (C.out _).mono ?_); rintro e w' ⟨rfl, rfl⟩) | ((with_reducible refine (S.out _).mono ?_); rintro e w' ⟨rfl, rfl⟩))
      go_ret
      exact ⟨rfl, rfl⟩
    · rw [show storeB 3 5 1 = true from by decide +kernel]
      rw [show countsV 5 1 = 5 from by decide +kernel] at C
      replace C := Lib.hid C
      have S := r_send 5
      rw [show sendB 5 = false from by decide +kernel] at S
      replace S := Lib.hid S
      clear ho hc hm
      go_enter Tryd.func40, Tryd.ntmps40
      go_wp2_with (first | ((with_reducible refine (I.out _).mono ?_); rintro e w' ⟨rfl, rfl⟩) | ((with_reducible refine (J.out _).mono ?_); rintro e w' ⟨rfl, rfl⟩) | ((with_reducible refine (C.out _).mono ?_); rintro e w' ⟨rfl, rfl⟩) | ((with_reducible refine (S.out _).mono ?_); rintro e w' ⟨rfl, rfl⟩))
      go_ret
      exact ⟨rfl, rfl⟩
    · rw [show storeB 3 5 2 = true from by decide +kernel]
      rw [show countsV 5 2 = 5 from by decide +kernel] at C
      replace C := Lib.hid C
      have S := r_send 5
      rw [show sendB 5 = false from by decide +kernel] at S
      replace S := Lib.hid S
      clear ho hc hm
      go_enter Tryd.func40, Tryd.ntmps40
      go_wp2_with (first | ((with_reducible refine (I.out _).mono ?_); rintro e w' ⟨rfl, rfl⟩) | ((with_reducible refine (J.out _).mono ?_); rintro e w' ⟨rfl, rfl⟩) | ((with_reducible refine (C.out _).mono ?_); rintro e w' ⟨rfl, rfl⟩) | ((with_reducible refine (S.out _).mono ?_); rintro e w' ⟨rfl, rfl⟩))
      go_ret
      exact ⟨rfl, rfl⟩
    · rw [show storeB 3 6 0 = true from by decide +kernel]
      rw [show countsV 6 0 = 6 from by decide +kernel] at C
      replace C := Lib.hid C
      have S := r_send 6
      rw [show sendB 6 = true from by decide +kernel] at S
      replace S := Lib.hid S
      clear ho hc hm
      go_enter Tryd.func40, Tryd.ntmps40
      go_wp2_with (first | ((with_reducible refine (I.out _).mono ?_); rintro e w' ⟨rfl, rfl⟩) | ((with_reducible refine (J.out _).mono ?_); rintro e w' ⟨rfl, rfl⟩) | ((with_reducible refine (C.out _).mono ?_); rintro e w' ⟨rfl, rfl⟩) | ((with_reducible refine (S.out _).mono ?_); rintro e w' ⟨rfl, rfl⟩))
      go_ret
      exact ⟨rfl, rfl⟩
    · rw [show storeB 3 6 1 = true from by decide +kernel]
      rw [show countsV 6 1 = 6 from by decide +kernel] at C
      replace C := Lib.hid C
      have S := r_send 6
      rw [show sendB 6 = true from by decide +kernel] at S
      replace S := Lib.hid S
      clear ho hc hm
      go_enter Tryd.func40, Tryd.ntmps40
      go_wp2_with (first | ((with_reducible refine (I.out _).mono ?_); rintro e w' ⟨rfl, rfl⟩) | ((with_reducible refine (J.out _).mono ?_); rintro e w' ⟨rfl, rfl⟩) | ((with_reducible refine (C.out _).mono ?_); rintro e w' ⟨rfl, rfl⟩) | ((with_reducible refine (S.out _).mono ?_); rintro e w' ⟨rfl, rfl⟩))
      go_ret
      exact ⟨rfl, rfl⟩
    · rw [show storeB 3 6 2 = true from by decide +kernel]
      rw [show countsV 6 2 = 6 from by decide +kernel] at C
      replace C := Lib.hid C
      have S := r_send 6
      rw [show sendB 6 = true from by decide +kernel] at S
      replace S := Lib.hid S
      clear ho hc hm
      go_enter Tryd.func40, Tryd.ntmps40
      go_wp2_with (first | ((with_reducible refine (I.out _).mono ?_); rintro e w' ⟨rfl, rfl⟩) | ((with_reducible refine (J.out _).mono ?_); rintro e w' ⟨rfl, rfl⟩) | ((with_reducible refine (C.out _).mono ?_); rintro e w' ⟨rfl, rfl⟩) | ((with_reducible refine (S.out _).mono ?_); rintro e w' ⟨rfl, rfl⟩))
      go_ret
      exact ⟨rfl, rfl⟩
end Go.Proofs.YtblklbmolfddpaaDoor
