/- Contract of the statement's own function CapPermits. -/
import Derived.Test.YtblklbmolfddpaaDoorBase
namespace Go.Proofs.YtblklbmolfddpaaDoor
open Go.RowKit

theorem reads_1 (W : World) : Calls Tryd.prog 18 #[.int .i64 1] W fun e w' => e = .returned (.bool true) ∧ W = w' := by
  have h := reads_any 1 W
  rwa [show readsB 1 = true from by decide +kernel] at h
theorem writes_1 (W : World) : Calls Tryd.prog 20 #[.int .i64 1] W fun e w' => e = .returned (.bool true) ∧ W = w' := by
  have h := writes_any 1 W
  rwa [show writesB 1 = true from by decide +kernel] at h
theorem send_1 (W : World) : Calls Tryd.prog 22 #[.int .i64 1] W fun e w' => e = .returned (.bool true) ∧ W = w' := by
  have h := send_any 1 W
  rwa [show sendB 1 = true from by decide +kernel] at h
theorem reads_2 (W : World) : Calls Tryd.prog 18 #[.int .i64 2] W fun e w' => e = .returned (.bool true) ∧ W = w' := by
  have h := reads_any 2 W
  rwa [show readsB 2 = true from by decide +kernel] at h
theorem writes_2 (W : World) : Calls Tryd.prog 20 #[.int .i64 2] W fun e w' => e = .returned (.bool true) ∧ W = w' := by
  have h := writes_any 2 W
  rwa [show writesB 2 = true from by decide +kernel] at h
theorem send_2 (W : World) : Calls Tryd.prog 22 #[.int .i64 2] W fun e w' => e = .returned (.bool false) ∧ W = w' := by
  have h := send_any 2 W
  rwa [show sendB 2 = false from by decide +kernel] at h
theorem reads_3 (W : World) : Calls Tryd.prog 18 #[.int .i64 3] W fun e w' => e = .returned (.bool true) ∧ W = w' := by
  have h := reads_any 3 W
  rwa [show readsB 3 = true from by decide +kernel] at h
theorem writes_3 (W : World) : Calls Tryd.prog 20 #[.int .i64 3] W fun e w' => e = .returned (.bool true) ∧ W = w' := by
  have h := writes_any 3 W
  rwa [show writesB 3 = true from by decide +kernel] at h
theorem send_3 (W : World) : Calls Tryd.prog 22 #[.int .i64 3] W fun e w' => e = .returned (.bool false) ∧ W = w' := by
  have h := send_any 3 W
  rwa [show sendB 3 = false from by decide +kernel] at h
theorem reads_4 (W : World) : Calls Tryd.prog 18 #[.int .i64 4] W fun e w' => e = .returned (.bool true) ∧ W = w' := by
  have h := reads_any 4 W
  rwa [show readsB 4 = true from by decide +kernel] at h
theorem writes_4 (W : World) : Calls Tryd.prog 20 #[.int .i64 4] W fun e w' => e = .returned (.bool false) ∧ W = w' := by
  have h := writes_any 4 W
  rwa [show writesB 4 = false from by decide +kernel] at h
theorem send_4 (W : World) : Calls Tryd.prog 22 #[.int .i64 4] W fun e w' => e = .returned (.bool true) ∧ W = w' := by
  have h := send_any 4 W
  rwa [show sendB 4 = true from by decide +kernel] at h
theorem reads_5 (W : World) : Calls Tryd.prog 18 #[.int .i64 5] W fun e w' => e = .returned (.bool true) ∧ W = w' := by
  have h := reads_any 5 W
  rwa [show readsB 5 = true from by decide +kernel] at h
theorem writes_5 (W : World) : Calls Tryd.prog 20 #[.int .i64 5] W fun e w' => e = .returned (.bool false) ∧ W = w' := by
  have h := writes_any 5 W
  rwa [show writesB 5 = false from by decide +kernel] at h
theorem send_5 (W : World) : Calls Tryd.prog 22 #[.int .i64 5] W fun e w' => e = .returned (.bool false) ∧ W = w' := by
  have h := send_any 5 W
  rwa [show sendB 5 = false from by decide +kernel] at h
theorem reads_6 (W : World) : Calls Tryd.prog 18 #[.int .i64 6] W fun e w' => e = .returned (.bool false) ∧ W = w' := by
  have h := reads_any 6 W
  rwa [show readsB 6 = false from by decide +kernel] at h
theorem writes_6 (W : World) : Calls Tryd.prog 20 #[.int .i64 6] W fun e w' => e = .returned (.bool false) ∧ W = w' := by
  have h := writes_any 6 W
  rwa [show writesB 6 = false from by decide +kernel] at h
theorem send_6 (W : World) : Calls Tryd.prog 22 #[.int .i64 6] W fun e w' => e = .returned (.bool true) ∧ W = w' := by
  have h := send_any 6 W
  rwa [show sendB 6 = true from by decide +kernel] at h

set_option maxHeartbeats 12800000 in
theorem permits_any (a b : Int) (w : World) (hV : GViews w) (hF : GFits w) (ha : 0 ≤ a ∧ a ≤ 255) (hb : 0 ≤ b ∧ b ≤ 255) :
    Calls Tryd.prog 6 #[.int .u8 a, .int .u8 b] w fun e w' => e = .returned (.bool true) ∧ Bel w w' := by
  obtain ⟨x, hx, X⟩ := one_ex a ha.1 ha.2
  obtain ⟨y, hy, Y⟩ := one_ex b hb.1 hb.2
  replace X := Lib.hid X
  replace Y := Lib.hid Y
  have V := view_bel w hV x y
  have E := extract_bel w hV x y
  have AW := Lib.hid (awake_bel w hV hF)
  have B0 := Bel.refl w
  clear ha hb hV hF
  rcases cap_cases hx with rfl | rfl | rfl | rfl | rfl | rfl <;> rcases cap_cases hy with rfl | rfl | rfl | rfl | rfl | rfl
  · rw [show viewV 1 1 = 1 from by decide +kernel] at V
    rw [show extractV 1 1 = (1, 1, true) from by decide +kernel] at E
    replace V := Lib.hid V
    replace E := Lib.hid E
    clear hx hy
    go_enter Tryd.func6, Tryd.ntmps6
    go_wp2_with (first
          | ((with_reducible refine (X.out _).mono ?_); rintro e w' ⟨rfl, rfl⟩)
          | ((with_reducible refine (Y.out _).mono ?_); rintro e w' ⟨rfl, rfl⟩)
          | ((with_reducible refine (V.out _ B0).mono ?_); rintro e w' ⟨rfl, rfl⟩)
          | ((with_reducible refine (E.out _ B0).mono ?_); rintro e w' ⟨rfl, rfl⟩)
          | ((with_reducible refine (reads_1 _).mono ?_); rintro e w' ⟨rfl, rfl⟩)
          | ((with_reducible refine (reads_2 _).mono ?_); rintro e w' ⟨rfl, rfl⟩)
          | ((with_reducible refine (reads_3 _).mono ?_); rintro e w' ⟨rfl, rfl⟩)
          | ((with_reducible refine (reads_4 _).mono ?_); rintro e w' ⟨rfl, rfl⟩)
          | ((with_reducible refine (reads_5 _).mono ?_); rintro e w' ⟨rfl, rfl⟩)
          | ((with_reducible refine (reads_6 _).mono ?_); rintro e w' ⟨rfl, rfl⟩)
          | ((with_reducible refine (writes_1 _).mono ?_); rintro e w' ⟨rfl, rfl⟩)
          | ((with_reducible refine (writes_2 _).mono ?_); rintro e w' ⟨rfl, rfl⟩)
          | ((with_reducible refine (writes_3 _).mono ?_); rintro e w' ⟨rfl, rfl⟩)
          | ((with_reducible refine (writes_4 _).mono ?_); rintro e w' ⟨rfl, rfl⟩)
          | ((with_reducible refine (writes_5 _).mono ?_); rintro e w' ⟨rfl, rfl⟩)
          | ((with_reducible refine (writes_6 _).mono ?_); rintro e w' ⟨rfl, rfl⟩)
          | ((with_reducible refine (AW.out _ B0).mono ?_); rintro e w' ⟨rfl, B1⟩))
    go_ret
    exact ⟨rfl, by assumption⟩
  · rw [show viewV 1 2 = 6 from by decide +kernel] at V
    rw [show extractV 1 2 = (6, 0, true) from by decide +kernel] at E
    replace V := Lib.hid V
    replace E := Lib.hid E
    clear hx hy
    go_enter Tryd.func6, Tryd.ntmps6
    go_wp2_with (first
          | ((with_reducible refine (X.out _).mono ?_); rintro e w' ⟨rfl, rfl⟩)
          | ((with_reducible refine (Y.out _).mono ?_); rintro e w' ⟨rfl, rfl⟩)
          | ((with_reducible refine (V.out _ B0).mono ?_); rintro e w' ⟨rfl, rfl⟩)
          | ((with_reducible refine (E.out _ B0).mono ?_); rintro e w' ⟨rfl, rfl⟩)
          | ((with_reducible refine (reads_1 _).mono ?_); rintro e w' ⟨rfl, rfl⟩)
          | ((with_reducible refine (reads_2 _).mono ?_); rintro e w' ⟨rfl, rfl⟩)
          | ((with_reducible refine (reads_3 _).mono ?_); rintro e w' ⟨rfl, rfl⟩)
          | ((with_reducible refine (reads_4 _).mono ?_); rintro e w' ⟨rfl, rfl⟩)
          | ((with_reducible refine (reads_5 _).mono ?_); rintro e w' ⟨rfl, rfl⟩)
          | ((with_reducible refine (reads_6 _).mono ?_); rintro e w' ⟨rfl, rfl⟩)
          | ((with_reducible refine (writes_1 _).mono ?_); rintro e w' ⟨rfl, rfl⟩)
          | ((with_reducible refine (writes_2 _).mono ?_); rintro e w' ⟨rfl, rfl⟩)
          | ((with_reducible refine (writes_3 _).mono ?_); rintro e w' ⟨rfl, rfl⟩)
          | ((with_reducible refine (writes_4 _).mono ?_); rintro e w' ⟨rfl, rfl⟩)
          | ((with_reducible refine (writes_5 _).mono ?_); rintro e w' ⟨rfl, rfl⟩)
          | ((with_reducible refine (writes_6 _).mono ?_); rintro e w' ⟨rfl, rfl⟩)
          | ((with_reducible refine (AW.out _ B0).mono ?_); rintro e w' ⟨rfl, B1⟩))
    go_ret
    exact ⟨rfl, by assumption⟩
  · rw [show viewV 1 3 = 6 from by decide +kernel] at V
    rw [show extractV 1 3 = (6, 0, true) from by decide +kernel] at E
    replace V := Lib.hid V
    replace E := Lib.hid E
    clear hx hy
    go_enter Tryd.func6, Tryd.ntmps6
    go_wp2_with (first
          | ((with_reducible refine (X.out _).mono ?_); rintro e w' ⟨rfl, rfl⟩)
          | ((with_reducible refine (Y.out _).mono ?_); rintro e w' ⟨rfl, rfl⟩)
          | ((with_reducible refine (V.out _ B0).mono ?_); rintro e w' ⟨rfl, rfl⟩)
          | ((with_reducible refine (E.out _ B0).mono ?_); rintro e w' ⟨rfl, rfl⟩)
          | ((with_reducible refine (reads_1 _).mono ?_); rintro e w' ⟨rfl, rfl⟩)
          | ((with_reducible refine (reads_2 _).mono ?_); rintro e w' ⟨rfl, rfl⟩)
          | ((with_reducible refine (reads_3 _).mono ?_); rintro e w' ⟨rfl, rfl⟩)
          | ((with_reducible refine (reads_4 _).mono ?_); rintro e w' ⟨rfl, rfl⟩)
          | ((with_reducible refine (reads_5 _).mono ?_); rintro e w' ⟨rfl, rfl⟩)
          | ((with_reducible refine (reads_6 _).mono ?_); rintro e w' ⟨rfl, rfl⟩)
          | ((with_reducible refine (writes_1 _).mono ?_); rintro e w' ⟨rfl, rfl⟩)
          | ((with_reducible refine (writes_2 _).mono ?_); rintro e w' ⟨rfl, rfl⟩)
          | ((with_reducible refine (writes_3 _).mono ?_); rintro e w' ⟨rfl, rfl⟩)
          | ((with_reducible refine (writes_4 _).mono ?_); rintro e w' ⟨rfl, rfl⟩)
          | ((with_reducible refine (writes_5 _).mono ?_); rintro e w' ⟨rfl, rfl⟩)
          | ((with_reducible refine (writes_6 _).mono ?_); rintro e w' ⟨rfl, rfl⟩)
          | ((with_reducible refine (AW.out _ B0).mono ?_); rintro e w' ⟨rfl, B1⟩))
    go_ret
    exact ⟨rfl, by assumption⟩
  · rw [show viewV 1 4 = 4 from by decide +kernel] at V
    rw [show extractV 1 4 = (4, 0, true) from by decide +kernel] at E
    replace V := Lib.hid V
    replace E := Lib.hid E
    clear hx hy
    go_enter Tryd.func6, Tryd.ntmps6
    go_wp2_with (first
          | ((with_reducible refine (X.out _).mono ?_); rintro e w' ⟨rfl, rfl⟩)
          | ((with_reducible refine (Y.out _).mono ?_); rintro e w' ⟨rfl, rfl⟩)
          | ((with_reducible refine (V.out _ B0).mono ?_); rintro e w' ⟨rfl, rfl⟩)
          | ((with_reducible refine (E.out _ B0).mono ?_); rintro e w' ⟨rfl, rfl⟩)
          | ((with_reducible refine (reads_1 _).mono ?_); rintro e w' ⟨rfl, rfl⟩)
          | ((with_reducible refine (reads_2 _).mono ?_); rintro e w' ⟨rfl, rfl⟩)
          | ((with_reducible refine (reads_3 _).mono ?_); rintro e w' ⟨rfl, rfl⟩)
          | ((with_reducible refine (reads_4 _).mono ?_); rintro e w' ⟨rfl, rfl⟩)
          | ((with_reducible refine (reads_5 _).mono ?_); rintro e w' ⟨rfl, rfl⟩)
          | ((with_reducible refine (reads_6 _).mono ?_); rintro e w' ⟨rfl, rfl⟩)
          | ((with_reducible refine (writes_1 _).mono ?_); rintro e w' ⟨rfl, rfl⟩)
          | ((with_reducible refine (writes_2 _).mono ?_); rintro e w' ⟨rfl, rfl⟩)
          | ((with_reducible refine (writes_3 _).mono ?_); rintro e w' ⟨rfl, rfl⟩)
          | ((with_reducible refine (writes_4 _).mono ?_); rintro e w' ⟨rfl, rfl⟩)
          | ((with_reducible refine (writes_5 _).mono ?_); rintro e w' ⟨rfl, rfl⟩)
          | ((with_reducible refine (writes_6 _).mono ?_); rintro e w' ⟨rfl, rfl⟩)
          | ((with_reducible refine (AW.out _ B0).mono ?_); rintro e w' ⟨rfl, B1⟩))
    go_ret
    exact ⟨rfl, by assumption⟩
  · rw [show viewV 1 5 = 6 from by decide +kernel] at V
    rw [show extractV 1 5 = (6, 0, true) from by decide +kernel] at E
    replace V := Lib.hid V
    replace E := Lib.hid E
    clear hx hy
    go_enter Tryd.func6, Tryd.ntmps6
    go_wp2_with (first
          | ((with_reducible refine (X.out _).mono ?_); rintro e w' ⟨rfl, rfl⟩)
          | ((with_reducible refine (Y.out _).mono ?_); rintro e w' ⟨rfl, rfl⟩)
          | ((with_reducible refine (V.out _ B0).mono ?_); rintro e w' ⟨rfl, rfl⟩)
          | ((with_reducible refine (E.out _ B0).mono ?_); rintro e w' ⟨rfl, rfl⟩)
          | ((with_reducible refine (reads_1 _).mono ?_); rintro e w' ⟨rfl, rfl⟩)
          | ((with_reducible refine (reads_2 _).mono ?_); rintro e w' ⟨rfl, rfl⟩)
          | ((with_reducible refine (reads_3 _).mono ?_); rintro e w' ⟨rfl, rfl⟩)
          | ((with_reducible refine (reads_4 _).mono ?_); rintro e w' ⟨rfl, rfl⟩)
          | ((with_reducible refine (reads_5 _).mono ?_); rintro e w' ⟨rfl, rfl⟩)
          | ((with_reducible refine (reads_6 _).mono ?_); rintro e w' ⟨rfl, rfl⟩)
          | ((with_reducible refine (writes_1 _).mono ?_); rintro e w' ⟨rfl, rfl⟩)
          | ((with_reducible refine (writes_2 _).mono ?_); rintro e w' ⟨rfl, rfl⟩)
          | ((with_reducible refine (writes_3 _).mono ?_); rintro e w' ⟨rfl, rfl⟩)
          | ((with_reducible refine (writes_4 _).mono ?_); rintro e w' ⟨rfl, rfl⟩)
          | ((with_reducible refine (writes_5 _).mono ?_); rintro e w' ⟨rfl, rfl⟩)
          | ((with_reducible refine (writes_6 _).mono ?_); rintro e w' ⟨rfl, rfl⟩)
          | ((with_reducible refine (AW.out _ B0).mono ?_); rintro e w' ⟨rfl, B1⟩))
    go_ret
    exact ⟨rfl, by assumption⟩
  · rw [show viewV 1 6 = 6 from by decide +kernel] at V
    rw [show extractV 1 6 = (6, 0, true) from by decide +kernel] at E
    replace V := Lib.hid V
    replace E := Lib.hid E
    clear hx hy
    go_enter Tryd.func6, Tryd.ntmps6
    go_wp2_with (first
          | ((with_reducible refine (X.out _).mono ?_); rintro e w' ⟨rfl, rfl⟩)
          | ((with_reducible refine (Y.out _).mono ?_); rintro e w' ⟨rfl, rfl⟩)
          | ((with_reducible refine (V.out _ B0).mono ?_); rintro e w' ⟨rfl, rfl⟩)
          | ((with_reducible refine (E.out _ B0).mono ?_); rintro e w' ⟨rfl, rfl⟩)
          | ((with_reducible refine (reads_1 _).mono ?_); rintro e w' ⟨rfl, rfl⟩)
          | ((with_reducible refine (reads_2 _).mono ?_); rintro e w' ⟨rfl, rfl⟩)
          | ((with_reducible refine (reads_3 _).mono ?_); rintro e w' ⟨rfl, rfl⟩)
          | ((with_reducible refine (reads_4 _).mono ?_); rintro e w' ⟨rfl, rfl⟩)
          | ((with_reducible refine (reads_5 _).mono ?_); rintro e w' ⟨rfl, rfl⟩)
          | ((with_reducible refine (reads_6 _).mono ?_); rintro e w' ⟨rfl, rfl⟩)
          | ((with_reducible refine (writes_1 _).mono ?_); rintro e w' ⟨rfl, rfl⟩)
          | ((with_reducible refine (writes_2 _).mono ?_); rintro e w' ⟨rfl, rfl⟩)
          | ((with_reducible refine (writes_3 _).mono ?_); rintro e w' ⟨rfl, rfl⟩)
          | ((with_reducible refine (writes_4 _).mono ?_); rintro e w' ⟨rfl, rfl⟩)
          | ((with_reducible refine (writes_5 _).mono ?_); rintro e w' ⟨rfl, rfl⟩)
          | ((with_reducible refine (writes_6 _).mono ?_); rintro e w' ⟨rfl, rfl⟩)
          | ((with_reducible refine (AW.out _ B0).mono ?_); rintro e w' ⟨rfl, B1⟩))
    go_ret
    exact ⟨rfl, by assumption⟩
  · rw [show viewV 2 1 = 1 from by decide +kernel] at V
    rw [show extractV 2 1 = (1, 1, true) from by decide +kernel] at E
    replace V := Lib.hid V
    replace E := Lib.hid E
    clear hx hy
    go_enter Tryd.func6, Tryd.ntmps6
    go_wp2_with (first
          | ((with_reducible refine (X.out _).mono ?_); rintro e w' ⟨rfl, rfl⟩)
          | ((with_reducible refine (Y.out _).mono ?_); rintro e w' ⟨rfl, rfl⟩)
          | ((with_reducible refine (V.out _ B0).mono ?_); rintro e w' ⟨rfl, rfl⟩)
          | ((with_reducible refine (E.out _ B0).mono ?_); rintro e w' ⟨rfl, rfl⟩)
          | ((with_reducible refine (reads_1 _).mono ?_); rintro e w' ⟨rfl, rfl⟩)
          | ((with_reducible refine (reads_2 _).mono ?_); rintro e w' ⟨rfl, rfl⟩)
          | ((with_reducible refine (reads_3 _).mono ?_); rintro e w' ⟨rfl, rfl⟩)
          | ((with_reducible refine (reads_4 _).mono ?_); rintro e w' ⟨rfl, rfl⟩)
          | ((with_reducible refine (reads_5 _).mono ?_); rintro e w' ⟨rfl, rfl⟩)
          | ((with_reducible refine (reads_6 _).mono ?_); rintro e w' ⟨rfl, rfl⟩)
          | ((with_reducible refine (writes_1 _).mono ?_); rintro e w' ⟨rfl, rfl⟩)
          | ((with_reducible refine (writes_2 _).mono ?_); rintro e w' ⟨rfl, rfl⟩)
          | ((with_reducible refine (writes_3 _).mono ?_); rintro e w' ⟨rfl, rfl⟩)
          | ((with_reducible refine (writes_4 _).mono ?_); rintro e w' ⟨rfl, rfl⟩)
          | ((with_reducible refine (writes_5 _).mono ?_); rintro e w' ⟨rfl, rfl⟩)
          | ((with_reducible refine (writes_6 _).mono ?_); rintro e w' ⟨rfl, rfl⟩)
          | ((with_reducible refine (AW.out _ B0).mono ?_); rintro e w' ⟨rfl, B1⟩))
    go_ret
    exact ⟨rfl, by assumption⟩
  · rw [show viewV 2 2 = 2 from by decide +kernel] at V
    rw [show extractV 2 2 = (5, 0, true) from by decide +kernel] at E
    replace V := Lib.hid V
    replace E := Lib.hid E
    clear hx hy
    go_enter Tryd.func6, Tryd.ntmps6
    go_wp2_with (first
          | ((with_reducible refine (X.out _).mono ?_); rintro e w' ⟨rfl, rfl⟩)
          | ((with_reducible refine (Y.out _).mono ?_); rintro e w' ⟨rfl, rfl⟩)
          | ((with_reducible refine (V.out _ B0).mono ?_); rintro e w' ⟨rfl, rfl⟩)
          | ((with_reducible refine (E.out _ B0).mono ?_); rintro e w' ⟨rfl, rfl⟩)
          | ((with_reducible refine (reads_1 _).mono ?_); rintro e w' ⟨rfl, rfl⟩)
          | ((with_reducible refine (reads_2 _).mono ?_); rintro e w' ⟨rfl, rfl⟩)
          | ((with_reducible refine (reads_3 _).mono ?_); rintro e w' ⟨rfl, rfl⟩)
          | ((with_reducible refine (reads_4 _).mono ?_); rintro e w' ⟨rfl, rfl⟩)
          | ((with_reducible refine (reads_5 _).mono ?_); rintro e w' ⟨rfl, rfl⟩)
          | ((with_reducible refine (reads_6 _).mono ?_); rintro e w' ⟨rfl, rfl⟩)
          | ((with_reducible refine (writes_1 _).mono ?_); rintro e w' ⟨rfl, rfl⟩)
          | ((with_reducible refine (writes_2 _).mono ?_); rintro e w' ⟨rfl, rfl⟩)
          | ((with_reducible refine (writes_3 _).mono ?_); rintro e w' ⟨rfl, rfl⟩)
          | ((with_reducible refine (writes_4 _).mono ?_); rintro e w' ⟨rfl, rfl⟩)
          | ((with_reducible refine (writes_5 _).mono ?_); rintro e w' ⟨rfl, rfl⟩)
          | ((with_reducible refine (writes_6 _).mono ?_); rintro e w' ⟨rfl, rfl⟩)
          | ((with_reducible refine (AW.out _ B0).mono ?_); rintro e w' ⟨rfl, B1⟩))
    go_ret
    exact ⟨rfl, by assumption⟩
  · rw [show viewV 2 3 = 5 from by decide +kernel] at V
    rw [show extractV 2 3 = (5, 0, true) from by decide +kernel] at E
    replace V := Lib.hid V
    replace E := Lib.hid E
    clear hx hy
    go_enter Tryd.func6, Tryd.ntmps6
    go_wp2_with (first
          | ((with_reducible refine (X.out _).mono ?_); rintro e w' ⟨rfl, rfl⟩)
          | ((with_reducible refine (Y.out _).mono ?_); rintro e w' ⟨rfl, rfl⟩)
          | ((with_reducible refine (V.out _ B0).mono ?_); rintro e w' ⟨rfl, rfl⟩)
          | ((with_reducible refine (E.out _ B0).mono ?_); rintro e w' ⟨rfl, rfl⟩)
          | ((with_reducible refine (reads_1 _).mono ?_); rintro e w' ⟨rfl, rfl⟩)
          | ((with_reducible refine (reads_2 _).mono ?_); rintro e w' ⟨rfl, rfl⟩)
          | ((with_reducible refine (reads_3 _).mono ?_); rintro e w' ⟨rfl, rfl⟩)
          | ((with_reducible refine (reads_4 _).mono ?_); rintro e w' ⟨rfl, rfl⟩)
          | ((with_reducible refine (reads_5 _).mono ?_); rintro e w' ⟨rfl, rfl⟩)
          | ((with_reducible refine (reads_6 _).mono ?_); rintro e w' ⟨rfl, rfl⟩)
          | ((with_reducible refine (writes_1 _).mono ?_); rintro e w' ⟨rfl, rfl⟩)
          | ((with_reducible refine (writes_2 _).mono ?_); rintro e w' ⟨rfl, rfl⟩)
          | ((with_reducible refine (writes_3 _).mono ?_); rintro e w' ⟨rfl, rfl⟩)
          | ((with_reducible refine (writes_4 _).mono ?_); rintro e w' ⟨rfl, rfl⟩)
          | ((with_reducible refine (writes_5 _).mono ?_); rintro e w' ⟨rfl, rfl⟩)
          | ((with_reducible refine (writes_6 _).mono ?_); rintro e w' ⟨rfl, rfl⟩)
          | ((with_reducible refine (AW.out _ B0).mono ?_); rintro e w' ⟨rfl, B1⟩))
    go_ret
    exact ⟨rfl, by assumption⟩
  · rw [show viewV 2 4 = 4 from by decide +kernel] at V
    rw [show extractV 2 4 = (4, 0, true) from by decide +kernel] at E
    replace V := Lib.hid V
    replace E := Lib.hid E
    clear hx hy
    go_enter Tryd.func6, Tryd.ntmps6
    go_wp2_with (first
          | ((with_reducible refine (X.out _).mono ?_); rintro e w' ⟨rfl, rfl⟩)
          | ((with_reducible refine (Y.out _).mono ?_); rintro e w' ⟨rfl, rfl⟩)
          | ((with_reducible refine (V.out _ B0).mono ?_); rintro e w' ⟨rfl, rfl⟩)
          | ((with_reducible refine (E.out _ B0).mono ?_); rintro e w' ⟨rfl, rfl⟩)
          | ((with_reducible refine (reads_1 _).mono ?_); rintro e w' ⟨rfl, rfl⟩)
          | ((with_reducible refine (reads_2 _).mono ?_); rintro e w' ⟨rfl, rfl⟩)
          | ((with_reducible refine (reads_3 _).mono ?_); rintro e w' ⟨rfl, rfl⟩)
          | ((with_reducible refine (reads_4 _).mono ?_); rintro e w' ⟨rfl, rfl⟩)
          | ((with_reducible refine (reads_5 _).mono ?_); rintro e w' ⟨rfl, rfl⟩)
          | ((with_reducible refine (reads_6 _).mono ?_); rintro e w' ⟨rfl, rfl⟩)
          | ((with_reducible refine (writes_1 _).mono ?_); rintro e w' ⟨rfl, rfl⟩)
          | ((with_reducible refine (writes_2 _).mono ?_); rintro e w' ⟨rfl, rfl⟩)
          | ((with_reducible refine (writes_3 _).mono ?_); rintro e w' ⟨rfl, rfl⟩)
          | ((with_reducible refine (writes_4 _).mono ?_); rintro e w' ⟨rfl, rfl⟩)
          | ((with_reducible refine (writes_5 _).mono ?_); rintro e w' ⟨rfl, rfl⟩)
          | ((with_reducible refine (writes_6 _).mono ?_); rintro e w' ⟨rfl, rfl⟩)
          | ((with_reducible refine (AW.out _ B0).mono ?_); rintro e w' ⟨rfl, B1⟩))
    go_ret
    exact ⟨rfl, by assumption⟩
  · rw [show viewV 2 5 = 5 from by decide +kernel] at V
    rw [show extractV 2 5 = (5, 0, true) from by decide +kernel] at E
    replace V := Lib.hid V
    replace E := Lib.hid E
    clear hx hy
    go_enter Tryd.func6, Tryd.ntmps6
    go_wp2_with (first
          | ((with_reducible refine (X.out _).mono ?_); rintro e w' ⟨rfl, rfl⟩)
          | ((with_reducible refine (Y.out _).mono ?_); rintro e w' ⟨rfl, rfl⟩)
          | ((with_reducible refine (V.out _ B0).mono ?_); rintro e w' ⟨rfl, rfl⟩)
          | ((with_reducible refine (E.out _ B0).mono ?_); rintro e w' ⟨rfl, rfl⟩)
          | ((with_reducible refine (reads_1 _).mono ?_); rintro e w' ⟨rfl, rfl⟩)
          | ((with_reducible refine (reads_2 _).mono ?_); rintro e w' ⟨rfl, rfl⟩)
          | ((with_reducible refine (reads_3 _).mono ?_); rintro e w' ⟨rfl, rfl⟩)
          | ((with_reducible refine (reads_4 _).mono ?_); rintro e w' ⟨rfl, rfl⟩)
          | ((with_reducible refine (reads_5 _).mono ?_); rintro e w' ⟨rfl, rfl⟩)
          | ((with_reducible refine (reads_6 _).mono ?_); rintro e w' ⟨rfl, rfl⟩)
          | ((with_reducible refine (writes_1 _).mono ?_); rintro e w' ⟨rfl, rfl⟩)
          | ((with_reducible refine (writes_2 _).mono ?_); rintro e w' ⟨rfl, rfl⟩)
          | ((with_reducible refine (writes_3 _).mono ?_); rintro e w' ⟨rfl, rfl⟩)
          | ((with_reducible refine (writes_4 _).mono ?_); rintro e w' ⟨rfl, rfl⟩)
          | ((with_reducible refine (writes_5 _).mono ?_); rintro e w' ⟨rfl, rfl⟩)
          | ((with_reducible refine (writes_6 _).mono ?_); rintro e w' ⟨rfl, rfl⟩)
          | ((with_reducible refine (AW.out _ B0).mono ?_); rintro e w' ⟨rfl, B1⟩))
    go_ret
    exact ⟨rfl, by assumption⟩
  · rw [show viewV 2 6 = 6 from by decide +kernel] at V
    rw [show extractV 2 6 = (6, 0, true) from by decide +kernel] at E
    replace V := Lib.hid V
    replace E := Lib.hid E
    clear hx hy
    go_enter Tryd.func6, Tryd.ntmps6
    go_wp2_with (first
          | ((with_reducible refine (X.out _).mono ?_); rintro e w' ⟨rfl, rfl⟩)
          | ((with_reducible refine (Y.out _).mono ?_); rintro e w' ⟨rfl, rfl⟩)
          | ((with_reducible refine (V.out _ B0).mono ?_); rintro e w' ⟨rfl, rfl⟩)
          | ((with_reducible refine (E.out _ B0).mono ?_); rintro e w' ⟨rfl, rfl⟩)
          | ((with_reducible refine (reads_1 _).mono ?_); rintro e w' ⟨rfl, rfl⟩)
          | ((with_reducible refine (reads_2 _).mono ?_); rintro e w' ⟨rfl, rfl⟩)
          | ((with_reducible refine (reads_3 _).mono ?_); rintro e w' ⟨rfl, rfl⟩)
          | ((with_reducible refine (reads_4 _).mono ?_); rintro e w' ⟨rfl, rfl⟩)
          | ((with_reducible refine (reads_5 _).mono ?_); rintro e w' ⟨rfl, rfl⟩)
          | ((with_reducible refine (reads_6 _).mono ?_); rintro e w' ⟨rfl, rfl⟩)
          | ((with_reducible refine (writes_1 _).mono ?_); rintro e w' ⟨rfl, rfl⟩)
          | ((with_reducible refine (writes_2 _).mono ?_); rintro e w' ⟨rfl, rfl⟩)
          | ((with_reducible refine (writes_3 _).mono ?_); rintro e w' ⟨rfl, rfl⟩)
          | ((with_reducible refine (writes_4 _).mono ?_); rintro e w' ⟨rfl, rfl⟩)
          | ((with_reducible refine (writes_5 _).mono ?_); rintro e w' ⟨rfl, rfl⟩)
          | ((with_reducible refine (writes_6 _).mono ?_); rintro e w' ⟨rfl, rfl⟩)
          | ((with_reducible refine (AW.out _ B0).mono ?_); rintro e w' ⟨rfl, B1⟩))
    go_ret
    exact ⟨rfl, by assumption⟩
  · rw [show viewV 3 1 = 1 from by decide +kernel] at V
    rw [show extractV 3 1 = (1, 1, true) from by decide +kernel] at E
    replace V := Lib.hid V
    replace E := Lib.hid E
    clear hx hy
    go_enter Tryd.func6, Tryd.ntmps6
    go_wp2_with (first
          | ((with_reducible refine (X.out _).mono ?_); rintro e w' ⟨rfl, rfl⟩)
          | ((with_reducible refine (Y.out _).mono ?_); rintro e w' ⟨rfl, rfl⟩)
          | ((with_reducible refine (V.out _ B0).mono ?_); rintro e w' ⟨rfl, rfl⟩)
          | ((with_reducible refine (E.out _ B0).mono ?_); rintro e w' ⟨rfl, rfl⟩)
          | ((with_reducible refine (reads_1 _).mono ?_); rintro e w' ⟨rfl, rfl⟩)
          | ((with_reducible refine (reads_2 _).mono ?_); rintro e w' ⟨rfl, rfl⟩)
          | ((with_reducible refine (reads_3 _).mono ?_); rintro e w' ⟨rfl, rfl⟩)
          | ((with_reducible refine (reads_4 _).mono ?_); rintro e w' ⟨rfl, rfl⟩)
          | ((with_reducible refine (reads_5 _).mono ?_); rintro e w' ⟨rfl, rfl⟩)
          | ((with_reducible refine (reads_6 _).mono ?_); rintro e w' ⟨rfl, rfl⟩)
          | ((with_reducible refine (writes_1 _).mono ?_); rintro e w' ⟨rfl, rfl⟩)
          | ((with_reducible refine (writes_2 _).mono ?_); rintro e w' ⟨rfl, rfl⟩)
          | ((with_reducible refine (writes_3 _).mono ?_); rintro e w' ⟨rfl, rfl⟩)
          | ((with_reducible refine (writes_4 _).mono ?_); rintro e w' ⟨rfl, rfl⟩)
          | ((with_reducible refine (writes_5 _).mono ?_); rintro e w' ⟨rfl, rfl⟩)
          | ((with_reducible refine (writes_6 _).mono ?_); rintro e w' ⟨rfl, rfl⟩)
          | ((with_reducible refine (AW.out _ B0).mono ?_); rintro e w' ⟨rfl, B1⟩))
    go_ret
    exact ⟨rfl, by assumption⟩
  · rw [show viewV 3 2 = 2 from by decide +kernel] at V
    rw [show extractV 3 2 = (2, 1, true) from by decide +kernel] at E
    replace V := Lib.hid V
    replace E := Lib.hid E
    clear hx hy
    go_enter Tryd.func6, Tryd.ntmps6
    go_wp2_with (first
          | ((with_reducible refine (X.out _).mono ?_); rintro e w' ⟨rfl, rfl⟩)
          | ((with_reducible refine (Y.out _).mono ?_); rintro e w' ⟨rfl, rfl⟩)
          | ((with_reducible refine (V.out _ B0).mono ?_); rintro e w' ⟨rfl, rfl⟩)
          | ((with_reducible refine (E.out _ B0).mono ?_); rintro e w' ⟨rfl, rfl⟩)
          | ((with_reducible refine (reads_1 _).mono ?_); rintro e w' ⟨rfl, rfl⟩)
          | ((with_reducible refine (reads_2 _).mono ?_); rintro e w' ⟨rfl, rfl⟩)
          | ((with_reducible refine (reads_3 _).mono ?_); rintro e w' ⟨rfl, rfl⟩)
          | ((with_reducible refine (reads_4 _).mono ?_); rintro e w' ⟨rfl, rfl⟩)
          | ((with_reducible refine (reads_5 _).mono ?_); rintro e w' ⟨rfl, rfl⟩)
          | ((with_reducible refine (reads_6 _).mono ?_); rintro e w' ⟨rfl, rfl⟩)
          | ((with_reducible refine (writes_1 _).mono ?_); rintro e w' ⟨rfl, rfl⟩)
          | ((with_reducible refine (writes_2 _).mono ?_); rintro e w' ⟨rfl, rfl⟩)
          | ((with_reducible refine (writes_3 _).mono ?_); rintro e w' ⟨rfl, rfl⟩)
          | ((with_reducible refine (writes_4 _).mono ?_); rintro e w' ⟨rfl, rfl⟩)
          | ((with_reducible refine (writes_5 _).mono ?_); rintro e w' ⟨rfl, rfl⟩)
          | ((with_reducible refine (writes_6 _).mono ?_); rintro e w' ⟨rfl, rfl⟩)
          | ((with_reducible refine (AW.out _ B0).mono ?_); rintro e w' ⟨rfl, B1⟩))
    go_ret
    exact ⟨rfl, by assumption⟩
  · rw [show viewV 3 3 = 3 from by decide +kernel] at V
    rw [show extractV 3 3 = (3, 0, true) from by decide +kernel] at E
    replace V := Lib.hid V
    replace E := Lib.hid E
    clear hx hy
    go_enter Tryd.func6, Tryd.ntmps6
    go_wp2_with (first
          | ((with_reducible refine (X.out _).mono ?_); rintro e w' ⟨rfl, rfl⟩)
          | ((with_reducible refine (Y.out _).mono ?_); rintro e w' ⟨rfl, rfl⟩)
          | ((with_reducible refine (V.out _ B0).mono ?_); rintro e w' ⟨rfl, rfl⟩)
          | ((with_reducible refine (E.out _ B0).mono ?_); rintro e w' ⟨rfl, rfl⟩)
          | ((with_reducible refine (reads_1 _).mono ?_); rintro e w' ⟨rfl, rfl⟩)
          | ((with_reducible refine (reads_2 _).mono ?_); rintro e w' ⟨rfl, rfl⟩)
          | ((with_reducible refine (reads_3 _).mono ?_); rintro e w' ⟨rfl, rfl⟩)
          | ((with_reducible refine (reads_4 _).mono ?_); rintro e w' ⟨rfl, rfl⟩)
          | ((with_reducible refine (reads_5 _).mono ?_); rintro e w' ⟨rfl, rfl⟩)
          | ((with_reducible refine (reads_6 _).mono ?_); rintro e w' ⟨rfl, rfl⟩)
          | ((with_reducible refine (writes_1 _).mono ?_); rintro e w' ⟨rfl, rfl⟩)
          | ((with_reducible refine (writes_2 _).mono ?_); rintro e w' ⟨rfl, rfl⟩)
          | ((with_reducible refine (writes_3 _).mono ?_); rintro e w' ⟨rfl, rfl⟩)
          | ((with_reducible refine (writes_4 _).mono ?_); rintro e w' ⟨rfl, rfl⟩)
          | ((with_reducible refine (writes_5 _).mono ?_); rintro e w' ⟨rfl, rfl⟩)
          | ((with_reducible refine (writes_6 _).mono ?_); rintro e w' ⟨rfl, rfl⟩)
          | ((with_reducible refine (AW.out _ B0).mono ?_); rintro e w' ⟨rfl, B1⟩))
    go_ret
    exact ⟨rfl, by assumption⟩
  · rw [show viewV 3 4 = 4 from by decide +kernel] at V
    rw [show extractV 3 4 = (4, 0, true) from by decide +kernel] at E
    replace V := Lib.hid V
    replace E := Lib.hid E
    clear hx hy
    go_enter Tryd.func6, Tryd.ntmps6
    go_wp2_with (first
          | ((with_reducible refine (X.out _).mono ?_); rintro e w' ⟨rfl, rfl⟩)
          | ((with_reducible refine (Y.out _).mono ?_); rintro e w' ⟨rfl, rfl⟩)
          | ((with_reducible refine (V.out _ B0).mono ?_); rintro e w' ⟨rfl, rfl⟩)
          | ((with_reducible refine (E.out _ B0).mono ?_); rintro e w' ⟨rfl, rfl⟩)
          | ((with_reducible refine (reads_1 _).mono ?_); rintro e w' ⟨rfl, rfl⟩)
          | ((with_reducible refine (reads_2 _).mono ?_); rintro e w' ⟨rfl, rfl⟩)
          | ((with_reducible refine (reads_3 _).mono ?_); rintro e w' ⟨rfl, rfl⟩)
          | ((with_reducible refine (reads_4 _).mono ?_); rintro e w' ⟨rfl, rfl⟩)
          | ((with_reducible refine (reads_5 _).mono ?_); rintro e w' ⟨rfl, rfl⟩)
          | ((with_reducible refine (reads_6 _).mono ?_); rintro e w' ⟨rfl, rfl⟩)
          | ((with_reducible refine (writes_1 _).mono ?_); rintro e w' ⟨rfl, rfl⟩)
          | ((with_reducible refine (writes_2 _).mono ?_); rintro e w' ⟨rfl, rfl⟩)
          | ((with_reducible refine (writes_3 _).mono ?_); rintro e w' ⟨rfl, rfl⟩)
          | ((with_reducible refine (writes_4 _).mono ?_); rintro e w' ⟨rfl, rfl⟩)
          | ((with_reducible refine (writes_5 _).mono ?_); rintro e w' ⟨rfl, rfl⟩)
          | ((with_reducible refine (writes_6 _).mono ?_); rintro e w' ⟨rfl, rfl⟩)
          | ((with_reducible refine (AW.out _ B0).mono ?_); rintro e w' ⟨rfl, B1⟩))
    go_ret
    exact ⟨rfl, by assumption⟩
  · rw [show viewV 3 5 = 5 from by decide +kernel] at V
    rw [show extractV 3 5 = (5, 0, true) from by decide +kernel] at E
    replace V := Lib.hid V
    replace E := Lib.hid E
    clear hx hy
    go_enter Tryd.func6, Tryd.ntmps6
    go_wp2_with (first
          | ((with_reducible refine (X.out _).mono ?_); rintro e w' ⟨rfl, rfl⟩)
          | ((with_reducible refine (Y.out _).mono ?_); rintro e w' ⟨rfl, rfl⟩)
          | ((with_reducible refine (V.out _ B0).mono ?_); rintro e w' ⟨rfl, rfl⟩)
          | ((with_reducible refine (E.out _ B0).mono ?_); rintro e w' ⟨rfl, rfl⟩)
          | ((with_reducible refine (reads_1 _).mono ?_); rintro e w' ⟨rfl, rfl⟩)
          | ((with_reducible refine (reads_2 _).mono ?_); rintro e w' ⟨rfl, rfl⟩)
          | ((with_reducible refine (reads_3 _).mono ?_); rintro e w' ⟨rfl, rfl⟩)
          | ((with_reducible refine (reads_4 _).mono ?_); rintro e w' ⟨rfl, rfl⟩)
          | ((with_reducible refine (reads_5 _).mono ?_); rintro e w' ⟨rfl, rfl⟩)
          | ((with_reducible refine (reads_6 _).mono ?_); rintro e w' ⟨rfl, rfl⟩)
          | ((with_reducible refine (writes_1 _).mono ?_); rintro e w' ⟨rfl, rfl⟩)
          | ((with_reducible refine (writes_2 _).mono ?_); rintro e w' ⟨rfl, rfl⟩)
          | ((with_reducible refine (writes_3 _).mono ?_); rintro e w' ⟨rfl, rfl⟩)
          | ((with_reducible refine (writes_4 _).mono ?_); rintro e w' ⟨rfl, rfl⟩)
          | ((with_reducible refine (writes_5 _).mono ?_); rintro e w' ⟨rfl, rfl⟩)
          | ((with_reducible refine (writes_6 _).mono ?_); rintro e w' ⟨rfl, rfl⟩)
          | ((with_reducible refine (AW.out _ B0).mono ?_); rintro e w' ⟨rfl, B1⟩))
    go_ret
    exact ⟨rfl, by assumption⟩
  · rw [show viewV 3 6 = 6 from by decide +kernel] at V
    rw [show extractV 3 6 = (6, 0, true) from by decide +kernel] at E
    replace V := Lib.hid V
    replace E := Lib.hid E
    clear hx hy
    go_enter Tryd.func6, Tryd.ntmps6
    go_wp2_with (first
          | ((with_reducible refine (X.out _).mono ?_); rintro e w' ⟨rfl, rfl⟩)
          | ((with_reducible refine (Y.out _).mono ?_); rintro e w' ⟨rfl, rfl⟩)
          | ((with_reducible refine (V.out _ B0).mono ?_); rintro e w' ⟨rfl, rfl⟩)
          | ((with_reducible refine (E.out _ B0).mono ?_); rintro e w' ⟨rfl, rfl⟩)
          | ((with_reducible refine (reads_1 _).mono ?_); rintro e w' ⟨rfl, rfl⟩)
          | ((with_reducible refine (reads_2 _).mono ?_); rintro e w' ⟨rfl, rfl⟩)
          | ((with_reducible refine (reads_3 _).mono ?_); rintro e w' ⟨rfl, rfl⟩)
          | ((with_reducible refine (reads_4 _).mono ?_); rintro e w' ⟨rfl, rfl⟩)
          | ((with_reducible refine (reads_5 _).mono ?_); rintro e w' ⟨rfl, rfl⟩)
          | ((with_reducible refine (reads_6 _).mono ?_); rintro e w' ⟨rfl, rfl⟩)
          | ((with_reducible refine (writes_1 _).mono ?_); rintro e w' ⟨rfl, rfl⟩)
          | ((with_reducible refine (writes_2 _).mono ?_); rintro e w' ⟨rfl, rfl⟩)
          | ((with_reducible refine (writes_3 _).mono ?_); rintro e w' ⟨rfl, rfl⟩)
          | ((with_reducible refine (writes_4 _).mono ?_); rintro e w' ⟨rfl, rfl⟩)
          | ((with_reducible refine (writes_5 _).mono ?_); rintro e w' ⟨rfl, rfl⟩)
          | ((with_reducible refine (writes_6 _).mono ?_); rintro e w' ⟨rfl, rfl⟩)
          | ((with_reducible refine (AW.out _ B0).mono ?_); rintro e w' ⟨rfl, B1⟩))
    go_ret
    exact ⟨rfl, by assumption⟩
  · rw [show viewV 4 1 = 4 from by decide +kernel] at V
    rw [show extractV 4 1 = (0, 0, false) from by decide +kernel] at E
    replace V := Lib.hid V
    replace E := Lib.hid E
    clear hx hy
    go_enter Tryd.func6, Tryd.ntmps6
    go_wp2_with (first
          | ((with_reducible refine (X.out _).mono ?_); rintro e w' ⟨rfl, rfl⟩)
          | ((with_reducible refine (Y.out _).mono ?_); rintro e w' ⟨rfl, rfl⟩)
          | ((with_reducible refine (V.out _ B0).mono ?_); rintro e w' ⟨rfl, rfl⟩)
          | ((with_reducible refine (E.out _ B0).mono ?_); rintro e w' ⟨rfl, rfl⟩)
          | ((with_reducible refine (reads_1 _).mono ?_); rintro e w' ⟨rfl, rfl⟩)
          | ((with_reducible refine (reads_2 _).mono ?_); rintro e w' ⟨rfl, rfl⟩)
          | ((with_reducible refine (reads_3 _).mono ?_); rintro e w' ⟨rfl, rfl⟩)
          | ((with_reducible refine (reads_4 _).mono ?_); rintro e w' ⟨rfl, rfl⟩)
          | ((with_reducible refine (reads_5 _).mono ?_); rintro e w' ⟨rfl, rfl⟩)
          | ((with_reducible refine (reads_6 _).mono ?_); rintro e w' ⟨rfl, rfl⟩)
          | ((with_reducible refine (writes_1 _).mono ?_); rintro e w' ⟨rfl, rfl⟩)
          | ((with_reducible refine (writes_2 _).mono ?_); rintro e w' ⟨rfl, rfl⟩)
          | ((with_reducible refine (writes_3 _).mono ?_); rintro e w' ⟨rfl, rfl⟩)
          | ((with_reducible refine (writes_4 _).mono ?_); rintro e w' ⟨rfl, rfl⟩)
          | ((with_reducible refine (writes_5 _).mono ?_); rintro e w' ⟨rfl, rfl⟩)
          | ((with_reducible refine (writes_6 _).mono ?_); rintro e w' ⟨rfl, rfl⟩)
          | ((with_reducible refine (AW.out _ B0).mono ?_); rintro e w' ⟨rfl, B1⟩))
    go_ret
    exact ⟨rfl, by assumption⟩
  · rw [show viewV 4 2 = 4 from by decide +kernel] at V
    rw [show extractV 4 2 = (0, 0, false) from by decide +kernel] at E
    replace V := Lib.hid V
    replace E := Lib.hid E
    clear hx hy
    go_enter Tryd.func6, Tryd.ntmps6
    go_wp2_with (first
          | ((with_reducible refine (X.out _).mono ?_); rintro e w' ⟨rfl, rfl⟩)
          | ((with_reducible refine (Y.out _).mono ?_); rintro e w' ⟨rfl, rfl⟩)
          | ((with_reducible refine (V.out _ B0).mono ?_); rintro e w' ⟨rfl, rfl⟩)
          | ((with_reducible refine (E.out _ B0).mono ?_); rintro e w' ⟨rfl, rfl⟩)
          | ((with_reducible refine (reads_1 _).mono ?_); rintro e w' ⟨rfl, rfl⟩)
          | ((with_reducible refine (reads_2 _).mono ?_); rintro e w' ⟨rfl, rfl⟩)
          | ((with_reducible refine (reads_3 _).mono ?_); rintro e w' ⟨rfl, rfl⟩)
          | ((with_reducible refine (reads_4 _).mono ?_); rintro e w' ⟨rfl, rfl⟩)
          | ((with_reducible refine (reads_5 _).mono ?_); rintro e w' ⟨rfl, rfl⟩)
          | ((with_reducible refine (reads_6 _).mono ?_); rintro e w' ⟨rfl, rfl⟩)
          | ((with_reducible refine (writes_1 _).mono ?_); rintro e w' ⟨rfl, rfl⟩)
          | ((with_reducible refine (writes_2 _).mono ?_); rintro e w' ⟨rfl, rfl⟩)
          | ((with_reducible refine (writes_3 _).mono ?_); rintro e w' ⟨rfl, rfl⟩)
          | ((with_reducible refine (writes_4 _).mono ?_); rintro e w' ⟨rfl, rfl⟩)
          | ((with_reducible refine (writes_5 _).mono ?_); rintro e w' ⟨rfl, rfl⟩)
          | ((with_reducible refine (writes_6 _).mono ?_); rintro e w' ⟨rfl, rfl⟩)
          | ((with_reducible refine (AW.out _ B0).mono ?_); rintro e w' ⟨rfl, B1⟩))
    go_ret
    exact ⟨rfl, by assumption⟩
  · rw [show viewV 4 3 = 4 from by decide +kernel] at V
    rw [show extractV 4 3 = (0, 0, false) from by decide +kernel] at E
    replace V := Lib.hid V
    replace E := Lib.hid E
    clear hx hy
    go_enter Tryd.func6, Tryd.ntmps6
    go_wp2_with (first
          | ((with_reducible refine (X.out _).mono ?_); rintro e w' ⟨rfl, rfl⟩)
          | ((with_reducible refine (Y.out _).mono ?_); rintro e w' ⟨rfl, rfl⟩)
          | ((with_reducible refine (V.out _ B0).mono ?_); rintro e w' ⟨rfl, rfl⟩)
          | ((with_reducible refine (E.out _ B0).mono ?_); rintro e w' ⟨rfl, rfl⟩)
          | ((with_reducible refine (reads_1 _).mono ?_); rintro e w' ⟨rfl, rfl⟩)
          | ((with_reducible refine (reads_2 _).mono ?_); rintro e w' ⟨rfl, rfl⟩)
          | ((with_reducible refine (reads_3 _).mono ?_); rintro e w' ⟨rfl, rfl⟩)
          | ((with_reducible refine (reads_4 _).mono ?_); rintro e w' ⟨rfl, rfl⟩)
          | ((with_reducible refine (reads_5 _).mono ?_); rintro e w' ⟨rfl, rfl⟩)
          | ((with_reducible refine (reads_6 _).mono ?_); rintro e w' ⟨rfl, rfl⟩)
          | ((with_reducible refine (writes_1 _).mono ?_); rintro e w' ⟨rfl, rfl⟩)
          | ((with_reducible refine (writes_2 _).mono ?_); rintro e w' ⟨rfl, rfl⟩)
          | ((with_reducible refine (writes_3 _).mono ?_); rintro e w' ⟨rfl, rfl⟩)
          | ((with_reducible refine (writes_4 _).mono ?_); rintro e w' ⟨rfl, rfl⟩)
          | ((with_reducible refine (writes_5 _).mono ?_); rintro e w' ⟨rfl, rfl⟩)
          | ((with_reducible refine (writes_6 _).mono ?_); rintro e w' ⟨rfl, rfl⟩)
          | ((with_reducible refine (AW.out _ B0).mono ?_); rintro e w' ⟨rfl, B1⟩))
    go_ret
    exact ⟨rfl, by assumption⟩
  · rw [show viewV 4 4 = 4 from by decide +kernel] at V
    rw [show extractV 4 4 = (0, 0, false) from by decide +kernel] at E
    replace V := Lib.hid V
    replace E := Lib.hid E
    clear hx hy
    go_enter Tryd.func6, Tryd.ntmps6
    go_wp2_with (first
          | ((with_reducible refine (X.out _).mono ?_); rintro e w' ⟨rfl, rfl⟩)
          | ((with_reducible refine (Y.out _).mono ?_); rintro e w' ⟨rfl, rfl⟩)
          | ((with_reducible refine (V.out _ B0).mono ?_); rintro e w' ⟨rfl, rfl⟩)
          | ((with_reducible refine (E.out _ B0).mono ?_); rintro e w' ⟨rfl, rfl⟩)
          | ((with_reducible refine (reads_1 _).mono ?_); rintro e w' ⟨rfl, rfl⟩)
          | ((with_reducible refine (reads_2 _).mono ?_); rintro e w' ⟨rfl, rfl⟩)
          | ((with_reducible refine (reads_3 _).mono ?_); rintro e w' ⟨rfl, rfl⟩)
          | ((with_reducible refine (reads_4 _).mono ?_); rintro e w' ⟨rfl, rfl⟩)
          | ((with_reducible refine (reads_5 _).mono ?_); rintro e w' ⟨rfl, rfl⟩)
          | ((with_reducible refine (reads_6 _).mono ?_); rintro e w' ⟨rfl, rfl⟩)
          | ((with_reducible refine (writes_1 _).mono ?_); rintro e w' ⟨rfl, rfl⟩)
          | ((with_reducible refine (writes_2 _).mono ?_); rintro e w' ⟨rfl, rfl⟩)
          | ((with_reducible refine (writes_3 _).mono ?_); rintro e w' ⟨rfl, rfl⟩)
          | ((with_reducible refine (writes_4 _).mono ?_); rintro e w' ⟨rfl, rfl⟩)
          | ((with_reducible refine (writes_5 _).mono ?_); rintro e w' ⟨rfl, rfl⟩)
          | ((with_reducible refine (writes_6 _).mono ?_); rintro e w' ⟨rfl, rfl⟩)
          | ((with_reducible refine (AW.out _ B0).mono ?_); rintro e w' ⟨rfl, B1⟩))
    go_ret
    exact ⟨rfl, by assumption⟩
  · rw [show viewV 4 5 = 4 from by decide +kernel] at V
    rw [show extractV 4 5 = (0, 0, false) from by decide +kernel] at E
    replace V := Lib.hid V
    replace E := Lib.hid E
    clear hx hy
    go_enter Tryd.func6, Tryd.ntmps6
    go_wp2_with (first
          | ((with_reducible refine (X.out _).mono ?_); rintro e w' ⟨rfl, rfl⟩)
          | ((with_reducible refine (Y.out _).mono ?_); rintro e w' ⟨rfl, rfl⟩)
          | ((with_reducible refine (V.out _ B0).mono ?_); rintro e w' ⟨rfl, rfl⟩)
          | ((with_reducible refine (E.out _ B0).mono ?_); rintro e w' ⟨rfl, rfl⟩)
          | ((with_reducible refine (reads_1 _).mono ?_); rintro e w' ⟨rfl, rfl⟩)
          | ((with_reducible refine (reads_2 _).mono ?_); rintro e w' ⟨rfl, rfl⟩)
          | ((with_reducible refine (reads_3 _).mono ?_); rintro e w' ⟨rfl, rfl⟩)
          | ((with_reducible refine (reads_4 _).mono ?_); rintro e w' ⟨rfl, rfl⟩)
          | ((with_reducible refine (reads_5 _).mono ?_); rintro e w' ⟨rfl, rfl⟩)
          | ((with_reducible refine (reads_6 _).mono ?_); rintro e w' ⟨rfl, rfl⟩)
          | ((with_reducible refine (writes_1 _).mono ?_); rintro e w' ⟨rfl, rfl⟩)
          | ((with_reducible refine (writes_2 _).mono ?_); rintro e w' ⟨rfl, rfl⟩)
          | ((with_reducible refine (writes_3 _).mono ?_); rintro e w' ⟨rfl, rfl⟩)
          | ((with_reducible refine (writes_4 _).mono ?_); rintro e w' ⟨rfl, rfl⟩)
          | ((with_reducible refine (writes_5 _).mono ?_); rintro e w' ⟨rfl, rfl⟩)
          | ((with_reducible refine (writes_6 _).mono ?_); rintro e w' ⟨rfl, rfl⟩)
          | ((with_reducible refine (AW.out _ B0).mono ?_); rintro e w' ⟨rfl, B1⟩))
    go_ret
    exact ⟨rfl, by assumption⟩
  · rw [show viewV 4 6 = 6 from by decide +kernel] at V
    rw [show extractV 4 6 = (0, 0, false) from by decide +kernel] at E
    replace V := Lib.hid V
    replace E := Lib.hid E
    clear hx hy
    go_enter Tryd.func6, Tryd.ntmps6
    go_wp2_with (first
          | ((with_reducible refine (X.out _).mono ?_); rintro e w' ⟨rfl, rfl⟩)
          | ((with_reducible refine (Y.out _).mono ?_); rintro e w' ⟨rfl, rfl⟩)
          | ((with_reducible refine (V.out _ B0).mono ?_); rintro e w' ⟨rfl, rfl⟩)
          | ((with_reducible refine (E.out _ B0).mono ?_); rintro e w' ⟨rfl, rfl⟩)
          | ((with_reducible refine (reads_1 _).mono ?_); rintro e w' ⟨rfl, rfl⟩)
          | ((with_reducible refine (reads_2 _).mono ?_); rintro e w' ⟨rfl, rfl⟩)
          | ((with_reducible refine (reads_3 _).mono ?_); rintro e w' ⟨rfl, rfl⟩)
          | ((with_reducible refine (reads_4 _).mono ?_); rintro e w' ⟨rfl, rfl⟩)
          | ((with_reducible refine (reads_5 _).mono ?_); rintro e w' ⟨rfl, rfl⟩)
          | ((with_reducible refine (reads_6 _).mono ?_); rintro e w' ⟨rfl, rfl⟩)
          | ((with_reducible refine (writes_1 _).mono ?_); rintro e w' ⟨rfl, rfl⟩)
          | ((with_reducible refine (writes_2 _).mono ?_); rintro e w' ⟨rfl, rfl⟩)
          | ((with_reducible refine (writes_3 _).mono ?_); rintro e w' ⟨rfl, rfl⟩)
          | ((with_reducible refine (writes_4 _).mono ?_); rintro e w' ⟨rfl, rfl⟩)
          | ((with_reducible refine (writes_5 _).mono ?_); rintro e w' ⟨rfl, rfl⟩)
          | ((with_reducible refine (writes_6 _).mono ?_); rintro e w' ⟨rfl, rfl⟩)
          | ((with_reducible refine (AW.out _ B0).mono ?_); rintro e w' ⟨rfl, B1⟩))
    go_ret
    exact ⟨rfl, by assumption⟩
  · rw [show viewV 5 1 = 6 from by decide +kernel] at V
    rw [show extractV 5 1 = (0, 0, false) from by decide +kernel] at E
    replace V := Lib.hid V
    replace E := Lib.hid E
    clear hx hy
    go_enter Tryd.func6, Tryd.ntmps6
    go_wp2_with (first
          | ((with_reducible refine (X.out _).mono ?_); rintro e w' ⟨rfl, rfl⟩)
          | ((with_reducible refine (Y.out _).mono ?_); rintro e w' ⟨rfl, rfl⟩)
          | ((with_reducible refine (V.out _ B0).mono ?_); rintro e w' ⟨rfl, rfl⟩)
          | ((with_reducible refine (E.out _ B0).mono ?_); rintro e w' ⟨rfl, rfl⟩)
          | ((with_reducible refine (reads_1 _).mono ?_); rintro e w' ⟨rfl, rfl⟩)
          | ((with_reducible refine (reads_2 _).mono ?_); rintro e w' ⟨rfl, rfl⟩)
          | ((with_reducible refine (reads_3 _).mono ?_); rintro e w' ⟨rfl, rfl⟩)
          | ((with_reducible refine (reads_4 _).mono ?_); rintro e w' ⟨rfl, rfl⟩)
          | ((with_reducible refine (reads_5 _).mono ?_); rintro e w' ⟨rfl, rfl⟩)
          | ((with_reducible refine (reads_6 _).mono ?_); rintro e w' ⟨rfl, rfl⟩)
          | ((with_reducible refine (writes_1 _).mono ?_); rintro e w' ⟨rfl, rfl⟩)
          | ((with_reducible refine (writes_2 _).mono ?_); rintro e w' ⟨rfl, rfl⟩)
          | ((with_reducible refine (writes_3 _).mono ?_); rintro e w' ⟨rfl, rfl⟩)
          | ((with_reducible refine (writes_4 _).mono ?_); rintro e w' ⟨rfl, rfl⟩)
          | ((with_reducible refine (writes_5 _).mono ?_); rintro e w' ⟨rfl, rfl⟩)
          | ((with_reducible refine (writes_6 _).mono ?_); rintro e w' ⟨rfl, rfl⟩)
          | ((with_reducible refine (AW.out _ B0).mono ?_); rintro e w' ⟨rfl, B1⟩))
    go_ret
    exact ⟨rfl, by assumption⟩
  · rw [show viewV 5 2 = 5 from by decide +kernel] at V
    rw [show extractV 5 2 = (0, 0, false) from by decide +kernel] at E
    replace V := Lib.hid V
    replace E := Lib.hid E
    clear hx hy
    go_enter Tryd.func6, Tryd.ntmps6
    go_wp2_with (first
          | ((with_reducible refine (X.out _).mono ?_); rintro e w' ⟨rfl, rfl⟩)
          | ((with_reducible refine (Y.out _).mono ?_); rintro e w' ⟨rfl, rfl⟩)
          | ((with_reducible refine (V.out _ B0).mono ?_); rintro e w' ⟨rfl, rfl⟩)
          | ((with_reducible refine (E.out _ B0).mono ?_); rintro e w' ⟨rfl, rfl⟩)
          | ((with_reducible refine (reads_1 _).mono ?_); rintro e w' ⟨rfl, rfl⟩)
          | ((with_reducible refine (reads_2 _).mono ?_); rintro e w' ⟨rfl, rfl⟩)
          | ((with_reducible refine (reads_3 _).mono ?_); rintro e w' ⟨rfl, rfl⟩)
          | ((with_reducible refine (reads_4 _).mono ?_); rintro e w' ⟨rfl, rfl⟩)
          | ((with_reducible refine (reads_5 _).mono ?_); rintro e w' ⟨rfl, rfl⟩)
          | ((with_reducible refine (reads_6 _).mono ?_); rintro e w' ⟨rfl, rfl⟩)
          | ((with_reducible refine (writes_1 _).mono ?_); rintro e w' ⟨rfl, rfl⟩)
          | ((with_reducible refine (writes_2 _).mono ?_); rintro e w' ⟨rfl, rfl⟩)
          | ((with_reducible refine (writes_3 _).mono ?_); rintro e w' ⟨rfl, rfl⟩)
          | ((with_reducible refine (writes_4 _).mono ?_); rintro e w' ⟨rfl, rfl⟩)
          | ((with_reducible refine (writes_5 _).mono ?_); rintro e w' ⟨rfl, rfl⟩)
          | ((with_reducible refine (writes_6 _).mono ?_); rintro e w' ⟨rfl, rfl⟩)
          | ((with_reducible refine (AW.out _ B0).mono ?_); rintro e w' ⟨rfl, B1⟩))
    go_ret
    exact ⟨rfl, by assumption⟩
  · rw [show viewV 5 3 = 5 from by decide +kernel] at V
    rw [show extractV 5 3 = (0, 0, false) from by decide +kernel] at E
    replace V := Lib.hid V
    replace E := Lib.hid E
    clear hx hy
    go_enter Tryd.func6, Tryd.ntmps6
    go_wp2_with (first
          | ((with_reducible refine (X.out _).mono ?_); rintro e w' ⟨rfl, rfl⟩)
          | ((with_reducible refine (Y.out _).mono ?_); rintro e w' ⟨rfl, rfl⟩)
          | ((with_reducible refine (V.out _ B0).mono ?_); rintro e w' ⟨rfl, rfl⟩)
          | ((with_reducible refine (E.out _ B0).mono ?_); rintro e w' ⟨rfl, rfl⟩)
          | ((with_reducible refine (reads_1 _).mono ?_); rintro e w' ⟨rfl, rfl⟩)
          | ((with_reducible refine (reads_2 _).mono ?_); rintro e w' ⟨rfl, rfl⟩)
          | ((with_reducible refine (reads_3 _).mono ?_); rintro e w' ⟨rfl, rfl⟩)
          | ((with_reducible refine (reads_4 _).mono ?_); rintro e w' ⟨rfl, rfl⟩)
          | ((with_reducible refine (reads_5 _).mono ?_); rintro e w' ⟨rfl, rfl⟩)
          | ((with_reducible refine (reads_6 _).mono ?_); rintro e w' ⟨rfl, rfl⟩)
          | ((with_reducible refine (writes_1 _).mono ?_); rintro e w' ⟨rfl, rfl⟩)
          | ((with_reducible refine (writes_2 _).mono ?_); rintro e w' ⟨rfl, rfl⟩)
          | ((with_reducible refine (writes_3 _).mono ?_); rintro e w' ⟨rfl, rfl⟩)
          | ((with_reducible refine (writes_4 _).mono ?_); rintro e w' ⟨rfl, rfl⟩)
          | ((with_reducible refine (writes_5 _).mono ?_); rintro e w' ⟨rfl, rfl⟩)
          | ((with_reducible refine (writes_6 _).mono ?_); rintro e w' ⟨rfl, rfl⟩)
          | ((with_reducible refine (AW.out _ B0).mono ?_); rintro e w' ⟨rfl, B1⟩))
    go_ret
    exact ⟨rfl, by assumption⟩
  · rw [show viewV 5 4 = 4 from by decide +kernel] at V
    rw [show extractV 5 4 = (0, 0, false) from by decide +kernel] at E
    replace V := Lib.hid V
    replace E := Lib.hid E
    clear hx hy
    go_enter Tryd.func6, Tryd.ntmps6
    go_wp2_with (first
          | ((with_reducible refine (X.out _).mono ?_); rintro e w' ⟨rfl, rfl⟩)
          | ((with_reducible refine (Y.out _).mono ?_); rintro e w' ⟨rfl, rfl⟩)
          | ((with_reducible refine (V.out _ B0).mono ?_); rintro e w' ⟨rfl, rfl⟩)
          | ((with_reducible refine (E.out _ B0).mono ?_); rintro e w' ⟨rfl, rfl⟩)
          | ((with_reducible refine (reads_1 _).mono ?_); rintro e w' ⟨rfl, rfl⟩)
          | ((with_reducible refine (reads_2 _).mono ?_); rintro e w' ⟨rfl, rfl⟩)
          | ((with_reducible refine (reads_3 _).mono ?_); rintro e w' ⟨rfl, rfl⟩)
          | ((with_reducible refine (reads_4 _).mono ?_); rintro e w' ⟨rfl, rfl⟩)
          | ((with_reducible refine (reads_5 _).mono ?_); rintro e w' ⟨rfl, rfl⟩)
          | ((with_reducible refine (reads_6 _).mono ?_); rintro e w' ⟨rfl, rfl⟩)
          | ((with_reducible refine (writes_1 _).mono ?_); rintro e w' ⟨rfl, rfl⟩)
          | ((with_reducible refine (writes_2 _).mono ?_); rintro e w' ⟨rfl, rfl⟩)
          | ((with_reducible refine (writes_3 _).mono ?_); rintro e w' ⟨rfl, rfl⟩)
          | ((with_reducible refine (writes_4 _).mono ?_); rintro e w' ⟨rfl, rfl⟩)
          | ((with_reducible refine (writes_5 _).mono ?_); rintro e w' ⟨rfl, rfl⟩)
          | ((with_reducible refine (writes_6 _).mono ?_); rintro e w' ⟨rfl, rfl⟩)
          | ((with_reducible refine (AW.out _ B0).mono ?_); rintro e w' ⟨rfl, B1⟩))
    go_ret
    exact ⟨rfl, by assumption⟩
  · rw [show viewV 5 5 = 5 from by decide +kernel] at V
    rw [show extractV 5 5 = (0, 0, false) from by decide +kernel] at E
    replace V := Lib.hid V
    replace E := Lib.hid E
    clear hx hy
    go_enter Tryd.func6, Tryd.ntmps6
    go_wp2_with (first
          | ((with_reducible refine (X.out _).mono ?_); rintro e w' ⟨rfl, rfl⟩)
          | ((with_reducible refine (Y.out _).mono ?_); rintro e w' ⟨rfl, rfl⟩)
          | ((with_reducible refine (V.out _ B0).mono ?_); rintro e w' ⟨rfl, rfl⟩)
          | ((with_reducible refine (E.out _ B0).mono ?_); rintro e w' ⟨rfl, rfl⟩)
          | ((with_reducible refine (reads_1 _).mono ?_); rintro e w' ⟨rfl, rfl⟩)
          | ((with_reducible refine (reads_2 _).mono ?_); rintro e w' ⟨rfl, rfl⟩)
          | ((with_reducible refine (reads_3 _).mono ?_); rintro e w' ⟨rfl, rfl⟩)
          | ((with_reducible refine (reads_4 _).mono ?_); rintro e w' ⟨rfl, rfl⟩)
          | ((with_reducible refine (reads_5 _).mono ?_); rintro e w' ⟨rfl, rfl⟩)
          | ((with_reducible refine (reads_6 _).mono ?_); rintro e w' ⟨rfl, rfl⟩)
          | ((with_reducible refine (writes_1 _).mono ?_); rintro e w' ⟨rfl, rfl⟩)
          | ((with_reducible refine (writes_2 _).mono ?_); rintro e w' ⟨rfl, rfl⟩)
          | ((with_reducible refine (writes_3 _).mono ?_); rintro e w' ⟨rfl, rfl⟩)
          | ((with_reducible refine (writes_4 _).mono ?_); rintro e w' ⟨rfl, rfl⟩)
          | ((with_reducible refine (writes_5 _).mono ?_); rintro e w' ⟨rfl, rfl⟩)
          | ((with_reducible refine (writes_6 _).mono ?_); rintro e w' ⟨rfl, rfl⟩)
          | ((with_reducible refine (AW.out _ B0).mono ?_); rintro e w' ⟨rfl, B1⟩))
    go_ret
    exact ⟨rfl, by assumption⟩
  · rw [show viewV 5 6 = 6 from by decide +kernel] at V
    rw [show extractV 5 6 = (0, 0, false) from by decide +kernel] at E
    replace V := Lib.hid V
    replace E := Lib.hid E
    clear hx hy
    go_enter Tryd.func6, Tryd.ntmps6
    go_wp2_with (first
          | ((with_reducible refine (X.out _).mono ?_); rintro e w' ⟨rfl, rfl⟩)
          | ((with_reducible refine (Y.out _).mono ?_); rintro e w' ⟨rfl, rfl⟩)
          | ((with_reducible refine (V.out _ B0).mono ?_); rintro e w' ⟨rfl, rfl⟩)
          | ((with_reducible refine (E.out _ B0).mono ?_); rintro e w' ⟨rfl, rfl⟩)
          | ((with_reducible refine (reads_1 _).mono ?_); rintro e w' ⟨rfl, rfl⟩)
          | ((with_reducible refine (reads_2 _).mono ?_); rintro e w' ⟨rfl, rfl⟩)
          | ((with_reducible refine (reads_3 _).mono ?_); rintro e w' ⟨rfl, rfl⟩)
          | ((with_reducible refine (reads_4 _).mono ?_); rintro e w' ⟨rfl, rfl⟩)
          | ((with_reducible refine (reads_5 _).mono ?_); rintro e w' ⟨rfl, rfl⟩)
          | ((with_reducible refine (reads_6 _).mono ?_); rintro e w' ⟨rfl, rfl⟩)
          | ((with_reducible refine (writes_1 _).mono ?_); rintro e w' ⟨rfl, rfl⟩)
          | ((with_reducible refine (writes_2 _).mono ?_); rintro e w' ⟨rfl, rfl⟩)
          | ((with_reducible refine (writes_3 _).mono ?_); rintro e w' ⟨rfl, rfl⟩)
          | ((with_reducible refine (writes_4 _).mono ?_); rintro e w' ⟨rfl, rfl⟩)
          | ((with_reducible refine (writes_5 _).mono ?_); rintro e w' ⟨rfl, rfl⟩)
          | ((with_reducible refine (writes_6 _).mono ?_); rintro e w' ⟨rfl, rfl⟩)
          | ((with_reducible refine (AW.out _ B0).mono ?_); rintro e w' ⟨rfl, B1⟩))
    go_ret
    exact ⟨rfl, by assumption⟩
  · rw [show viewV 6 1 = 0 from by decide +kernel] at V
    rw [show extractV 6 1 = (0, 0, false) from by decide +kernel] at E
    replace V := Lib.hid V
    replace E := Lib.hid E
    clear hx hy
    go_enter Tryd.func6, Tryd.ntmps6
    go_wp2_with (first
          | ((with_reducible refine (X.out _).mono ?_); rintro e w' ⟨rfl, rfl⟩)
          | ((with_reducible refine (Y.out _).mono ?_); rintro e w' ⟨rfl, rfl⟩)
          | ((with_reducible refine (V.out _ B0).mono ?_); rintro e w' ⟨rfl, rfl⟩)
          | ((with_reducible refine (E.out _ B0).mono ?_); rintro e w' ⟨rfl, rfl⟩)
          | ((with_reducible refine (reads_1 _).mono ?_); rintro e w' ⟨rfl, rfl⟩)
          | ((with_reducible refine (reads_2 _).mono ?_); rintro e w' ⟨rfl, rfl⟩)
          | ((with_reducible refine (reads_3 _).mono ?_); rintro e w' ⟨rfl, rfl⟩)
          | ((with_reducible refine (reads_4 _).mono ?_); rintro e w' ⟨rfl, rfl⟩)
          | ((with_reducible refine (reads_5 _).mono ?_); rintro e w' ⟨rfl, rfl⟩)
          | ((with_reducible refine (reads_6 _).mono ?_); rintro e w' ⟨rfl, rfl⟩)
          | ((with_reducible refine (writes_1 _).mono ?_); rintro e w' ⟨rfl, rfl⟩)
          | ((with_reducible refine (writes_2 _).mono ?_); rintro e w' ⟨rfl, rfl⟩)
          | ((with_reducible refine (writes_3 _).mono ?_); rintro e w' ⟨rfl, rfl⟩)
          | ((with_reducible refine (writes_4 _).mono ?_); rintro e w' ⟨rfl, rfl⟩)
          | ((with_reducible refine (writes_5 _).mono ?_); rintro e w' ⟨rfl, rfl⟩)
          | ((with_reducible refine (writes_6 _).mono ?_); rintro e w' ⟨rfl, rfl⟩)
          | ((with_reducible refine (AW.out _ B0).mono ?_); rintro e w' ⟨rfl, B1⟩))
    go_ret
    exact ⟨rfl, by assumption⟩
  · rw [show viewV 6 2 = 0 from by decide +kernel] at V
    rw [show extractV 6 2 = (0, 0, false) from by decide +kernel] at E
    replace V := Lib.hid V
    replace E := Lib.hid E
    clear hx hy
    go_enter Tryd.func6, Tryd.ntmps6
    go_wp2_with (first
          | ((with_reducible refine (X.out _).mono ?_); rintro e w' ⟨rfl, rfl⟩)
          | ((with_reducible refine (Y.out _).mono ?_); rintro e w' ⟨rfl, rfl⟩)
          | ((with_reducible refine (V.out _ B0).mono ?_); rintro e w' ⟨rfl, rfl⟩)
          | ((with_reducible refine (E.out _ B0).mono ?_); rintro e w' ⟨rfl, rfl⟩)
          | ((with_reducible refine (reads_1 _).mono ?_); rintro e w' ⟨rfl, rfl⟩)
          | ((with_reducible refine (reads_2 _).mono ?_); rintro e w' ⟨rfl, rfl⟩)
          | ((with_reducible refine (reads_3 _).mono ?_); rintro e w' ⟨rfl, rfl⟩)
          | ((with_reducible refine (reads_4 _).mono ?_); rintro e w' ⟨rfl, rfl⟩)
          | ((with_reducible refine (reads_5 _).mono ?_); rintro e w' ⟨rfl, rfl⟩)
          | ((with_reducible refine (reads_6 _).mono ?_); rintro e w' ⟨rfl, rfl⟩)
          | ((with_reducible refine (writes_1 _).mono ?_); rintro e w' ⟨rfl, rfl⟩)
          | ((with_reducible refine (writes_2 _).mono ?_); rintro e w' ⟨rfl, rfl⟩)
          | ((with_reducible refine (writes_3 _).mono ?_); rintro e w' ⟨rfl, rfl⟩)
          | ((with_reducible refine (writes_4 _).mono ?_); rintro e w' ⟨rfl, rfl⟩)
          | ((with_reducible refine (writes_5 _).mono ?_); rintro e w' ⟨rfl, rfl⟩)
          | ((with_reducible refine (writes_6 _).mono ?_); rintro e w' ⟨rfl, rfl⟩)
          | ((with_reducible refine (AW.out _ B0).mono ?_); rintro e w' ⟨rfl, B1⟩))
    go_ret
    exact ⟨rfl, by assumption⟩
  · rw [show viewV 6 3 = 0 from by decide +kernel] at V
    rw [show extractV 6 3 = (0, 0, false) from by decide +kernel] at E
    replace V := Lib.hid V
    replace E := Lib.hid E
    clear hx hy
    go_enter Tryd.func6, Tryd.ntmps6
    go_wp2_with (first
          | ((with_reducible refine (X.out _).mono ?_); rintro e w' ⟨rfl, rfl⟩)
          | ((with_reducible refine (Y.out _).mono ?_); rintro e w' ⟨rfl, rfl⟩)
          | ((with_reducible refine (V.out _ B0).mono ?_); rintro e w' ⟨rfl, rfl⟩)
          | ((with_reducible refine (E.out _ B0).mono ?_); rintro e w' ⟨rfl, rfl⟩)
          | ((with_reducible refine (reads_1 _).mono ?_); rintro e w' ⟨rfl, rfl⟩)
          | ((with_reducible refine (reads_2 _).mono ?_); rintro e w' ⟨rfl, rfl⟩)
          | ((with_reducible refine (reads_3 _).mono ?_); rintro e w' ⟨rfl, rfl⟩)
          | ((with_reducible refine (reads_4 _).mono ?_); rintro e w' ⟨rfl, rfl⟩)
          | ((with_reducible refine (reads_5 _).mono ?_); rintro e w' ⟨rfl, rfl⟩)
          | ((with_reducible refine (reads_6 _).mono ?_); rintro e w' ⟨rfl, rfl⟩)
          | ((with_reducible refine (writes_1 _).mono ?_); rintro e w' ⟨rfl, rfl⟩)
          | ((with_reducible refine (writes_2 _).mono ?_); rintro e w' ⟨rfl, rfl⟩)
          | ((with_reducible refine (writes_3 _).mono ?_); rintro e w' ⟨rfl, rfl⟩)
          | ((with_reducible refine (writes_4 _).mono ?_); rintro e w' ⟨rfl, rfl⟩)
          | ((with_reducible refine (writes_5 _).mono ?_); rintro e w' ⟨rfl, rfl⟩)
          | ((with_reducible refine (writes_6 _).mono ?_); rintro e w' ⟨rfl, rfl⟩)
          | ((with_reducible refine (AW.out _ B0).mono ?_); rintro e w' ⟨rfl, B1⟩))
    go_ret
    exact ⟨rfl, by assumption⟩
  · rw [show viewV 6 4 = 0 from by decide +kernel] at V
    rw [show extractV 6 4 = (0, 0, false) from by decide +kernel] at E
    replace V := Lib.hid V
    replace E := Lib.hid E
    clear hx hy
    go_enter Tryd.func6, Tryd.ntmps6
    go_wp2_with (first
          | ((with_reducible refine (X.out _).mono ?_); rintro e w' ⟨rfl, rfl⟩)
          | ((with_reducible refine (Y.out _).mono ?_); rintro e w' ⟨rfl, rfl⟩)
          | ((with_reducible refine (V.out _ B0).mono ?_); rintro e w' ⟨rfl, rfl⟩)
          | ((with_reducible refine (E.out _ B0).mono ?_); rintro e w' ⟨rfl, rfl⟩)
          | ((with_reducible refine (reads_1 _).mono ?_); rintro e w' ⟨rfl, rfl⟩)
          | ((with_reducible refine (reads_2 _).mono ?_); rintro e w' ⟨rfl, rfl⟩)
          | ((with_reducible refine (reads_3 _).mono ?_); rintro e w' ⟨rfl, rfl⟩)
          | ((with_reducible refine (reads_4 _).mono ?_); rintro e w' ⟨rfl, rfl⟩)
          | ((with_reducible refine (reads_5 _).mono ?_); rintro e w' ⟨rfl, rfl⟩)
          | ((with_reducible refine (reads_6 _).mono ?_); rintro e w' ⟨rfl, rfl⟩)
          | ((with_reducible refine (writes_1 _).mono ?_); rintro e w' ⟨rfl, rfl⟩)
          | ((with_reducible refine (writes_2 _).mono ?_); rintro e w' ⟨rfl, rfl⟩)
          | ((with_reducible refine (writes_3 _).mono ?_); rintro e w' ⟨rfl, rfl⟩)
          | ((with_reducible refine (writes_4 _).mono ?_); rintro e w' ⟨rfl, rfl⟩)
          | ((with_reducible refine (writes_5 _).mono ?_); rintro e w' ⟨rfl, rfl⟩)
          | ((with_reducible refine (writes_6 _).mono ?_); rintro e w' ⟨rfl, rfl⟩)
          | ((with_reducible refine (AW.out _ B0).mono ?_); rintro e w' ⟨rfl, B1⟩))
    go_ret
    exact ⟨rfl, by assumption⟩
  · rw [show viewV 6 5 = 0 from by decide +kernel] at V
    rw [show extractV 6 5 = (0, 0, false) from by decide +kernel] at E
    replace V := Lib.hid V
    replace E := Lib.hid E
    clear hx hy
    go_enter Tryd.func6, Tryd.ntmps6
    go_wp2_with (first
          | ((with_reducible refine (X.out _).mono ?_); rintro e w' ⟨rfl, rfl⟩)
          | ((with_reducible refine (Y.out _).mono ?_); rintro e w' ⟨rfl, rfl⟩)
          | ((with_reducible refine (V.out _ B0).mono ?_); rintro e w' ⟨rfl, rfl⟩)
          | ((with_reducible refine (E.out _ B0).mono ?_); rintro e w' ⟨rfl, rfl⟩)
          | ((with_reducible refine (reads_1 _).mono ?_); rintro e w' ⟨rfl, rfl⟩)
          | ((with_reducible refine (reads_2 _).mono ?_); rintro e w' ⟨rfl, rfl⟩)
          | ((with_reducible refine (reads_3 _).mono ?_); rintro e w' ⟨rfl, rfl⟩)
          | ((with_reducible refine (reads_4 _).mono ?_); rintro e w' ⟨rfl, rfl⟩)
          | ((with_reducible refine (reads_5 _).mono ?_); rintro e w' ⟨rfl, rfl⟩)
          | ((with_reducible refine (reads_6 _).mono ?_); rintro e w' ⟨rfl, rfl⟩)
          | ((with_reducible refine (writes_1 _).mono ?_); rintro e w' ⟨rfl, rfl⟩)
          | ((with_reducible refine (writes_2 _).mono ?_); rintro e w' ⟨rfl, rfl⟩)
          | ((with_reducible refine (writes_3 _).mono ?_); rintro e w' ⟨rfl, rfl⟩)
          | ((with_reducible refine (writes_4 _).mono ?_); rintro e w' ⟨rfl, rfl⟩)
          | ((with_reducible refine (writes_5 _).mono ?_); rintro e w' ⟨rfl, rfl⟩)
          | ((with_reducible refine (writes_6 _).mono ?_); rintro e w' ⟨rfl, rfl⟩)
          | ((with_reducible refine (AW.out _ B0).mono ?_); rintro e w' ⟨rfl, B1⟩))
    go_ret
    exact ⟨rfl, by assumption⟩
  · rw [show viewV 6 6 = 0 from by decide +kernel] at V
    rw [show extractV 6 6 = (0, 0, false) from by decide +kernel] at E
    replace V := Lib.hid V
    replace E := Lib.hid E
    clear hx hy
    go_enter Tryd.func6, Tryd.ntmps6
    go_wp2_with (first
          | ((with_reducible refine (X.out _).mono ?_); rintro e w' ⟨rfl, rfl⟩)
          | ((with_reducible refine (Y.out _).mono ?_); rintro e w' ⟨rfl, rfl⟩)
          | ((with_reducible refine (V.out _ B0).mono ?_); rintro e w' ⟨rfl, rfl⟩)
          | ((with_reducible refine (E.out _ B0).mono ?_); rintro e w' ⟨rfl, rfl⟩)
          | ((with_reducible refine (reads_1 _).mono ?_); rintro e w' ⟨rfl, rfl⟩)
          | ((with_reducible refine (reads_2 _).mono ?_); rintro e w' ⟨rfl, rfl⟩)
          | ((with_reducible refine (reads_3 _).mono ?_); rintro e w' ⟨rfl, rfl⟩)
          | ((with_reducible refine (reads_4 _).mono ?_); rintro e w' ⟨rfl, rfl⟩)
          | ((with_reducible refine (reads_5 _).mono ?_); rintro e w' ⟨rfl, rfl⟩)
          | ((with_reducible refine (reads_6 _).mono ?_); rintro e w' ⟨rfl, rfl⟩)
          | ((with_reducible refine (writes_1 _).mono ?_); rintro e w' ⟨rfl, rfl⟩)
          | ((with_reducible refine (writes_2 _).mono ?_); rintro e w' ⟨rfl, rfl⟩)
          | ((with_reducible refine (writes_3 _).mono ?_); rintro e w' ⟨rfl, rfl⟩)
          | ((with_reducible refine (writes_4 _).mono ?_); rintro e w' ⟨rfl, rfl⟩)
          | ((with_reducible refine (writes_5 _).mono ?_); rintro e w' ⟨rfl, rfl⟩)
          | ((with_reducible refine (writes_6 _).mono ?_); rintro e w' ⟨rfl, rfl⟩)
          | ((with_reducible refine (AW.out _ B0).mono ?_); rintro e w' ⟨rfl, B1⟩))
    go_ret
    exact ⟨rfl, by assumption⟩
end Go.Proofs.YtblklbmolfddpaaDoor
