/- Contracts of the reference's Local and Global, and of the statement's own function CapViews. -/
import Derived.Test.YtblklbmolfddpaaDoorRefB
namespace Go.Proofs.YtblklbmolfddpaaDoor
open Go.RowKit

def besideB (a b : Int) : Bool :=
  if a = 6 then true else if a = 5 then b != 1 else if a = 3 then b == 3 || b == 5 || b == 6 else if a = 4 then b == 4 || b == 5 || b == 6 else if a = 2 then b == 5 || b == 6 else b == 6
set_option maxHeartbeats 3200000 in
theorem r_beside (a b : Int) (w : World) (ha : capB a = true) (hb : capB b = true) :
    Calls Tryd.prog 59 #[.int .i64 a, .int .i64 b] w fun e w' => e = .returned (.bool (besideB a b)) ∧ w = w' := by
  rcases cap_cases ha with rfl | rfl | rfl | rfl | rfl | rfl <;> rcases cap_cases hb with rfl | rfl | rfl | rfl | rfl | rfl <;> (
    clear ha hb
    go_enter Tryd.func59, Tryd.ntmps59
    go_wp2
    go_ret
    exact ⟨rfl, rfl⟩)

def sharedB (c : Int) : Bool := c == 4 || c == 5
set_option maxHeartbeats 400000 in
theorem r_shared (c : Int) (w : World) : Calls Tryd.prog 60 #[.int .i64 c] w fun e w' => e = .returned (.bool (sharedB c)) ∧ w = w' := by
  go_enter Tryd.func60, Tryd.ntmps60
  go_wp2
  all_goals go_ret
  all_goals exact ⟨ret_bool (by simp [sharedB, *]), rfl⟩

def localAll : Bool := caps.all fun a => caps.all fun b => (localB a b == (besideB a b && besideB b a)) && (globalB a b == (a == 6 || b == 6 || (sharedB a && sharedB b)))
theorem localAll_true : localAll = true := by kernel_rfl
theorem local_eq {a b : Int} (ha : capB a = true) (hb : capB b = true) : localB a b = (besideB a b && besideB b a) ∧ globalB a b = (a == 6 || b == 6 || (sharedB a && sharedB b)) := by
  have h0 := localAll_true
  unfold localAll at h0
  have h1 := List.all_eq_true.1 (List.all_eq_true.1 h0 a (mem_caps ha)) b (mem_caps hb)
  simpa using h1
theorem local_out {a b : Int} (h : (capB a && capB b) = false) : localB a b = false ∧ globalB a b = false := by
  unfold localB globalB amongB
  cases ha : capB a with
  | false => simp
  | true =>
    rw [ha] at h
    simp only [Bool.true_and] at h
    rw [h]
    simp

set_option maxHeartbeats 800000 in
theorem r_local (a b : Int) (w : World) :
    Calls Tryd.prog 42 #[.int .i64 a, .int .i64 b] w fun e w' => e = .returned (.bool (localB a b)) ∧ w = w' := by
  have I := Lib.hid (fun W => r_is a W)
  have J := Lib.hid (fun W => r_is b W)
  cases h : (capB a && capB b) with
  | false =>
    rw [(local_out h).1]
    revert h I J
    generalize capB a = x
    generalize capB b = y
    intro I J h
    cases x <;> cases y <;> first
      | (cases h; done)
      | (clear h
         go_enter Tryd.func42, Tryd.ntmps42
         go_wp2_with (first | ((with_reducible refine (I.out _).mono ?_); rintro e w' ⟨rfl, rfl⟩) | ((with_reducible refine (J.out _).mono ?_); rintro e w' ⟨rfl, rfl⟩))
         go_ret
         exact ⟨rfl, rfl⟩)
  | true =>
    obtain ⟨ha, hb⟩ : capB a = true ∧ capB b = true := by simpa using h
    rw [(local_eq ha hb).1]
    have K := Lib.hid (fun W => r_beside a b W ha hb)
    have L := Lib.hid (fun W => r_beside b a W hb ha)
    rw [ha] at I
    rw [hb] at J
    clear h ha hb
    revert K L
    generalize besideB a b = x
    generalize besideB b a = y
    intro K L
    cases x <;> cases y <;> (
      go_enter Tryd.func42, Tryd.ntmps42
      go_wp2_with (first | ((with_reducible refine (I.out _).mono ?_); rintro e w' ⟨rfl, rfl⟩) | ((with_reducible refine (J.out _).mono ?_); rintro e w' ⟨rfl, rfl⟩) | ((with_reducible refine (K.out _).mono ?_); rintro e w' ⟨rfl, rfl⟩) | ((with_reducible refine (L.out _).mono ?_); rintro e w' ⟨rfl, rfl⟩))
      go_ret
      exact ⟨rfl, rfl⟩)

set_option maxHeartbeats 1600000 in
theorem r_global (a b : Int) (w : World) :
    Calls Tryd.prog 44 #[.int .i64 a, .int .i64 b] w fun e w' => e = .returned (.bool (globalB a b)) ∧ w = w' := by
  have I := Lib.hid (fun W => r_is a W)
  have J := Lib.hid (fun W => r_is b W)
  cases h : (capB a && capB b) with
  | false =>
    rw [(local_out h).2]
    revert h I J
    generalize capB a = x
    generalize capB b = y
    intro I J h
    cases x <;> cases y <;> first
      | (cases h; done)
      | (clear h
         go_enter Tryd.func44, Tryd.ntmps44
         go_wp2_with (first | ((with_reducible refine (I.out _).mono ?_); rintro e w' ⟨rfl, rfl⟩) | ((with_reducible refine (J.out _).mono ?_); rintro e w' ⟨rfl, rfl⟩))
         go_ret
         exact ⟨rfl, rfl⟩)
  | true =>
    obtain ⟨ha, hb⟩ : capB a = true ∧ capB b = true := by simpa using h
    rw [(local_eq ha hb).2]
    have K := Lib.hid (fun W => r_shared a W)
    have L := Lib.hid (fun W => r_shared b W)
    rw [ha] at I
    rw [hb] at J
    clear h ha hb
    revert K L
    generalize sharedB a = x
    generalize sharedB b = y
    intro K L
    cases h1 : (a == 6) <;> cases h2 : (b == 6) <;> cases x <;> cases y <;> (
      go_enter Tryd.func44, Tryd.ntmps44
      go_wp2_with (first | ((with_reducible refine (I.out _).mono ?_); rintro e w' ⟨rfl, rfl⟩) | ((with_reducible refine (J.out _).mono ?_); rintro e w' ⟨rfl, rfl⟩) | ((with_reducible refine (K.out _).mono ?_); rintro e w' ⟨rfl, rfl⟩) | ((with_reducible refine (L.out _).mono ?_); rintro e w' ⟨rfl, rfl⟩))
      go_ret
      exact ⟨rfl, rfl⟩)

theorem store_bel (w : World) (hG : GSto w) (o c m : Int) (W : World) (h : Bel w W) :
    Calls Tryd.prog 39 #[.int .i64 o, .int .i64 c, .int .i64 m] W fun e w' => e = .returned (.bool (storeB o c m)) ∧ Bel w w' :=
  (store_any o c m W (hG.below h)).mono fun _ _ ⟨he, n, hn⟩ => ⟨he, by rw [hn]; exact bel_drewN h n⟩

set_option maxHeartbeats 1600000 in
theorem views_any (a b m : Int) (w : World) (hV : GViews w) (hF : GFits w) (hS : GSto w) (hL : GLoc w) (hG : GGlo w) :
    Calls Tryd.prog 4 #[.int .i64 a, .int .i64 b, .int .i64 m] w fun e w' => e = .returned (.bool true) ∧ Bel w w' := by
  have V1 := Lib.hid (view_bel w hV a b)
  have V2 := Lib.hid (r_view a b)
  have E1 := Lib.hid (extract_bel w hV a b)
  have E2 := Lib.hid (r_extract a b)
  have S1 := Lib.hid (store_bel w hS a b m)
  have S2 := Lib.hid (r_store a b m)
  have L1 := Lib.hid (local_bel w hL a b)
  have L2 := Lib.hid (r_local a b)
  have G1 := Lib.hid (global_bel w hG a b)
  have G2 := Lib.hid (r_global a b)
  have AW := Lib.hid (awake_bel w hV hF)
  have B0 := Bel.refl w
  clear hV hF hS hL hG
  revert V1 V2 E1 E2 S1 S2 L1 L2 G1 G2
  generalize (viewV a b != 0) = v0
  generalize viewV a b = v1
  generalize (extractV a b).1 = x1
  generalize (extractV a b).2.1 = x2
  generalize (extractV a b).2.2 = x3
  generalize storeB a b m = s
  generalize localB a b = l
  generalize globalB a b = g
  intro V1 V2 E1 E2 S1 S2 L1 L2 G1 G2
  go_enter Tryd.func4, Tryd.ntmps4
  go_wp2_with (first
    | ((with_reducible refine (V1.out _ (by assumption)).mono ?_); rintro e w' ⟨rfl, rfl⟩)
    | ((with_reducible refine (V2.out _).mono ?_); rintro e w' ⟨rfl, rfl⟩)
    | ((with_reducible refine (E1.out _ (by assumption)).mono ?_); rintro e w' ⟨rfl, rfl⟩)
    | ((with_reducible refine (E2.out _).mono ?_); rintro e w' ⟨rfl, rfl⟩)
    | ((with_reducible refine (S1.out _ (by assumption)).mono ?_); rintro e w1 ⟨rfl, B1⟩)
    | ((with_reducible refine (S2.out _).mono ?_); rintro e w' ⟨rfl, rfl⟩)
    | ((with_reducible refine (L1.out _ (by assumption)).mono ?_); rintro e w' ⟨rfl, rfl⟩)
    | ((with_reducible refine (L2.out _).mono ?_); rintro e w' ⟨rfl, rfl⟩)
    | ((with_reducible refine (G1.out _ (by assumption)).mono ?_); rintro e w' ⟨rfl, rfl⟩)
    | ((with_reducible refine (G2.out _).mono ?_); rintro e w' ⟨rfl, rfl⟩)
    | ((with_reducible refine (AW.out _ (by assumption)).mono ?_); rintro e w2 ⟨rfl, B2⟩))
  go_ret
  exact ⟨rfl, by assumption⟩
end Go.Proofs.YtblklbmolfddpaaDoor
