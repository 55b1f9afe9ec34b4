/- Contract of the statement's own function CapSets. -/
import Derived.Test.YtblklbmolfddpaaDoorSetA
namespace Go.Proofs.YtblklbmolfddpaaDoor
open Go.RowKit


set_option maxRecDepth 100000 in
set_option maxHeartbeats 6400000 in
theorem sets_9 (n : Int) (w : World) (hV : GViews w) (hF : GFits w) (hN : GNam w) (hM : GMem w) (hG : GGlo w) (h0 : 0 ≤ n) (h1 : n ≤ 255) (hn : n % 11 = 8) :
    Calls Tryd.prog 8 #[.int .u8 n] w fun e w' => e = .returned (.bool true) ∧ Bel w w' := by
  have N1 := Lib.hid (name_any 9 w hN)
  have P1 := parse_any (str (nameV 9)) w hN
  rw [show parseV (str (nameV 9)) = (9, 0) from by decide +kernel] at P1
  replace P1 := Lib.hid P1
  have M1 := members_any 9 w hM
  rw [show membersV 9 = [4, 6] from by decide +kernel] at M1
  replace M1 := Lib.hid M1
  have G1 := Lib.hid (fun (x : Int) (W : World) (h : Bel w W) => global_bel w hG x x W h)
  have AW := Lib.hid (awake_bel w hV hF)
  have e1 : (str (nameV 9)).toList = [] ↔ False := by
    constructor
    · intro h; exact absurd h (by decide +kernel)
    · exact False.elim
  generalize str (nameV 9) = s at N1 P1 e1
  have e2 : s.toList ≠ [] := fun h => e1.1 h
  have e3 : (s.toList == []) = false := by cases hq : s.toList with | nil => exact absurd hq e2 | cons a r => rfl
  have e4 : s.toList.isEmpty = false := by cases hq : s.toList with | nil => exact absurd hq e2 | cons a r => rfl
  clear e1 e2 hV hF hN hM hG
  go_enter Tryd.func8, Tryd.ntmps8
  go_wp2_with fail
  refine N1.out.mono ?_
  rintro e w' ⟨rfl, rfl⟩
  clear hn
  go_wp2_with fail
  refine P1.out.mono ?_
  rintro e w' ⟨rfl, rfl⟩
  go_wp2_with fail
  refine M1.out.mono ?_
  rintro e w1 ⟨v, rfl, hi, B1⟩
  clear e3 e4 M1 P1 N1
  obtain ⟨g, cap, rfl, hc⟩ : ∃ g cap, v = .slice (some ⟨g, 0, none⟩) ([4, 6] : List Int).length cap ∧ g < w1.heap.size ∧ ∀ j, j < ([4, 6] : List Int).length → w1.cell? ⟨g, j, none⟩ = some (.int .i64 (([4, 6] : List Int).getD j 0)) := by
    rcases hi with ⟨_, h⟩ | ⟨g, cap, hv, h2, h3⟩
    · cases h
    · exact ⟨g, cap, hv, h2, h3⟩
  have HC := Lib.hid (fun (W : World) (h : Bel w1 W) j (hj : j < ([4, 6] : List Int).length) => (by rw [bcell h g j hc.1]; exact hc.2 j hj : W.cell? ⟨g, j, none⟩ = some (.int .i64 (([4, 6] : List Int).getD j 0))))
  clear hc hi
  have S1 := Lib.hid (isSorted_ints g cap [4, 6] w1 (by decide) (by decide) (HC.out w1 (Bel.refl _)) (sorted_of (by decide)))
  have C1 := Lib.hid (fun W h => clone_compact [4, 6] g cap W (by decide) (by decide) (HC.out W h))
  have K1 := Lib.hid (fun x b W h hb => contains_ints [4, 6] g cap x b W (by decide) (HC.out W h) hb)
  clear HC
  rw [show ([4, 6] : List Int).length = 2 from rfl] at S1 C1 K1
  rw [show (Lib.compact ([4, 6] : List Int)).length = 2 from by decide +kernel] at C1
  go_wp2_with fail
  refine S1.out.mono ?_
  rintro e w2 ⟨rfl, hq⟩
  have B2 : Bel w1 w2 := by obtain ⟨q, rfl⟩ := hq; exact bel_drewN (Bel.refl _) q
  clear hq
  have C2 := Lib.hid (C1.out w2 B2)
  clear C1 S1
  go_wp2_with fail
  refine C2.out.mono ?_
  rintro e w3 ⟨v, rfl, B3, C3⟩
  have C4 := Lib.hid C3
  clear C3 B3 C2
  go_wp2_with fail
  refine C4.out.mono ?_
  rintro e w4 ⟨ad, cp, rfl, B4⟩
  have B5 : Bel w1 w4 := Bel.step B2 B4
  clear B2 B4 C4
  go_wp2_with fail
  go_loopw [8] (fun i wr => ∃ x : Int, 1 ≤ x ∧ x ≤ 7 ∧ i = .int .i64 x ∧ wr = w4) (fun i _ => (8 - intOf i).toNat)
  case atStart => exact ⟨1, by omega, by omega, rfl, rfl⟩
  case round =>
    obtain ⟨x, hx1, hx2, rfl, rfl⟩ := hrel
    have hx : x = 1 ∨ x = 2 ∨ x = 3 ∨ x = 4 ∨ x = 5 ∨ x = 6 ∨ x = 7 := by omega
    rcases hx with rfl | rfl | rfl | rfl | rfl | rfl | rfl
    · have K2 := Lib.hid (K1.out 1 false _ B5 (by decide))
      have G2 := G1.out 1 _ (Bel.step B1 B5)
      rw [show globalB 1 1 = false from by decide +kernel] at G2
      replace G2 := Lib.hid G2
      clear K1 G1 hx1 hx2
      go_wp2_with (first
        | ((with_reducible refine K2.out.mono ?_); rintro e w' ⟨rfl, rfl⟩)
        | ((with_reducible refine G2.out.mono ?_); rintro e w' ⟨rfl, rfl⟩)
        | ((with_reducible refine (reads_1 _).mono ?_); rintro e w' ⟨rfl, rfl⟩)
        | ((with_reducible refine (send_1 _).mono ?_); rintro e w' ⟨rfl, rfl⟩))
      go_roundw
      case rel => exact ⟨2, by omega, by omega, rfl, by trivial⟩
      case measure => simp [intOf]
    · have K2 := Lib.hid (K1.out 2 false _ B5 (by decide))
      have G2 := G1.out 2 _ (Bel.step B1 B5)
      rw [show globalB 2 2 = false from by decide +kernel] at G2
      replace G2 := Lib.hid G2
      clear K1 G1 hx1 hx2
      go_wp2_with (first
        | ((with_reducible refine K2.out.mono ?_); rintro e w' ⟨rfl, rfl⟩)
        | ((with_reducible refine G2.out.mono ?_); rintro e w' ⟨rfl, rfl⟩)
        | ((with_reducible refine (reads_2 _).mono ?_); rintro e w' ⟨rfl, rfl⟩)
        | ((with_reducible refine (send_2 _).mono ?_); rintro e w' ⟨rfl, rfl⟩))
      go_roundw
      case rel => exact ⟨3, by omega, by omega, rfl, by trivial⟩
      case measure => simp [intOf]
    · have K2 := Lib.hid (K1.out 3 false _ B5 (by decide))
      have G2 := G1.out 3 _ (Bel.step B1 B5)
      rw [show globalB 3 3 = false from by decide +kernel] at G2
      replace G2 := Lib.hid G2
      clear K1 G1 hx1 hx2
      go_wp2_with (first
        | ((with_reducible refine K2.out.mono ?_); rintro e w' ⟨rfl, rfl⟩)
        | ((with_reducible refine G2.out.mono ?_); rintro e w' ⟨rfl, rfl⟩)
        | ((with_reducible refine (reads_3 _).mono ?_); rintro e w' ⟨rfl, rfl⟩)
        | ((with_reducible refine (send_3 _).mono ?_); rintro e w' ⟨rfl, rfl⟩))
      go_roundw
      case rel => exact ⟨4, by omega, by omega, rfl, by trivial⟩
      case measure => simp [intOf]
    · have K2 := Lib.hid (K1.out 4 true _ B5 (by decide))
      have G2 := G1.out 4 _ (Bel.step B1 B5)
      rw [show globalB 4 4 = true from by decide +kernel] at G2
      replace G2 := Lib.hid G2
      clear K1 G1 hx1 hx2
      go_wp2_with (first
        | ((with_reducible refine K2.out.mono ?_); rintro e w' ⟨rfl, rfl⟩)
        | ((with_reducible refine G2.out.mono ?_); rintro e w' ⟨rfl, rfl⟩)
        | ((with_reducible refine (reads_4 _).mono ?_); rintro e w' ⟨rfl, rfl⟩)
        | ((with_reducible refine (send_4 _).mono ?_); rintro e w' ⟨rfl, rfl⟩))
      go_roundw
      case rel => exact ⟨5, by omega, by omega, rfl, by trivial⟩
      case measure => simp [intOf]
    · have K2 := Lib.hid (K1.out 5 false _ B5 (by decide))
      have G2 := G1.out 5 _ (Bel.step B1 B5)
      rw [show globalB 5 5 = true from by decide +kernel] at G2
      replace G2 := Lib.hid G2
      clear K1 G1 hx1 hx2
      go_wp2_with (first
        | ((with_reducible refine K2.out.mono ?_); rintro e w' ⟨rfl, rfl⟩)
        | ((with_reducible refine G2.out.mono ?_); rintro e w' ⟨rfl, rfl⟩)
        | ((with_reducible refine (reads_5 _).mono ?_); rintro e w' ⟨rfl, rfl⟩)
        | ((with_reducible refine (send_5 _).mono ?_); rintro e w' ⟨rfl, rfl⟩))
      go_roundw
      case rel => exact ⟨6, by omega, by omega, rfl, by trivial⟩
      case measure => simp [intOf]
    · have K2 := Lib.hid (K1.out 6 true _ B5 (by decide))
      have G2 := G1.out 6 _ (Bel.step B1 B5)
      rw [show globalB 6 6 = true from by decide +kernel] at G2
      replace G2 := Lib.hid G2
      clear K1 G1 hx1 hx2
      go_wp2_with (first
        | ((with_reducible refine K2.out.mono ?_); rintro e w' ⟨rfl, rfl⟩)
        | ((with_reducible refine G2.out.mono ?_); rintro e w' ⟨rfl, rfl⟩)
        | ((with_reducible refine (reads_6 _).mono ?_); rintro e w' ⟨rfl, rfl⟩)
        | ((with_reducible refine (send_6 _).mono ?_); rintro e w' ⟨rfl, rfl⟩))
      go_roundw
      case rel => exact ⟨7, by omega, by omega, rfl, by trivial⟩
      case measure => simp [intOf]
    · clear K1 G1 hx1 hx2
      have AW' := Lib.hid (AW.out _ (Bel.step B1 B5))
      go_wp2_with fail
      refine AW'.out.mono ?_
      rintro e w5 ⟨rfl, B6⟩
      go_wp2_with fail
      go_ret
      exact ⟨rfl, B6⟩

set_option maxRecDepth 100000 in
set_option maxHeartbeats 6400000 in
theorem sets_10 (n : Int) (w : World) (hV : GViews w) (hF : GFits w) (hN : GNam w) (hM : GMem w) (hG : GGlo w) (h0 : 0 ≤ n) (h1 : n ≤ 255) (hn : n % 11 = 9) :
    Calls Tryd.prog 8 #[.int .u8 n] w fun e w' => e = .returned (.bool true) ∧ Bel w w' := by
  have N1 := Lib.hid (name_any 10 w hN)
  have P1 := parse_any (str (nameV 10)) w hN
  rw [show parseV (str (nameV 10)) = (10, 0) from by decide +kernel] at P1
  replace P1 := Lib.hid P1
  have M1 := members_any 10 w hM
  rw [show membersV 10 = [3, 4, 5, 6] from by decide +kernel] at M1
  replace M1 := Lib.hid M1
  have G1 := Lib.hid (fun (x : Int) (W : World) (h : Bel w W) => global_bel w hG x x W h)
  have AW := Lib.hid (awake_bel w hV hF)
  have e1 : (str (nameV 10)).toList = [] ↔ False := by
    constructor
    · intro h; exact absurd h (by decide +kernel)
    · exact False.elim
  generalize str (nameV 10) = s at N1 P1 e1
  have e2 : s.toList ≠ [] := fun h => e1.1 h
  have e3 : (s.toList == []) = false := by cases hq : s.toList with | nil => exact absurd hq e2 | cons a r => rfl
  have e4 : s.toList.isEmpty = false := by cases hq : s.toList with | nil => exact absurd hq e2 | cons a r => rfl
  clear e1 e2 hV hF hN hM hG
  go_enter Tryd.func8, Tryd.ntmps8
  go_wp2_with fail
  refine N1.out.mono ?_
  rintro e w' ⟨rfl, rfl⟩
  clear hn
  go_wp2_with fail
  refine P1.out.mono ?_
  rintro e w' ⟨rfl, rfl⟩
  go_wp2_with fail
  refine M1.out.mono ?_
  rintro e w1 ⟨v, rfl, hi, B1⟩
  clear e3 e4 M1 P1 N1
  obtain ⟨g, cap, rfl, hc⟩ : ∃ g cap, v = .slice (some ⟨g, 0, none⟩) ([3, 4, 5, 6] : List Int).length cap ∧ g < w1.heap.size ∧ ∀ j, j < ([3, 4, 5, 6] : List Int).length → w1.cell? ⟨g, j, none⟩ = some (.int .i64 (([3, 4, 5, 6] : List Int).getD j 0)) := by
    rcases hi with ⟨_, h⟩ | ⟨g, cap, hv, h2, h3⟩
    · cases h
    · exact ⟨g, cap, hv, h2, h3⟩
  have HC := Lib.hid (fun (W : World) (h : Bel w1 W) j (hj : j < ([3, 4, 5, 6] : List Int).length) => (by rw [bcell h g j hc.1]; exact hc.2 j hj : W.cell? ⟨g, j, none⟩ = some (.int .i64 (([3, 4, 5, 6] : List Int).getD j 0))))
  clear hc hi
  have S1 := Lib.hid (isSorted_ints g cap [3, 4, 5, 6] w1 (by decide) (by decide) (HC.out w1 (Bel.refl _)) (sorted_of (by decide)))
  have C1 := Lib.hid (fun W h => clone_compact [3, 4, 5, 6] g cap W (by decide) (by decide) (HC.out W h))
  have K1 := Lib.hid (fun x b W h hb => contains_ints [3, 4, 5, 6] g cap x b W (by decide) (HC.out W h) hb)
  clear HC
  rw [show ([3, 4, 5, 6] : List Int).length = 4 from rfl] at S1 C1 K1
  rw [show (Lib.compact ([3, 4, 5, 6] : List Int)).length = 4 from by decide +kernel] at C1
  go_wp2_with fail
  refine S1.out.mono ?_
  rintro e w2 ⟨rfl, hq⟩
  have B2 : Bel w1 w2 := by obtain ⟨q, rfl⟩ := hq; exact bel_drewN (Bel.refl _) q
  clear hq
  have C2 := Lib.hid (C1.out w2 B2)
  clear C1 S1
  go_wp2_with fail
  refine C2.out.mono ?_
  rintro e w3 ⟨v, rfl, B3, C3⟩
  have C4 := Lib.hid C3
  clear C3 B3 C2
  go_wp2_with fail
  refine C4.out.mono ?_
  rintro e w4 ⟨ad, cp, rfl, B4⟩
  have B5 : Bel w1 w4 := Bel.step B2 B4
  clear B2 B4 C4
  go_wp2_with fail
  go_loopw [8] (fun i wr => ∃ x : Int, 1 ≤ x ∧ x ≤ 7 ∧ i = .int .i64 x ∧ wr = w4) (fun i _ => (8 - intOf i).toNat)
  case atStart => exact ⟨1, by omega, by omega, rfl, rfl⟩
  case round =>
    obtain ⟨x, hx1, hx2, rfl, rfl⟩ := hrel
    have hx : x = 1 ∨ x = 2 ∨ x = 3 ∨ x = 4 ∨ x = 5 ∨ x = 6 ∨ x = 7 := by omega
    rcases hx with rfl | rfl | rfl | rfl | rfl | rfl | rfl
    · have K2 := Lib.hid (K1.out 1 false _ B5 (by decide))
      have G2 := G1.out 1 _ (Bel.step B1 B5)
      rw [show globalB 1 1 = false from by decide +kernel] at G2
      replace G2 := Lib.hid G2
      clear K1 G1 hx1 hx2
      go_wp2_with (first
        | ((with_reducible refine K2.out.mono ?_); rintro e w' ⟨rfl, rfl⟩)
        | ((with_reducible refine G2.out.mono ?_); rintro e w' ⟨rfl, rfl⟩)
        | ((with_reducible refine (reads_1 _).mono ?_); rintro e w' ⟨rfl, rfl⟩)
        | ((with_reducible refine (send_1 _).mono ?_); rintro e w' ⟨rfl, rfl⟩))
      go_roundw
      case rel => exact ⟨2, by omega, by omega, rfl, by trivial⟩
      case measure => simp [intOf]
    · have K2 := Lib.hid (K1.out 2 false _ B5 (by decide))
      have G2 := G1.out 2 _ (Bel.step B1 B5)
      rw [show globalB 2 2 = false from by decide +kernel] at G2
      replace G2 := Lib.hid G2
      clear K1 G1 hx1 hx2
      go_wp2_with (first
        | ((with_reducible refine K2.out.mono ?_); rintro e w' ⟨rfl, rfl⟩)
        | ((with_reducible refine G2.out.mono ?_); rintro e w' ⟨rfl, rfl⟩)
        | ((with_reducible refine (reads_2 _).mono ?_); rintro e w' ⟨rfl, rfl⟩)
        | ((with_reducible refine (send_2 _).mono ?_); rintro e w' ⟨rfl, rfl⟩))
      go_roundw
      case rel => exact ⟨3, by omega, by omega, rfl, by trivial⟩
      case measure => simp [intOf]
    · have K2 := Lib.hid (K1.out 3 true _ B5 (by decide))
      have G2 := G1.out 3 _ (Bel.step B1 B5)
      rw [show globalB 3 3 = false from by decide +kernel] at G2
      replace G2 := Lib.hid G2
      clear K1 G1 hx1 hx2
      go_wp2_with (first
        | ((with_reducible refine K2.out.mono ?_); rintro e w' ⟨rfl, rfl⟩)
        | ((with_reducible refine G2.out.mono ?_); rintro e w' ⟨rfl, rfl⟩)
        | ((with_reducible refine (reads_3 _).mono ?_); rintro e w' ⟨rfl, rfl⟩)
        | ((with_reducible refine (send_3 _).mono ?_); rintro e w' ⟨rfl, rfl⟩))
      go_roundw
      case rel => exact ⟨4, by omega, by omega, rfl, by trivial⟩
      case measure => simp [intOf]
    · have K2 := Lib.hid (K1.out 4 true _ B5 (by decide))
      have G2 := G1.out 4 _ (Bel.step B1 B5)
      rw [show globalB 4 4 = true from by decide +kernel] at G2
      replace G2 := Lib.hid G2
      clear K1 G1 hx1 hx2
      go_wp2_with (first
        | ((with_reducible refine K2.out.mono ?_); rintro e w' ⟨rfl, rfl⟩)
        | ((with_reducible refine G2.out.mono ?_); rintro e w' ⟨rfl, rfl⟩)
        | ((with_reducible refine (reads_4 _).mono ?_); rintro e w' ⟨rfl, rfl⟩)
        | ((with_reducible refine (send_4 _).mono ?_); rintro e w' ⟨rfl, rfl⟩))
      go_roundw
      case rel => exact ⟨5, by omega, by omega, rfl, by trivial⟩
      case measure => simp [intOf]
    · have K2 := Lib.hid (K1.out 5 true _ B5 (by decide))
      have G2 := G1.out 5 _ (Bel.step B1 B5)
      rw [show globalB 5 5 = true from by decide +kernel] at G2
      replace G2 := Lib.hid G2
      clear K1 G1 hx1 hx2
      go_wp2_with (first
        | ((with_reducible refine K2.out.mono ?_); rintro e w' ⟨rfl, rfl⟩)
        | ((with_reducible refine G2.out.mono ?_); rintro e w' ⟨rfl, rfl⟩)
        | ((with_reducible refine (reads_5 _).mono ?_); rintro e w' ⟨rfl, rfl⟩)
        | ((with_reducible refine (send_5 _).mono ?_); rintro e w' ⟨rfl, rfl⟩))
      go_roundw
      case rel => exact ⟨6, by omega, by omega, rfl, by trivial⟩
      case measure => simp [intOf]
    · have K2 := Lib.hid (K1.out 6 true _ B5 (by decide))
      have G2 := G1.out 6 _ (Bel.step B1 B5)
      rw [show globalB 6 6 = true from by decide +kernel] at G2
      replace G2 := Lib.hid G2
      clear K1 G1 hx1 hx2
      go_wp2_with (first
        | ((with_reducible refine K2.out.mono ?_); rintro e w' ⟨rfl, rfl⟩)
        | ((with_reducible refine G2.out.mono ?_); rintro e w' ⟨rfl, rfl⟩)
        | ((with_reducible refine (reads_6 _).mono ?_); rintro e w' ⟨rfl, rfl⟩)
        | ((with_reducible refine (send_6 _).mono ?_); rintro e w' ⟨rfl, rfl⟩))
      go_roundw
      case rel => exact ⟨7, by omega, by omega, rfl, by trivial⟩
      case measure => simp [intOf]
    · clear K1 G1 hx1 hx2
      have AW' := Lib.hid (AW.out _ (Bel.step B1 B5))
      go_wp2_with fail
      refine AW'.out.mono ?_
      rintro e w5 ⟨rfl, B6⟩
      go_wp2_with fail
      go_ret
      exact ⟨rfl, B6⟩

set_option maxRecDepth 100000 in
set_option maxHeartbeats 6400000 in
theorem sets_11 (n : Int) (w : World) (hV : GViews w) (hF : GFits w) (hN : GNam w) (hM : GMem w) (hG : GGlo w) (h0 : 0 ≤ n) (h1 : n ≤ 255) (hn : n % 11 = 10) :
    Calls Tryd.prog 8 #[.int .u8 n] w fun e w' => e = .returned (.bool true) ∧ Bel w w' := by
  have N1 := Lib.hid (name_any 11 w hN)
  have P1 := parse_any (str (nameV 11)) w hN
  rw [show parseV (str (nameV 11)) = (11, 0) from by decide +kernel] at P1
  replace P1 := Lib.hid P1
  have M1 := members_any 11 w hM
  rw [show membersV 11 = [1, 2, 3, 4, 5, 6] from by decide +kernel] at M1
  replace M1 := Lib.hid M1
  have G1 := Lib.hid (fun (x : Int) (W : World) (h : Bel w W) => global_bel w hG x x W h)
  have AW := Lib.hid (awake_bel w hV hF)
  have e1 : (str (nameV 11)).toList = [] ↔ False := by
    constructor
    · intro h; exact absurd h (by decide +kernel)
    · exact False.elim
  generalize str (nameV 11) = s at N1 P1 e1
  have e2 : s.toList ≠ [] := fun h => e1.1 h
  have e3 : (s.toList == []) = false := by cases hq : s.toList with | nil => exact absurd hq e2 | cons a r => rfl
  have e4 : s.toList.isEmpty = false := by cases hq : s.toList with | nil => exact absurd hq e2 | cons a r => rfl
  clear e1 e2 hV hF hN hM hG
  go_enter Tryd.func8, Tryd.ntmps8
  go_wp2_with fail
  refine N1.out.mono ?_
  rintro e w' ⟨rfl, rfl⟩
  clear hn
  go_wp2_with fail
  refine P1.out.mono ?_
  rintro e w' ⟨rfl, rfl⟩
  go_wp2_with fail
  refine M1.out.mono ?_
  rintro e w1 ⟨v, rfl, hi, B1⟩
  clear e3 e4 M1 P1 N1
  obtain ⟨g, cap, rfl, hc⟩ : ∃ g cap, v = .slice (some ⟨g, 0, none⟩) ([1, 2, 3, 4, 5, 6] : List Int).length cap ∧ g < w1.heap.size ∧ ∀ j, j < ([1, 2, 3, 4, 5, 6] : List Int).length → w1.cell? ⟨g, j, none⟩ = some (.int .i64 (([1, 2, 3, 4, 5, 6] : List Int).getD j 0)) := by
    rcases hi with ⟨_, h⟩ | ⟨g, cap, hv, h2, h3⟩
    · cases h
    · exact ⟨g, cap, hv, h2, h3⟩
  have HC := Lib.hid (fun (W : World) (h : Bel w1 W) j (hj : j < ([1, 2, 3, 4, 5, 6] : List Int).length) => (by rw [bcell h g j hc.1]; exact hc.2 j hj : W.cell? ⟨g, j, none⟩ = some (.int .i64 (([1, 2, 3, 4, 5, 6] : List Int).getD j 0))))
  clear hc hi
  have S1 := Lib.hid (isSorted_ints g cap [1, 2, 3, 4, 5, 6] w1 (by decide) (by decide) (HC.out w1 (Bel.refl _)) (sorted_of (by decide)))
  have C1 := Lib.hid (fun W h => clone_compact [1, 2, 3, 4, 5, 6] g cap W (by decide) (by decide) (HC.out W h))
  have K1 := Lib.hid (fun x b W h hb => contains_ints [1, 2, 3, 4, 5, 6] g cap x b W (by decide) (HC.out W h) hb)
  clear HC
  rw [show ([1, 2, 3, 4, 5, 6] : List Int).length = 6 from rfl] at S1 C1 K1
  rw [show (Lib.compact ([1, 2, 3, 4, 5, 6] : List Int)).length = 6 from by decide +kernel] at C1
  go_wp2_with fail
  refine S1.out.mono ?_
  rintro e w2 ⟨rfl, hq⟩
  have B2 : Bel w1 w2 := by obtain ⟨q, rfl⟩ := hq; exact bel_drewN (Bel.refl _) q
  clear hq
  have C2 := Lib.hid (C1.out w2 B2)
  clear C1 S1
  go_wp2_with fail
  refine C2.out.mono ?_
  rintro e w3 ⟨v, rfl, B3, C3⟩
  have C4 := Lib.hid C3
  clear C3 B3 C2
  go_wp2_with fail
  refine C4.out.mono ?_
  rintro e w4 ⟨ad, cp, rfl, B4⟩
  have B5 : Bel w1 w4 := Bel.step B2 B4
  clear B2 B4 C4
  go_wp2_with fail
  go_loopw [8] (fun i wr => ∃ x : Int, 1 ≤ x ∧ x ≤ 7 ∧ i = .int .i64 x ∧ wr = w4) (fun i _ => (8 - intOf i).toNat)
  case atStart => exact ⟨1, by omega, by omega, rfl, rfl⟩
  case round =>
    obtain ⟨x, hx1, hx2, rfl, rfl⟩ := hrel
    have hx : x = 1 ∨ x = 2 ∨ x = 3 ∨ x = 4 ∨ x = 5 ∨ x = 6 ∨ x = 7 := by omega
    rcases hx with rfl | rfl | rfl | rfl | rfl | rfl | rfl
    · have K2 := Lib.hid (K1.out 1 true _ B5 (by decide))
      have G2 := G1.out 1 _ (Bel.step B1 B5)
      rw [show globalB 1 1 = false from by decide +kernel] at G2
      replace G2 := Lib.hid G2
      clear K1 G1 hx1 hx2
      go_wp2_with (first
        | ((with_reducible refine K2.out.mono ?_); rintro e w' ⟨rfl, rfl⟩)
        | ((with_reducible refine G2.out.mono ?_); rintro e w' ⟨rfl, rfl⟩)
        | ((with_reducible refine (reads_1 _).mono ?_); rintro e w' ⟨rfl, rfl⟩)
        | ((with_reducible refine (send_1 _).mono ?_); rintro e w' ⟨rfl, rfl⟩))
      go_roundw
      case rel => exact ⟨2, by omega, by omega, rfl, by trivial⟩
      case measure => simp [intOf]
    · have K2 := Lib.hid (K1.out 2 true _ B5 (by decide))
      have G2 := G1.out 2 _ (Bel.step B1 B5)
      rw [show globalB 2 2 = false from by decide +kernel] at G2
      replace G2 := Lib.hid G2
      clear K1 G1 hx1 hx2
      go_wp2_with (first
        | ((with_reducible refine K2.out.mono ?_); rintro e w' ⟨rfl, rfl⟩)
        | ((with_reducible refine G2.out.mono ?_); rintro e w' ⟨rfl, rfl⟩)
        | ((with_reducible refine (reads_2 _).mono ?_); rintro e w' ⟨rfl, rfl⟩)
        | ((with_reducible refine (send_2 _).mono ?_); rintro e w' ⟨rfl, rfl⟩))
      go_roundw
      case rel => exact ⟨3, by omega, by omega, rfl, by trivial⟩
      case measure => simp [intOf]
    · have K2 := Lib.hid (K1.out 3 true _ B5 (by decide))
      have G2 := G1.out 3 _ (Bel.step B1 B5)
      rw [show globalB 3 3 = false from by decide +kernel] at G2
      replace G2 := Lib.hid G2
      clear K1 G1 hx1 hx2
      go_wp2_with (first
        | ((with_reducible refine K2.out.mono ?_); rintro e w' ⟨rfl, rfl⟩)
        | ((with_reducible refine G2.out.mono ?_); rintro e w' ⟨rfl, rfl⟩)
        | ((with_reducible refine (reads_3 _).mono ?_); rintro e w' ⟨rfl, rfl⟩)
        | ((with_reducible refine (send_3 _).mono ?_); rintro e w' ⟨rfl, rfl⟩))
      go_roundw
      case rel => exact ⟨4, by omega, by omega, rfl, by trivial⟩
      case measure => simp [intOf]
    · have K2 := Lib.hid (K1.out 4 true _ B5 (by decide))
      have G2 := G1.out 4 _ (Bel.step B1 B5)
      rw [show globalB 4 4 = true from by decide +kernel] at G2
      replace G2 := Lib.hid G2
      clear K1 G1 hx1 hx2
      go_wp2_with (first
        | ((with_reducible refine K2.out.mono ?_); rintro e w' ⟨rfl, rfl⟩)
        | ((with_reducible refine G2.out.mono ?_); rintro e w' ⟨rfl, rfl⟩)
        | ((with_reducible refine (reads_4 _).mono ?_); rintro e w' ⟨rfl, rfl⟩)
        | ((with_reducible refine (send_4 _).mono ?_); rintro e w' ⟨rfl, rfl⟩))
      go_roundw
      case rel => exact ⟨5, by omega, by omega, rfl, by trivial⟩
      case measure => simp [intOf]
    · have K2 := Lib.hid (K1.out 5 true _ B5 (by decide))
      have G2 := G1.out 5 _ (Bel.step B1 B5)
      rw [show globalB 5 5 = true from by decide +kernel] at G2
      replace G2 := Lib.hid G2
      clear K1 G1 hx1 hx2
      go_wp2_with (first
        | ((with_reducible refine K2.out.mono ?_); rintro e w' ⟨rfl, rfl⟩)
        | ((with_reducible refine G2.out.mono ?_); rintro e w' ⟨rfl, rfl⟩)
        | ((with_reducible refine (reads_5 _).mono ?_); rintro e w' ⟨rfl, rfl⟩)
        | ((with_reducible refine (send_5 _).mono ?_); rintro e w' ⟨rfl, rfl⟩))
      go_roundw
      case rel => exact ⟨6, by omega, by omega, rfl, by trivial⟩
      case measure => simp [intOf]
    · have K2 := Lib.hid (K1.out 6 true _ B5 (by decide))
      have G2 := G1.out 6 _ (Bel.step B1 B5)
      rw [show globalB 6 6 = true from by decide +kernel] at G2
      replace G2 := Lib.hid G2
      clear K1 G1 hx1 hx2
      go_wp2_with (first
        | ((with_reducible refine K2.out.mono ?_); rintro e w' ⟨rfl, rfl⟩)
        | ((with_reducible refine G2.out.mono ?_); rintro e w' ⟨rfl, rfl⟩)
        | ((with_reducible refine (reads_6 _).mono ?_); rintro e w' ⟨rfl, rfl⟩)
        | ((with_reducible refine (send_6 _).mono ?_); rintro e w' ⟨rfl, rfl⟩))
      go_roundw
      case rel => exact ⟨7, by omega, by omega, rfl, by trivial⟩
      case measure => simp [intOf]
    · clear K1 G1 hx1 hx2
      have AW' := Lib.hid (AW.out _ (Bel.step B1 B5))
      go_wp2_with fail
      refine AW'.out.mono ?_
      rintro e w5 ⟨rfl, B6⟩
      go_wp2_with fail
      go_ret
      exact ⟨rfl, B6⟩
end Go.Proofs.YtblklbmolfddpaaDoor
