/- Contract of the statement's own function CapSets. -/
import Derived.Test.YtblklbmolfddpaaDoorSrt
import Derived.Test.YtblklbmolfddpaaDoorPer
namespace Go.Proofs.YtblklbmolfddpaaDoor
open Go.RowKit


theorem below_setCells {B b : Nat} {a : World} (hb : B ≤ b) : ∀ (vs : List Value) (o : Nat) (w : World), Below B a w → Below B a (w.setCells b o vs)
  | [], _, _, h => h
  | v :: r, o, _, h => below_setCells hb r (o + 1) _ (h.setCell (p := ⟨b, o, none⟩) hb v)
def sortedB (l : List Int) : Bool := (List.range l.length).all fun j => j == 0 || !decide (l.getD j 0 < l.getD (j - 1) 0)
theorem sorted_of {l : List Int} (h : sortedB l = true) : ∀ j, 0 < j → j < l.length → decide (l.getD j 0 < l.getD (j - 1) 0) = false := fun j h0 h1 => by
  have := List.all_eq_true.1 h j (List.mem_range.2 h1)
  have hj : (j == 0) = false := by simp; omega
  rw [hj] at this
  simpa using this
theorem compact_own (B : Nat) (v : Value) (l : List Int) (W : World) (hl : l.length ≤ 1000) (hne : l ≠ []) (hB : B ≤ W.heap.size) (h : W.ownsRow B 3 1 v l.length (intsV l)) :
    Calls Tryd.prog 48 #[v] W fun e w' => ∃ a c, e = .returned (.slice a ((Lib.compact l).length : Nat) c) ∧ Below B W w' := by
  rcases h.2 with ⟨_, h0⟩ | ⟨g, cap, cur, rfl, hb, hg, hn, hm, hs, ht⟩
  · exact absurd (List.eq_nil_of_length_eq_zero h0) hne
  · have hcells : ∀ j, j < l.length → W.cell? ⟨g, 0 + j, none⟩ = some (.int .i64 (l.getD j 0)) := fun j hj => by
      have := h.cells (g := g) rfl j (.int .i64 (l.getD j 0)) (by simp [intsV, List.getD, List.getElem?_eq_getElem hj])
      rw [show (⟨g, 0, none⟩ : Addr).add j = ⟨g, 0 + j, none⟩ from by unfold Addr.add; split <;> simp_all] at this
      exact this
    refine (Tryd.slices_Compact_int_cells g 0 l.length cap l W (Nat.le_refl _) (by omega) hn hcells (fun j hj => by simp [World.frozen?, hg])).mono fun e w' h => ?_
    obtain ⟨he, q, hw⟩ := h
    rw [List.take_of_length_le (Nat.le_refl _)] at he
    refine ⟨_, _, he, ?_⟩
    rw [hw]
    exact below_setCells hb _ _ _ ⟨rfl, rfl, rfl, Nat.le_refl _, fun _ _ => rfl⟩

theorem clone_compact (l : List Int) (g cap : Nat) (W : World) (hl : l.length ≤ 1000) (hne : l ≠ []) (hc : ∀ j, j < l.length → W.cell? ⟨g, j, none⟩ = some (.int .i64 (l.getD j 0))) :
    Calls Tryd.prog 49 #[.slice (some ⟨g, 0, none⟩) l.length cap] W fun e w' => ∃ v, e = .returned v ∧ Bel W w' ∧
      Calls Tryd.prog 48 #[v] w' fun e w2 => ∃ a c, e = .returned (.slice a ((Lib.compact l).length : Nat) c) ∧ Bel W w2 := by
  refine (Tryd.slices_Clone_int g 0 l.length cap l W (Nat.le_refl _) (by omega) (fun j hj => by rw [Nat.zero_add]; exact hc j hj)).mono fun e w' h => ?_
  obtain ⟨v, he, ho, _, hb⟩ := h
  rw [List.take_of_length_le (Nat.le_refl _)] at ho
  exact ⟨v, he, hb, (compact_own W.heap.size v l w' hl hne hb.size ho).mono fun e w2 h2 => by
    obtain ⟨a, c, he2, hb2⟩ := h2
    exact ⟨a, c, he2, hb.trans hb2⟩⟩

theorem contains_ints (l : List Int) (g cap : Nat) (x : Int) (b : Bool) (W : World) (hl : l.length ≤ 1000) (hc : ∀ j, j < l.length → W.cell? ⟨g, j, none⟩ = some (.int .i64 (l.getD j 0))) (hb : l.contains x = b) :
    Calls Tryd.prog 50 #[.slice (some ⟨g, 0, none⟩) l.length cap, .int .i64 x] W fun e w' => e = .returned (.bool b) ∧ W = w' := by
  refine (Tryd.slices_Contains_int g 0 l.length cap l x W (Nat.le_refl _) (by omega) (fun j hj => by rw [Nat.zero_add]; exact hc j hj)).mono fun e w' h => ?_
  obtain ⟨he, hw⟩ := h
  rw [List.take_of_length_le (Nat.le_refl _), hb] at he
  exact ⟨he, hw.symm⟩


set_option maxRecDepth 100000 in
set_option maxHeartbeats 6400000 in
theorem sets_1 (n : Int) (w : World) (hV : GViews w) (hF : GFits w) (hN : GNam w) (hM : GMem w) (hG : GGlo w) (h0 : 0 ≤ n) (h1 : n ≤ 255) (hn : n % 11 = 0) :
    Calls Tryd.prog 8 #[.int .u8 n] w fun e w' => e = .returned (.bool true) ∧ Bel w w' := by
  have N1 := Lib.hid (name_any 1 w hN)
  have P1 := parse_any (str (nameV 1)) w hN
  rw [show parseV (str (nameV 1)) = (1, 0) from by decide +kernel] at P1
  replace P1 := Lib.hid P1
  have M1 := members_any 1 w hM
  rw [show membersV 1 = [1] from by decide +kernel] at M1
  replace M1 := Lib.hid M1
  have G1 := Lib.hid (fun (x : Int) (W : World) (h : Bel w W) => global_bel w hG x x W h)
  have AW := Lib.hid (awake_bel w hV hF)
  have e1 : (str (nameV 1)).toList = [] ↔ False := by
    constructor
    · intro h; exact absurd h (by decide +kernel)
    · exact False.elim
  generalize str (nameV 1) = s at N1 P1 e1
  have e2 : s.toList ≠ [] := fun h => e1.1 h
  have e3 : (s.toList == []) = false := by cases hq : s.toList with | nil => exact absurd hq e2 | cons a r => rfl
  have e4 : s.toList.isEmpty = false := by cases hq : s.toList with | nil => exact absurd hq e2 | cons a r => rfl
  clear e1 e2 hV hF hN hM hG
  go_enter Tryd.func8, Tryd.ntmps8
  go_wp2_with fail
  refine N1.out.mono ?_
  rintro e w' ⟨rfl, rfl⟩
  clear hn
  go_wp2_with fail
  refine P1.out.mono ?_
  rintro e w' ⟨rfl, rfl⟩
  go_wp2_with fail
  refine M1.out.mono ?_
  rintro e w1 ⟨v, rfl, hi, B1⟩
  clear e3 e4 M1 P1 N1
  obtain ⟨g, cap, rfl, hc⟩ : ∃ g cap, v = .slice (some ⟨g, 0, none⟩) ([1] : List Int).length cap ∧ g < w1.heap.size ∧ ∀ j, j < ([1] : List Int).length → w1.cell? ⟨g, j, none⟩ = some (.int .i64 (([1] : List Int).getD j 0)) := by
    rcases hi with ⟨_, h⟩ | ⟨g, cap, hv, h2, h3⟩
    · cases h
    · exact ⟨g, cap, hv, h2, h3⟩
  have HC := Lib.hid (fun (W : World) (h : Bel w1 W) j (hj : j < ([1] : List Int).length) => (by rw [bcell h g j hc.1]; exact hc.2 j hj : W.cell? ⟨g, j, none⟩ = some (.int .i64 (([1] : List Int).getD j 0))))
  clear hc hi
  have S1 := Lib.hid (isSorted_ints g cap [1] w1 (by decide) (by decide) (HC.out w1 (Bel.refl _)) (sorted_of (by decide)))
  have C1 := Lib.hid (fun W h => clone_compact [1] g cap W (by decide) (by decide) (HC.out W h))
  have K1 := Lib.hid (fun x b W h hb => contains_ints [1] g cap x b W (by decide) (HC.out W h) hb)
  clear HC
  rw [show ([1] : List Int).length = 1 from rfl] at S1 C1 K1
  rw [show (Lib.compact ([1] : List Int)).length = 1 from by decide +kernel] at C1
  go_wp2_with fail
  refine S1.out.mono ?_
  rintro e w2 ⟨rfl, hq⟩
  have B2 : Bel w1 w2 := by obtain ⟨q, rfl⟩ := hq; exact bel_drewN (Bel.refl _) q
  clear hq
  have C2 := Lib.hid (C1.out w2 B2)
  clear C1 S1
  go_wp2_with fail
  refine C2.out.mono ?_
  rintro e w3 ⟨v, rfl, B3, C3⟩
  have C4 := Lib.hid C3
  clear C3 B3 C2
  go_wp2_with fail
  refine C4.out.mono ?_
  rintro e w4 ⟨ad, cp, rfl, B4⟩
  have B5 : Bel w1 w4 := Bel.step B2 B4
  clear B2 B4 C4
  go_wp2_with fail
  go_loopw [8] (fun i wr => ∃ x : Int, 1 ≤ x ∧ x ≤ 7 ∧ i = .int .i64 x ∧ wr = w4) (fun i _ => (8 - intOf i).toNat)
  case atStart => exact ⟨1, by omega, by omega, rfl, rfl⟩
  case round =>
    obtain ⟨x, hx1, hx2, rfl, rfl⟩ := hrel
    have hx : x = 1 ∨ x = 2 ∨ x = 3 ∨ x = 4 ∨ x = 5 ∨ x = 6 ∨ x = 7 := by omega
    rcases hx with rfl | rfl | rfl | rfl | rfl | rfl | rfl
    · have K2 := Lib.hid (K1.out 1 true _ B5 (by decide))
      have G2 := G1.out 1 _ (Bel.step B1 B5)
      rw [show globalB 1 1 = false from by decide +kernel] at G2
      replace G2 := Lib.hid G2
      clear K1 G1 hx1 hx2
      go_wp2_with (first
        | ((with_reducible refine K2.out.mono ?_); rintro e w' ⟨rfl, rfl⟩)
        | ((with_reducible refine G2.out.mono ?_); rintro e w' ⟨rfl, rfl⟩)
        | ((with_reducible refine (reads_1 _).mono ?_); rintro e w' ⟨rfl, rfl⟩)
        | ((with_reducible refine (send_1 _).mono ?_); rintro e w' ⟨rfl, rfl⟩))
      go_roundw
      case rel => exact ⟨2, by omega, by omega, rfl, by trivial⟩
      case measure => simp [intOf]
    · have K2 := Lib.hid (K1.out 2 false _ B5 (by decide))
      have G2 := G1.out 2 _ (Bel.step B1 B5)
      rw [show globalB 2 2 = false from by decide +kernel] at G2
      replace G2 := Lib.hid G2
      clear K1 G1 hx1 hx2
      go_wp2_with (first
        | ((with_reducible refine K2.out.mono ?_); rintro e w' ⟨rfl, rfl⟩)
        | ((with_reducible refine G2.out.mono ?_); rintro e w' ⟨rfl, rfl⟩)
        | ((with_reducible refine (reads_2 _).mono ?_); rintro e w' ⟨rfl, rfl⟩)
        | ((with_reducible refine (send_2 _).mono ?_); rintro e w' ⟨rfl, rfl⟩))
      go_roundw
      case rel => exact ⟨3, by omega, by omega, rfl, by trivial⟩
      case measure => simp [intOf]
    · have K2 := Lib.hid (K1.out 3 false _ B5 (by decide))
      have G2 := G1.out 3 _ (Bel.step B1 B5)
      rw [show globalB 3 3 = false from by decide +kernel] at G2
      replace G2 := Lib.hid G2
      clear K1 G1 hx1 hx2
      go_wp2_with (first
        | ((with_reducible refine K2.out.mono ?_); rintro e w' ⟨rfl, rfl⟩)
        | ((with_reducible refine G2.out.mono ?_); rintro e w' ⟨rfl, rfl⟩)
        | ((with_reducible refine (reads_3 _).mono ?_); rintro e w' ⟨rfl, rfl⟩)
        | ((with_reducible refine (send_3 _).mono ?_); rintro e w' ⟨rfl, rfl⟩))
      go_roundw
      case rel => exact ⟨4, by omega, by omega, rfl, by trivial⟩
      case measure => simp [intOf]
    · have K2 := Lib.hid (K1.out 4 false _ B5 (by decide))
      have G2 := G1.out 4 _ (Bel.step B1 B5)
      rw [show globalB 4 4 = true from by decide +kernel] at G2
      replace G2 := Lib.hid G2
      clear K1 G1 hx1 hx2
      go_wp2_with (first
        | ((with_reducible refine K2.out.mono ?_); rintro e w' ⟨rfl, rfl⟩)
        | ((with_reducible refine G2.out.mono ?_); rintro e w' ⟨rfl, rfl⟩)
        | ((with_reducible refine (reads_4 _).mono ?_); rintro e w' ⟨rfl, rfl⟩)
        | ((with_reducible refine (send_4 _).mono ?_); rintro e w' ⟨rfl, rfl⟩))
      go_roundw
      case rel => exact ⟨5, by omega, by omega, rfl, by trivial⟩
      case measure => simp [intOf]
    · have K2 := Lib.hid (K1.out 5 false _ B5 (by decide))
      have G2 := G1.out 5 _ (Bel.step B1 B5)
      rw [show globalB 5 5 = true from by decide +kernel] at G2
      replace G2 := Lib.hid G2
      clear K1 G1 hx1 hx2
      go_wp2_with (first
        | ((with_reducible refine K2.out.mono ?_); rintro e w' ⟨rfl, rfl⟩)
        | ((with_reducible refine G2.out.mono ?_); rintro e w' ⟨rfl, rfl⟩)
        | ((with_reducible refine (reads_5 _).mono ?_); rintro e w' ⟨rfl, rfl⟩)
        | ((with_reducible refine (send_5 _).mono ?_); rintro e w' ⟨rfl, rfl⟩))
      go_roundw
      case rel => exact ⟨6, by omega, by omega, rfl, by trivial⟩
      case measure => simp [intOf]
    · have K2 := Lib.hid (K1.out 6 false _ B5 (by decide))
      have G2 := G1.out 6 _ (Bel.step B1 B5)
      rw [show globalB 6 6 = true from by decide +kernel] at G2
      replace G2 := Lib.hid G2
      clear K1 G1 hx1 hx2
      go_wp2_with (first
        | ((with_reducible refine K2.out.mono ?_); rintro e w' ⟨rfl, rfl⟩)
        | ((with_reducible refine G2.out.mono ?_); rintro e w' ⟨rfl, rfl⟩)
        | ((with_reducible refine (reads_6 _).mono ?_); rintro e w' ⟨rfl, rfl⟩)
        | ((with_reducible refine (send_6 _).mono ?_); rintro e w' ⟨rfl, rfl⟩))
      go_roundw
      case rel => exact ⟨7, by omega, by omega, rfl, by trivial⟩
      case measure => simp [intOf]
    · clear K1 G1 hx1 hx2
      have AW' := Lib.hid (AW.out _ (Bel.step B1 B5))
      go_wp2_with fail
      refine AW'.out.mono ?_
      rintro e w5 ⟨rfl, B6⟩
      go_wp2_with fail
      go_ret
      exact ⟨rfl, B6⟩

set_option maxRecDepth 100000 in
set_option maxHeartbeats 6400000 in
theorem sets_2 (n : Int) (w : World) (hV : GViews w) (hF : GFits w) (hN : GNam w) (hM : GMem w) (hG : GGlo w) (h0 : 0 ≤ n) (h1 : n ≤ 255) (hn : n % 11 = 1) :
    Calls Tryd.prog 8 #[.int .u8 n] w fun e w' => e = .returned (.bool true) ∧ Bel w w' := by
  have N1 := Lib.hid (name_any 2 w hN)
  have P1 := parse_any (str (nameV 2)) w hN
  rw [show parseV (str (nameV 2)) = (2, 0) from by decide +kernel] at P1
  replace P1 := Lib.hid P1
  have M1 := members_any 2 w hM
  rw [show membersV 2 = [2] from by decide +kernel] at M1
  replace M1 := Lib.hid M1
  have G1 := Lib.hid (fun (x : Int) (W : World) (h : Bel w W) => global_bel w hG x x W h)
  have AW := Lib.hid (awake_bel w hV hF)
  have e1 : (str (nameV 2)).toList = [] ↔ False := by
    constructor
    · intro h; exact absurd h (by decide +kernel)
    · exact False.elim
  generalize str (nameV 2) = s at N1 P1 e1
  have e2 : s.toList ≠ [] := fun h => e1.1 h
  have e3 : (s.toList == []) = false := by cases hq : s.toList with | nil => exact absurd hq e2 | cons a r => rfl
  have e4 : s.toList.isEmpty = false := by cases hq : s.toList with | nil => exact absurd hq e2 | cons a r => rfl
  clear e1 e2 hV hF hN hM hG
  go_enter Tryd.func8, Tryd.ntmps8
  go_wp2_with fail
  refine N1.out.mono ?_
  rintro e w' ⟨rfl, rfl⟩
  clear hn
  go_wp2_with fail
  refine P1.out.mono ?_
  rintro e w' ⟨rfl, rfl⟩
  go_wp2_with fail
  refine M1.out.mono ?_
  rintro e w1 ⟨v, rfl, hi, B1⟩
  clear e3 e4 M1 P1 N1
  obtain ⟨g, cap, rfl, hc⟩ : ∃ g cap, v = .slice (some ⟨g, 0, none⟩) ([2] : List Int).length cap ∧ g < w1.heap.size ∧ ∀ j, j < ([2] : List Int).length → w1.cell? ⟨g, j, none⟩ = some (.int .i64 (([2] : List Int).getD j 0)) := by
    rcases hi with ⟨_, h⟩ | ⟨g, cap, hv, h2, h3⟩
    · cases h
    · exact ⟨g, cap, hv, h2, h3⟩
  have HC := Lib.hid (fun (W : World) (h : Bel w1 W) j (hj : j < ([2] : List Int).length) => (by rw [bcell h g j hc.1]; exact hc.2 j hj : W.cell? ⟨g, j, none⟩ = some (.int .i64 (([2] : List Int).getD j 0))))
  clear hc hi
  have S1 := Lib.hid (isSorted_ints g cap [2] w1 (by decide) (by decide) (HC.out w1 (Bel.refl _)) (sorted_of (by decide)))
  have C1 := Lib.hid (fun W h => clone_compact [2] g cap W (by decide) (by decide) (HC.out W h))
  have K1 := Lib.hid (fun x b W h hb => contains_ints [2] g cap x b W (by decide) (HC.out W h) hb)
  clear HC
  rw [show ([2] : List Int).length = 1 from rfl] at S1 C1 K1
  rw [show (Lib.compact ([2] : List Int)).length = 1 from by decide +kernel] at C1
  go_wp2_with fail
  refine S1.out.mono ?_
  rintro e w2 ⟨rfl, hq⟩
  have B2 : Bel w1 w2 := by obtain ⟨q, rfl⟩ := hq; exact bel_drewN (Bel.refl _) q
  clear hq
  have C2 := Lib.hid (C1.out w2 B2)
  clear C1 S1
  go_wp2_with fail
  refine C2.out.mono ?_
  rintro e w3 ⟨v, rfl, B3, C3⟩
  have C4 := Lib.hid C3
  clear C3 B3 C2
  go_wp2_with fail
  refine C4.out.mono ?_
  rintro e w4 ⟨ad, cp, rfl, B4⟩
  have B5 : Bel w1 w4 := Bel.step B2 B4
  clear B2 B4 C4
  go_wp2_with fail
  go_loopw [8] (fun i wr => ∃ x : Int, 1 ≤ x ∧ x ≤ 7 ∧ i = .int .i64 x ∧ wr = w4) (fun i _ => (8 - intOf i).toNat)
  case atStart => exact ⟨1, by omega, by omega, rfl, rfl⟩
  case round =>
    obtain ⟨x, hx1, hx2, rfl, rfl⟩ := hrel
    have hx : x = 1 ∨ x = 2 ∨ x = 3 ∨ x = 4 ∨ x = 5 ∨ x = 6 ∨ x = 7 := by omega
    rcases hx with rfl | rfl | rfl | rfl | rfl | rfl | rfl
    · have K2 := Lib.hid (K1.out 1 false _ B5 (by decide))
      have G2 := G1.out 1 _ (Bel.step B1 B5)
      rw [show globalB 1 1 = false from by decide +kernel] at G2
      replace G2 := Lib.hid G2
      clear K1 G1 hx1 hx2
      go_wp2_with (first
        | ((with_reducible refine K2.out.mono ?_); rintro e w' ⟨rfl, rfl⟩)
        | ((with_reducible refine G2.out.mono ?_); rintro e w' ⟨rfl, rfl⟩)
        | ((with_reducible refine (reads_1 _).mono ?_); rintro e w' ⟨rfl, rfl⟩)
        | ((with_reducible refine (send_1 _).mono ?_); rintro e w' ⟨rfl, rfl⟩))
      go_roundw
      case rel => exact ⟨2, by omega, by omega, rfl, by trivial⟩
      case measure => simp [intOf]
    · have K2 := Lib.hid (K1.out 2 true _ B5 (by decide))
      have G2 := G1.out 2 _ (Bel.step B1 B5)
      rw [show globalB 2 2 = false from by decide +kernel] at G2
      replace G2 := Lib.hid G2
      clear K1 G1 hx1 hx2
      go_wp2_with (first
        | ((with_reducible refine K2.out.mono ?_); rintro e w' ⟨rfl, rfl⟩)
        | ((with_reducible refine G2.out.mono ?_); rintro e w' ⟨rfl, rfl⟩)
        | ((with_reducible refine (reads_2 _).mono ?_); rintro e w' ⟨rfl, rfl⟩)
        | ((with_reducible refine (send_2 _).mono ?_); rintro e w' ⟨rfl, rfl⟩))
      go_roundw
      case rel => exact ⟨3, by omega, by omega, rfl, by trivial⟩
      case measure => simp [intOf]
    · have K2 := Lib.hid (K1.out 3 false _ B5 (by decide))
      have G2 := G1.out 3 _ (Bel.step B1 B5)
      rw [show globalB 3 3 = false from by decide +kernel] at G2
      replace G2 := Lib.hid G2
      clear K1 G1 hx1 hx2
      go_wp2_with (first
        | ((with_reducible refine K2.out.mono ?_); rintro e w' ⟨rfl, rfl⟩)
        | ((with_reducible refine G2.out.mono ?_); rintro e w' ⟨rfl, rfl⟩)
        | ((with_reducible refine (reads_3 _).mono ?_); rintro e w' ⟨rfl, rfl⟩)
        | ((with_reducible refine (send_3 _).mono ?_); rintro e w' ⟨rfl, rfl⟩))
      go_roundw
      case rel => exact ⟨4, by omega, by omega, rfl, by trivial⟩
      case measure => simp [intOf]
    · have K2 := Lib.hid (K1.out 4 false _ B5 (by decide))
      have G2 := G1.out 4 _ (Bel.step B1 B5)
      rw [show globalB 4 4 = true from by decide +kernel] at G2
      replace G2 := Lib.hid G2
      clear K1 G1 hx1 hx2
      go_wp2_with (first
        | ((with_reducible refine K2.out.mono ?_); rintro e w' ⟨rfl, rfl⟩)
        | ((with_reducible refine G2.out.mono ?_); rintro e w' ⟨rfl, rfl⟩)
        | ((with_reducible refine (reads_4 _).mono ?_); rintro e w' ⟨rfl, rfl⟩)
        | ((with_reducible refine (send_4 _).mono ?_); rintro e w' ⟨rfl, rfl⟩))
      go_roundw
      case rel => exact ⟨5, by omega, by omega, rfl, by trivial⟩
      case measure => simp [intOf]
    · have K2 := Lib.hid (K1.out 5 false _ B5 (by decide))
      have G2 := G1.out 5 _ (Bel.step B1 B5)
      rw [show globalB 5 5 = true from by decide +kernel] at G2
      replace G2 := Lib.hid G2
      clear K1 G1 hx1 hx2
      go_wp2_with (first
        | ((with_reducible refine K2.out.mono ?_); rintro e w' ⟨rfl, rfl⟩)
        | ((with_reducible refine G2.out.mono ?_); rintro e w' ⟨rfl, rfl⟩)
        | ((with_reducible refine (reads_5 _).mono ?_); rintro e w' ⟨rfl, rfl⟩)
        | ((with_reducible refine (send_5 _).mono ?_); rintro e w' ⟨rfl, rfl⟩))
      go_roundw
      case rel => exact ⟨6, by omega, by omega, rfl, by trivial⟩
      case measure => simp [intOf]
    · have K2 := Lib.hid (K1.out 6 false _ B5 (by decide))
      have G2 := G1.out 6 _ (Bel.step B1 B5)
      rw [show globalB 6 6 = true from by decide +kernel] at G2
      replace G2 := Lib.hid G2
      clear K1 G1 hx1 hx2
      go_wp2_with (first
        | ((with_reducible refine K2.out.mono ?_); rintro e w' ⟨rfl, rfl⟩)
        | ((with_reducible refine G2.out.mono ?_); rintro e w' ⟨rfl, rfl⟩)
        | ((with_reducible refine (reads_6 _).mono ?_); rintro e w' ⟨rfl, rfl⟩)
        | ((with_reducible refine (send_6 _).mono ?_); rintro e w' ⟨rfl, rfl⟩))
      go_roundw
      case rel => exact ⟨7, by omega, by omega, rfl, by trivial⟩
      case measure => simp [intOf]
    · clear K1 G1 hx1 hx2
      have AW' := Lib.hid (AW.out _ (Bel.step B1 B5))
      go_wp2_with fail
      refine AW'.out.mono ?_
      rintro e w5 ⟨rfl, B6⟩
      go_wp2_with fail
      go_ret
      exact ⟨rfl, B6⟩

set_option maxRecDepth 100000 in
set_option maxHeartbeats 6400000 in
theorem sets_3 (n : Int) (w : World) (hV : GViews w) (hF : GFits w) (hN : GNam w) (hM : GMem w) (hG : GGlo w) (h0 : 0 ≤ n) (h1 : n ≤ 255) (hn : n % 11 = 2) :
    Calls Tryd.prog 8 #[.int .u8 n] w fun e w' => e = .returned (.bool true) ∧ Bel w w' := by
  have N1 := Lib.hid (name_any 3 w hN)
  have P1 := parse_any (str (nameV 3)) w hN
  rw [show parseV (str (nameV 3)) = (3, 0) from by decide +kernel] at P1
  replace P1 := Lib.hid P1
  have M1 := members_any 3 w hM
  rw [show membersV 3 = [3] from by decide +kernel] at M1
  replace M1 := Lib.hid M1
  have G1 := Lib.hid (fun (x : Int) (W : World) (h : Bel w W) => global_bel w hG x x W h)
  have AW := Lib.hid (awake_bel w hV hF)
  have e1 : (str (nameV 3)).toList = [] ↔ False := by
    constructor
    · intro h; exact absurd h (by decide +kernel)
    · exact False.elim
  generalize str (nameV 3) = s at N1 P1 e1
  have e2 : s.toList ≠ [] := fun h => e1.1 h
  have e3 : (s.toList == []) = false := by cases hq : s.toList with | nil => exact absurd hq e2 | cons a r => rfl
  have e4 : s.toList.isEmpty = false := by cases hq : s.toList with | nil => exact absurd hq e2 | cons a r => rfl
  clear e1 e2 hV hF hN hM hG
  go_enter Tryd.func8, Tryd.ntmps8
  go_wp2_with fail
  refine N1.out.mono ?_
  rintro e w' ⟨rfl, rfl⟩
  clear hn
  go_wp2_with fail
  refine P1.out.mono ?_
  rintro e w' ⟨rfl, rfl⟩
  go_wp2_with fail
  refine M1.out.mono ?_
  rintro e w1 ⟨v, rfl, hi, B1⟩
  clear e3 e4 M1 P1 N1
  obtain ⟨g, cap, rfl, hc⟩ : ∃ g cap, v = .slice (some ⟨g, 0, none⟩) ([3] : List Int).length cap ∧ g < w1.heap.size ∧ ∀ j, j < ([3] : List Int).length → w1.cell? ⟨g, j, none⟩ = some (.int .i64 (([3] : List Int).getD j 0)) := by
    rcases hi with ⟨_, h⟩ | ⟨g, cap, hv, h2, h3⟩
    · cases h
    · exact ⟨g, cap, hv, h2, h3⟩
  have HC := Lib.hid (fun (W : World) (h : Bel w1 W) j (hj : j < ([3] : List Int).length) => (by rw [bcell h g j hc.1]; exact hc.2 j hj : W.cell? ⟨g, j, none⟩ = some (.int .i64 (([3] : List Int).getD j 0))))
  clear hc hi
  have S1 := Lib.hid (isSorted_ints g cap [3] w1 (by decide) (by decide) (HC.out w1 (Bel.refl _)) (sorted_of (by decide)))
  have C1 := Lib.hid (fun W h => clone_compact [3] g cap W (by decide) (by decide) (HC.out W h))
  have K1 := Lib.hid (fun x b W h hb => contains_ints [3] g cap x b W (by decide) (HC.out W h) hb)
  clear HC
  rw [show ([3] : List Int).length = 1 from rfl] at S1 C1 K1
  rw [show (Lib.compact ([3] : List Int)).length = 1 from by decide +kernel] at C1
  go_wp2_with fail
  refine S1.out.mono ?_
  rintro e w2 ⟨rfl, hq⟩
  have B2 : Bel w1 w2 := by obtain ⟨q, rfl⟩ := hq; exact bel_drewN (Bel.refl _) q
  clear hq
  have C2 := Lib.hid (C1.out w2 B2)
  clear C1 S1
  go_wp2_with fail
  refine C2.out.mono ?_
  rintro e w3 ⟨v, rfl, B3, C3⟩
  have C4 := Lib.hid C3
  clear C3 B3 C2
  go_wp2_with fail
  refine C4.out.mono ?_
  rintro e w4 ⟨ad, cp, rfl, B4⟩
  have B5 : Bel w1 w4 := Bel.step B2 B4
  clear B2 B4 C4
  go_wp2_with fail
  go_loopw [8] (fun i wr => ∃ x : Int, 1 ≤ x ∧ x ≤ 7 ∧ i = .int .i64 x ∧ wr = w4) (fun i _ => (8 - intOf i).toNat)
  case atStart => exact ⟨1, by omega, by omega, rfl, rfl⟩
  case round =>
    obtain ⟨x, hx1, hx2, rfl, rfl⟩ := hrel
    have hx : x = 1 ∨ x = 2 ∨ x = 3 ∨ x = 4 ∨ x = 5 ∨ x = 6 ∨ x = 7 := by omega
    rcases hx with rfl | rfl | rfl | rfl | rfl | rfl | rfl
    · have K2 := Lib.hid (K1.out 1 false _ B5 (by decide))
      have G2 := G1.out 1 _ (Bel.step B1 B5)
      rw [show globalB 1 1 = false from by decide +kernel] at G2
      replace G2 := Lib.hid G2
      clear K1 G1 hx1 hx2
      go_wp2_with (first
        | ((with_reducible refine K2.out.mono ?_); rintro e w' ⟨rfl, rfl⟩)
        | ((with_reducible refine G2.out.mono ?_); rintro e w' ⟨rfl, rfl⟩)
        | ((with_reducible refine (reads_1 _).mono ?_); rintro e w' ⟨rfl, rfl⟩)
        | ((with_reducible refine (send_1 _).mono ?_); rintro e w' ⟨rfl, rfl⟩))
      go_roundw
      case rel => exact ⟨2, by omega, by omega, rfl, by trivial⟩
      case measure => simp [intOf]
    · have K2 := Lib.hid (K1.out 2 false _ B5 (by decide))
      have G2 := G1.out 2 _ (Bel.step B1 B5)
      rw [show globalB 2 2 = false from by decide +kernel] at G2
      replace G2 := Lib.hid G2
      clear K1 G1 hx1 hx2
      go_wp2_with (first
        | ((with_reducible refine K2.out.mono ?_); rintro e w' ⟨rfl, rfl⟩)
        | ((with_reducible refine G2.out.mono ?_); rintro e w' ⟨rfl, rfl⟩)
        | ((with_reducible refine (reads_2 _).mono ?_); rintro e w' ⟨rfl, rfl⟩)
        | ((with_reducible refine (send_2 _).mono ?_); rintro e w' ⟨rfl, rfl⟩))
      go_roundw
      case rel => exact ⟨3, by omega, by omega, rfl, by trivial⟩
      case measure => simp [intOf]
    · have K2 := Lib.hid (K1.out 3 true _ B5 (by decide))
      have G2 := G1.out 3 _ (Bel.step B1 B5)
      rw [show globalB 3 3 = false from by decide +kernel] at G2
      replace G2 := Lib.hid G2
      clear K1 G1 hx1 hx2
      go_wp2_with (first
        | ((with_reducible refine K2.out.mono ?_); rintro e w' ⟨rfl, rfl⟩)
        | ((with_reducible refine G2.out.mono ?_); rintro e w' ⟨rfl, rfl⟩)
        | ((with_reducible refine (reads_3 _).mono ?_); rintro e w' ⟨rfl, rfl⟩)
        | ((with_reducible refine (send_3 _).mono ?_); rintro e w' ⟨rfl, rfl⟩))
      go_roundw
      case rel => exact ⟨4, by omega, by omega, rfl, by trivial⟩
      case measure => simp [intOf]
    · have K2 := Lib.hid (K1.out 4 false _ B5 (by decide))
      have G2 := G1.out 4 _ (Bel.step B1 B5)
      rw [show globalB 4 4 = true from by decide +kernel] at G2
      replace G2 := Lib.hid G2
      clear K1 G1 hx1 hx2
      go_wp2_with (first
        | ((with_reducible refine K2.out.mono ?_); rintro e w' ⟨rfl, rfl⟩)
        | ((with_reducible refine G2.out.mono ?_); rintro e w' ⟨rfl, rfl⟩)
        | ((with_reducible refine (reads_4 _).mono ?_); rintro e w' ⟨rfl, rfl⟩)
        | ((with_reducible refine (send_4 _).mono ?_); rintro e w' ⟨rfl, rfl⟩))
      go_roundw
      case rel => exact ⟨5, by omega, by omega, rfl, by trivial⟩
      case measure => simp [intOf]
    · have K2 := Lib.hid (K1.out 5 false _ B5 (by decide))
      have G2 := G1.out 5 _ (Bel.step B1 B5)
      rw [show globalB 5 5 = true from by decide +kernel] at G2
      replace G2 := Lib.hid G2
      clear K1 G1 hx1 hx2
      go_wp2_with (first
        | ((with_reducible refine K2.out.mono ?_); rintro e w' ⟨rfl, rfl⟩)
        | ((with_reducible refine G2.out.mono ?_); rintro e w' ⟨rfl, rfl⟩)
        | ((with_reducible refine (reads_5 _).mono ?_); rintro e w' ⟨rfl, rfl⟩)
        | ((with_reducible refine (send_5 _).mono ?_); rintro e w' ⟨rfl, rfl⟩))
      go_roundw
      case rel => exact ⟨6, by omega, by omega, rfl, by trivial⟩
      case measure => simp [intOf]
    · have K2 := Lib.hid (K1.out 6 false _ B5 (by decide))
      have G2 := G1.out 6 _ (Bel.step B1 B5)
      rw [show globalB 6 6 = true from by decide +kernel] at G2
      replace G2 := Lib.hid G2
      clear K1 G1 hx1 hx2
      go_wp2_with (first
        | ((with_reducible refine K2.out.mono ?_); rintro e w' ⟨rfl, rfl⟩)
        | ((with_reducible refine G2.out.mono ?_); rintro e w' ⟨rfl, rfl⟩)
        | ((with_reducible refine (reads_6 _).mono ?_); rintro e w' ⟨rfl, rfl⟩)
        | ((with_reducible refine (send_6 _).mono ?_); rintro e w' ⟨rfl, rfl⟩))
      go_roundw
      case rel => exact ⟨7, by omega, by omega, rfl, by trivial⟩
      case measure => simp [intOf]
    · clear K1 G1 hx1 hx2
      have AW' := Lib.hid (AW.out _ (Bel.step B1 B5))
      go_wp2_with fail
      refine AW'.out.mono ?_
      rintro e w5 ⟨rfl, B6⟩
      go_wp2_with fail
      go_ret
      exact ⟨rfl, B6⟩

set_option maxRecDepth 100000 in
set_option maxHeartbeats 6400000 in
theorem sets_4 (n : Int) (w : World) (hV : GViews w) (hF : GFits w) (hN : GNam w) (hM : GMem w) (hG : GGlo w) (h0 : 0 ≤ n) (h1 : n ≤ 255) (hn : n % 11 = 3) :
    Calls Tryd.prog 8 #[.int .u8 n] w fun e w' => e = .returned (.bool true) ∧ Bel w w' := by
  have N1 := Lib.hid (name_any 4 w hN)
  have P1 := parse_any (str (nameV 4)) w hN
  rw [show parseV (str (nameV 4)) = (4, 0) from by decide +kernel] at P1
  replace P1 := Lib.hid P1
  have M1 := members_any 4 w hM
  rw [show membersV 4 = [4] from by decide +kernel] at M1
  replace M1 := Lib.hid M1
  have G1 := Lib.hid (fun (x : Int) (W : World) (h : Bel w W) => global_bel w hG x x W h)
  have AW := Lib.hid (awake_bel w hV hF)
  have e1 : (str (nameV 4)).toList = [] ↔ False := by
    constructor
    · intro h; exact absurd h (by decide +kernel)
    · exact False.elim
  generalize str (nameV 4) = s at N1 P1 e1
  have e2 : s.toList ≠ [] := fun h => e1.1 h
  have e3 : (s.toList == []) = false := by cases hq : s.toList with | nil => exact absurd hq e2 | cons a r => rfl
  have e4 : s.toList.isEmpty = false := by cases hq : s.toList with | nil => exact absurd hq e2 | cons a r => rfl
  clear e1 e2 hV hF hN hM hG
  go_enter Tryd.func8, Tryd.ntmps8
  go_wp2_with fail
  refine N1.out.mono ?_
  rintro e w' ⟨rfl, rfl⟩
  clear hn
  go_wp2_with fail
  refine P1.out.mono ?_
  rintro e w' ⟨rfl, rfl⟩
  go_wp2_with fail
  refine M1.out.mono ?_
  rintro e w1 ⟨v, rfl, hi, B1⟩
  clear e3 e4 M1 P1 N1
  obtain ⟨g, cap, rfl, hc⟩ : ∃ g cap, v = .slice (some ⟨g, 0, none⟩) ([4] : List Int).length cap ∧ g < w1.heap.size ∧ ∀ j, j < ([4] : List Int).length → w1.cell? ⟨g, j, none⟩ = some (.int .i64 (([4] : List Int).getD j 0)) := by
    rcases hi with ⟨_, h⟩ | ⟨g, cap, hv, h2, h3⟩
    · cases h
    · exact ⟨g, cap, hv, h2, h3⟩
  have HC := Lib.hid (fun (W : World) (h : Bel w1 W) j (hj : j < ([4] : List Int).length) => (by rw [bcell h g j hc.1]; exact hc.2 j hj : W.cell? ⟨g, j, none⟩ = some (.int .i64 (([4] : List Int).getD j 0))))
  clear hc hi
  have S1 := Lib.hid (isSorted_ints g cap [4] w1 (by decide) (by decide) (HC.out w1 (Bel.refl _)) (sorted_of (by decide)))
  have C1 := Lib.hid (fun W h => clone_compact [4] g cap W (by decide) (by decide) (HC.out W h))
  have K1 := Lib.hid (fun x b W h hb => contains_ints [4] g cap x b W (by decide) (HC.out W h) hb)
  clear HC
  rw [show ([4] : List Int).length = 1 from rfl] at S1 C1 K1
  rw [show (Lib.compact ([4] : List Int)).length = 1 from by decide +kernel] at C1
  go_wp2_with fail
  refine S1.out.mono ?_
  rintro e w2 ⟨rfl, hq⟩
  have B2 : Bel w1 w2 := by obtain ⟨q, rfl⟩ := hq; exact bel_drewN (Bel.refl _) q
  clear hq
  have C2 := Lib.hid (C1.out w2 B2)
  clear C1 S1
  go_wp2_with fail
  refine C2.out.mono ?_
  rintro e w3 ⟨v, rfl, B3, C3⟩
  have C4 := Lib.hid C3
  clear C3 B3 C2
  go_wp2_with fail
  refine C4.out.mono ?_
  rintro e w4 ⟨ad, cp, rfl, B4⟩
  have B5 : Bel w1 w4 := Bel.step B2 B4
  clear B2 B4 C4
  go_wp2_with fail
  go_loopw [8] (fun i wr => ∃ x : Int, 1 ≤ x ∧ x ≤ 7 ∧ i = .int .i64 x ∧ wr = w4) (fun i _ => (8 - intOf i).toNat)
  case atStart => exact ⟨1, by omega, by omega, rfl, rfl⟩
  case round =>
    obtain ⟨x, hx1, hx2, rfl, rfl⟩ := hrel
    have hx : x = 1 ∨ x = 2 ∨ x = 3 ∨ x = 4 ∨ x = 5 ∨ x = 6 ∨ x = 7 := by omega
    rcases hx with rfl | rfl | rfl | rfl | rfl | rfl | rfl
    · have K2 := Lib.hid (K1.out 1 false _ B5 (by decide))
      have G2 := G1.out 1 _ (Bel.step B1 B5)
      rw [show globalB 1 1 = false from by decide +kernel] at G2
      replace G2 := Lib.hid G2
      clear K1 G1 hx1 hx2
      go_wp2_with (first
        | ((with_reducible refine K2.out.mono ?_); rintro e w' ⟨rfl, rfl⟩)
        | ((with_reducible refine G2.out.mono ?_); rintro e w' ⟨rfl, rfl⟩)
        | ((with_reducible refine (reads_1 _).mono ?_); rintro e w' ⟨rfl, rfl⟩)
        | ((with_reducible refine (send_1 _).mono ?_); rintro e w' ⟨rfl, rfl⟩))
      go_roundw
      case rel => exact ⟨2, by omega, by omega, rfl, by trivial⟩
      case measure => simp [intOf]
    · have K2 := Lib.hid (K1.out 2 false _ B5 (by decide))
      have G2 := G1.out 2 _ (Bel.step B1 B5)
      rw [show globalB 2 2 = false from by decide +kernel] at G2
      replace G2 := Lib.hid G2
      clear K1 G1 hx1 hx2
      go_wp2_with (first
        | ((with_reducible refine K2.out.mono ?_); rintro e w' ⟨rfl, rfl⟩)
        | ((with_reducible refine G2.out.mono ?_); rintro e w' ⟨rfl, rfl⟩)
        | ((with_reducible refine (reads_2 _).mono ?_); rintro e w' ⟨rfl, rfl⟩)
        | ((with_reducible refine (send_2 _).mono ?_); rintro e w' ⟨rfl, rfl⟩))
      go_roundw
      case rel => exact ⟨3, by omega, by omega, rfl, by trivial⟩
      case measure => simp [intOf]
    · have K2 := Lib.hid (K1.out 3 false _ B5 (by decide))
      have G2 := G1.out 3 _ (Bel.step B1 B5)
      rw [show globalB 3 3 = false from by decide +kernel] at G2
      replace G2 := Lib.hid G2
      clear K1 G1 hx1 hx2
      go_wp2_with (first
        | ((with_reducible refine K2.out.mono ?_); rintro e w' ⟨rfl, rfl⟩)
        | ((with_reducible refine G2.out.mono ?_); rintro e w' ⟨rfl, rfl⟩)
        | ((with_reducible refine (reads_3 _).mono ?_); rintro e w' ⟨rfl, rfl⟩)
        | ((with_reducible refine (send_3 _).mono ?_); rintro e w' ⟨rfl, rfl⟩))
      go_roundw
      case rel => exact ⟨4, by omega, by omega, rfl, by trivial⟩
      case measure => simp [intOf]
    · have K2 := Lib.hid (K1.out 4 true _ B5 (by decide))
      have G2 := G1.out 4 _ (Bel.step B1 B5)
      rw [show globalB 4 4 = true from by decide +kernel] at G2
      replace G2 := Lib.hid G2
      clear K1 G1 hx1 hx2
      go_wp2_with (first
        | ((with_reducible refine K2.out.mono ?_); rintro e w' ⟨rfl, rfl⟩)
        | ((with_reducible refine G2.out.mono ?_); rintro e w' ⟨rfl, rfl⟩)
        | ((with_reducible refine (reads_4 _).mono ?_); rintro e w' ⟨rfl, rfl⟩)
        | ((with_reducible refine (send_4 _).mono ?_); rintro e w' ⟨rfl, rfl⟩))
      go_roundw
      case rel => exact ⟨5, by omega, by omega, rfl, by trivial⟩
      case measure => simp [intOf]
    · have K2 := Lib.hid (K1.out 5 false _ B5 (by decide))
      have G2 := G1.out 5 _ (Bel.step B1 B5)
      rw [show globalB 5 5 = true from by decide +kernel] at G2
      replace G2 := Lib.hid G2
      clear K1 G1 hx1 hx2
      go_wp2_with (first
        | ((with_reducible refine K2.out.mono ?_); rintro e w' ⟨rfl, rfl⟩)
        | ((with_reducible refine G2.out.mono ?_); rintro e w' ⟨rfl, rfl⟩)
        | ((with_reducible refine (reads_5 _).mono ?_); rintro e w' ⟨rfl, rfl⟩)
        | ((with_reducible refine (send_5 _).mono ?_); rintro e w' ⟨rfl, rfl⟩))
      go_roundw
      case rel => exact ⟨6, by omega, by omega, rfl, by trivial⟩
      case measure => simp [intOf]
    · have K2 := Lib.hid (K1.out 6 false _ B5 (by decide))
      have G2 := G1.out 6 _ (Bel.step B1 B5)
      rw [show globalB 6 6 = true from by decide +kernel] at G2
      replace G2 := Lib.hid G2
      clear K1 G1 hx1 hx2
      go_wp2_with (first
        | ((with_reducible refine K2.out.mono ?_); rintro e w' ⟨rfl, rfl⟩)
        | ((with_reducible refine G2.out.mono ?_); rintro e w' ⟨rfl, rfl⟩)
        | ((with_reducible refine (reads_6 _).mono ?_); rintro e w' ⟨rfl, rfl⟩)
        | ((with_reducible refine (send_6 _).mono ?_); rintro e w' ⟨rfl, rfl⟩))
      go_roundw
      case rel => exact ⟨7, by omega, by omega, rfl, by trivial⟩
      case measure => simp [intOf]
    · clear K1 G1 hx1 hx2
      have AW' := Lib.hid (AW.out _ (Bel.step B1 B5))
      go_wp2_with fail
      refine AW'.out.mono ?_
      rintro e w5 ⟨rfl, B6⟩
      go_wp2_with fail
      go_ret
      exact ⟨rfl, B6⟩
end Go.Proofs.YtblklbmolfddpaaDoor
