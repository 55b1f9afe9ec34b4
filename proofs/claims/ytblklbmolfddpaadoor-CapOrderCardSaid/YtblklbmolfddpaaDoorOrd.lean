/- Contract of the statement's own function CapOrder. -/
import Derived.Test.YtblklbmolfddpaaDoorBase
namespace Go.Proofs.YtblklbmolfddpaaDoor
open Go.RowKit

set_option maxHeartbeats 3200000 in
theorem order_any (a b c l m n : Int) (w : World) (hV : GViews w) (hF : GFits w)
    (ha : 0 ≤ a ∧ a ≤ 255) (hb : 0 ≤ b ∧ b ≤ 255) (hc : 0 ≤ c ∧ c ≤ 255) (hl : 0 ≤ l ∧ l ≤ 255) (hm : 0 ≤ m ∧ m ≤ 255) (hn : 0 ≤ n ∧ n ≤ 255) :
    Calls Tryd.prog 5 #[.int .u8 a, .int .u8 b, .int .u8 c, .int .u8 l, .int .u8 m, .int .u8 n] w fun e w' => e = .returned (.bool true) ∧ Bel w w' := by
  obtain ⟨x, hx, X⟩ := one_ex a ha.1 ha.2
  obtain ⟨y, hy, Y⟩ := one_ex b hb.1 hb.2
  obtain ⟨z, hz, Z⟩ := one_ex c hc.1 hc.2
  obtain ⟨i, hi, I⟩ := mark_ex l hl.1 hl.2
  obtain ⟨j, hj, J⟩ := mark_ex m hm.1 hm.2
  obtain ⟨k, hk, K⟩ := mark_ex n hn.1 hn.2
  replace X := Lib.hid X
  replace Y := Lib.hid Y
  replace Z := Lib.hid Z
  replace I := Lib.hid I
  replace J := Lib.hid J
  replace K := Lib.hid K
  obtain ⟨f1, f2⟩ := fits_refl hx hi
  have f3 := fun h => fits_more hx hi hy hj h
  have f4 := fun h => (f3 h).2.2 z k hz hk
  have f5 := fun h => (f3 h).1
  have f6 := fun h => (f3 h).2.1
  clear f3
  have F1 := Lib.hid (fits_bel w hF x i x i)
  have F2 := Lib.hid (fits_bel w hF x i y j)
  have F3 := Lib.hid (fits_bel w hF y j z k)
  have F4 := Lib.hid (fits_bel w hF x i z k)
  have F5 := Lib.hid (fits_bel w hF 1 1 x i)
  have F6 := Lib.hid (fits_bel w hF x 1 y 0)
  have S6 := Lib.hid (sub_bel w hF x y)
  have RX := Lib.hid (reads_any x)
  have RY := Lib.hid (reads_any y)
  have WX := Lib.hid (writes_any x)
  have WY := Lib.hid (writes_any y)
  have AW := Lib.hid (awake_bel w hV hF)
  have B0 := Bel.refl w
  rw [f1] at F1
  rw [f2] at F5
  clear hx hy hz hi hj hk f1 f2 hV hF ha hb hc hl hm hn
  revert f4 f5 f6 F2 F3 F4 F6 S6 RX RY WX WY
  generalize fitsB x i y j = p
  generalize fitsB y j z k = q
  generalize fitsB x i z k = r
  generalize fitsB x 1 y 0 = s
  generalize readsB x = rx
  generalize readsB y = ry
  generalize writesB x = wx
  generalize writesB y = wy
  intro f4 f5 f6 F2 F3 F4 F6 S6 RX RY WX WY
  have T1 : ∀ (W : World), Bel w W → Calls Tryd.prog 5 #[.int .u8 a, .int .u8 b, .int .u8 c, .int .u8 l, .int .u8 m, .int .u8 n] W fun e w' => e = .returned (.bool true) ∧ Bel w w' := by
    intro W BW
    clear B0
    cases p with
    | false =>
      clear f4 f5 f6
      cases s <;> (
        go_enter Tryd.func5, Tryd.ntmps5
        go_wp2_with (first
          | ((with_reducible refine (X.out _).mono ?_); rintro e w' ⟨rfl, rfl⟩)
          | ((with_reducible refine (Y.out _).mono ?_); rintro e w' ⟨rfl, rfl⟩)
          | ((with_reducible refine (Z.out _).mono ?_); rintro e w' ⟨rfl, rfl⟩)
          | ((with_reducible refine (I.out _).mono ?_); rintro e w' ⟨rfl, rfl⟩)
          | ((with_reducible refine (J.out _).mono ?_); rintro e w' ⟨rfl, rfl⟩)
          | ((with_reducible refine (K.out _).mono ?_); rintro e w' ⟨rfl, rfl⟩)
          | ((with_reducible refine (F1.out _ (by assumption)).mono ?_); rintro e w' ⟨rfl, B1⟩)
          | ((with_reducible refine (F2.out _ (by assumption)).mono ?_); rintro e w' ⟨rfl, B2⟩)
          | ((with_reducible refine (F5.out _ (by assumption)).mono ?_); rintro e w' ⟨rfl, B3⟩)
          | ((with_reducible refine (S6.out _ (by assumption)).mono ?_); rintro e w' ⟨rfl, B4⟩)
          | ((with_reducible refine (F6.out _ (by assumption)).mono ?_); rintro e w' ⟨rfl, B5⟩)
          | ((with_reducible refine (AW.out _ (by assumption)).mono ?_); rintro e w' ⟨rfl, B6⟩))
        go_ret
        exact ⟨rfl, by assumption⟩)
    | true =>
      have c1 : q = false ∨ (q = true ∧ r = true) := by
        cases q with
        | false => exact .inl rfl
        | true => exact .inr ⟨rfl, f4 rfl rfl⟩
      have c2 : ry = false ∨ (ry = true ∧ rx = true) := by
        cases ry with
        | false => exact .inl rfl
        | true => exact .inr ⟨rfl, f5 rfl rfl⟩
      have c3 : wy = false ∨ (wy = true ∧ wx = true) := by
        cases wy with
        | false => exact .inl rfl
        | true => exact .inr ⟨rfl, f6 rfl rfl⟩
      clear f4 f5 f6
      rcases c1 with rfl | ⟨rfl, rfl⟩ <;> rcases c2 with rfl | ⟨rfl, rfl⟩ <;> rcases c3 with rfl | ⟨rfl, rfl⟩ <;> cases s <;> (
        go_enter Tryd.func5, Tryd.ntmps5
        go_wp2_with (first
          | ((with_reducible refine (X.out _).mono ?_); rintro e w' ⟨rfl, rfl⟩)
          | ((with_reducible refine (Y.out _).mono ?_); rintro e w' ⟨rfl, rfl⟩)
          | ((with_reducible refine (Z.out _).mono ?_); rintro e w' ⟨rfl, rfl⟩)
          | ((with_reducible refine (I.out _).mono ?_); rintro e w' ⟨rfl, rfl⟩)
          | ((with_reducible refine (J.out _).mono ?_); rintro e w' ⟨rfl, rfl⟩)
          | ((with_reducible refine (K.out _).mono ?_); rintro e w' ⟨rfl, rfl⟩)
          | ((with_reducible refine (F1.out _ (by assumption)).mono ?_); rintro e w' ⟨rfl, B1⟩)
          | ((with_reducible refine (F2.out _ (by assumption)).mono ?_); rintro e w' ⟨rfl, B2⟩)
          | ((with_reducible refine (F3.out _ (by assumption)).mono ?_); rintro e w' ⟨rfl, B3⟩)
          | ((with_reducible refine (F4.out _ (by assumption)).mono ?_); rintro e w' ⟨rfl, B4⟩)
          | ((with_reducible refine (F5.out _ (by assumption)).mono ?_); rintro e w' ⟨rfl, B5⟩)
          | ((with_reducible refine (RY.out _).mono ?_); rintro e w' ⟨rfl, rfl⟩)
          | ((with_reducible refine (RX.out _).mono ?_); rintro e w' ⟨rfl, rfl⟩)
          | ((with_reducible refine (WY.out _).mono ?_); rintro e w' ⟨rfl, rfl⟩)
          | ((with_reducible refine (WX.out _).mono ?_); rintro e w' ⟨rfl, rfl⟩)
          | ((with_reducible refine (S6.out _ (by assumption)).mono ?_); rintro e w' ⟨rfl, B6⟩)
          | ((with_reducible refine (F6.out _ (by assumption)).mono ?_); rintro e w' ⟨rfl, B7⟩)
          | ((with_reducible refine (AW.out _ (by assumption)).mono ?_); rintro e w' ⟨rfl, B8⟩))
        go_ret
        exact ⟨rfl, by assumption⟩)
  exact T1 w B0
end Go.Proofs.YtblklbmolfddpaaDoor
