/- Contract of the statement's own function CapBeside. -/
import Derived.Test.YtblklbmolfddpaaDoorLoc
namespace Go.Proofs.YtblklbmolfddpaaDoor
open Go.RowKit

set_option maxHeartbeats 6400000 in
theorem beside_any (a b c : Int) (w : World) (hV : GViews w) (hF : GFits w) (hL : GLoc w) (hG : GGlo w)
    (ha : 0 ≤ a ∧ a ≤ 255) (hb : 0 ≤ b ∧ b ≤ 255) (hc : 0 ≤ c ∧ c ≤ 255) :
    Calls Tryd.prog 7 #[.int .u8 a, .int .u8 b, .int .u8 c] w fun e w' => e = .returned (.bool true) ∧ Bel w w' := by
  obtain ⟨x, hx, X⟩ := one_ex a ha.1 ha.2
  obtain ⟨y, hy, Y⟩ := one_ex b hb.1 hb.2
  obtain ⟨z, hz, Z⟩ := one_ex c hc.1 hc.2
  replace X := Lib.hid X
  replace Y := Lib.hid Y
  replace Z := Lib.hid Z
  obtain ⟨f1, f2, f3, f4, f5⟩ := sym_facts hx hy hz
  have L1 := Lib.hid (local_bel w hL x y)
  have L2 := Lib.hid (local_bel w hL y x)
  have L3 := Lib.hid (local_bel w hL x z)
  have G1 := Lib.hid (global_bel w hG x y)
  have G2 := Lib.hid (global_bel w hG y x)
  have G3 := Lib.hid (global_bel w hG y z)
  have A1 := Lib.hid (alias_any x 0)
  have F1 := Lib.hid (fits_bel w hF (aliasV x 0).1 (aliasV x 0).2 y 0)
  have S1 := Lib.hid (sub_bel w hF x y)
  have RY := Lib.hid (reads_any y)
  have WX := Lib.hid (writes_any x)
  have TY := Lib.hid (send_any y)
  have AW := Lib.hid (awake_bel w hV hF)
  have B0 := Bel.refl w
  rw [f1] at L2
  rw [f2] at G2
  clear hx hy hz f1 f2 hV hF hL hG ha hb hc
  revert f3 f4 f5 L1 L2 L3 G1 G2 G3 A1 F1 S1 RY WX TY
  generalize fitsB (aliasV x 0).1 (aliasV x 0).2 y 0 = f
  generalize (aliasV x 0).1 = k
  generalize (aliasV x 0).2 = m
  generalize localB x y = p
  generalize globalB x y = q
  generalize localB x z = r
  generalize globalB y z = u
  generalize fitsB x 1 y 0 = s
  generalize sendB y = t
  generalize readsB y = ry
  generalize writesB x = wx
  intro f3 f4 f5 L1 L2 L3 G1 G2 G3 A1 F1 S1 RY WX TY
  have T1 : ∀ (W : World), Bel w W → Calls Tryd.prog 7 #[.int .u8 a, .int .u8 b, .int .u8 c] W fun e w' => e = .returned (.bool true) ∧ Bel w w' := by
    intro W BW
    clear B0
    have c1 : (q = false ∧ p = false ∧ f = false) ∨ (q = false ∧ p = true) ∨ (q = true ∧ p = true ∧ wx = false) ∨ (q = true ∧ p = true ∧ wx = true ∧ ry = false) := by
      cases q with
      | false =>
        cases p with
        | true => exact .inr (.inl ⟨rfl, rfl⟩)
        | false =>
          cases f with
          | false => exact .inl ⟨rfl, rfl, rfl⟩
          | true => exact absurd (f4 rfl) (by simp)
      | true =>
        obtain ⟨hp, hw⟩ := f3 rfl
        cases wx with
        | false => exact .inr (.inr (.inl ⟨rfl, hp, rfl⟩))
        | true => exact .inr (.inr (.inr ⟨rfl, hp, rfl, hw rfl⟩))
    have c2 : s = false ∨ (s = true ∧ t = false) ∨ (s = true ∧ t = true ∧ r = false) ∨ (s = true ∧ t = true ∧ r = true ∧ u = true) := by
      cases s with
      | false => exact .inl rfl
      | true =>
        cases t with
        | false => exact .inr (.inl ⟨rfl, rfl⟩)
        | true =>
          cases r with
          | false => exact .inr (.inr (.inl ⟨rfl, rfl, rfl⟩))
          | true => exact .inr (.inr (.inr ⟨rfl, rfl, rfl, f5 rfl rfl rfl⟩))
    have c3 : f = false ∨ f = true := by cases f <;> simp
    clear f3 f4 f5
    rcases c1 with ⟨rfl, rfl, rfl⟩ | ⟨rfl, rfl⟩ | ⟨rfl, rfl, rfl⟩ | ⟨rfl, rfl, rfl, rfl⟩ <;> rcases c2 with rfl | ⟨rfl, rfl⟩ | ⟨rfl, rfl, rfl⟩ | ⟨rfl, rfl, rfl, rfl⟩ <;> rcases c3 with h3 | h3 <;> first | (cases h3; done) | (
        first | subst h3 | clear h3
        go_enter Tryd.func7, Tryd.ntmps7
        go_wp2_with (first
          | ((with_reducible refine (X.out _).mono ?_); rintro e w' ⟨rfl, rfl⟩)
          | ((with_reducible refine (Y.out _).mono ?_); rintro e w' ⟨rfl, rfl⟩)
          | ((with_reducible refine (Z.out _).mono ?_); rintro e w' ⟨rfl, rfl⟩)
          | ((with_reducible refine (L1.out _ (by assumption)).mono ?_); rintro e w' ⟨rfl, rfl⟩)
          | ((with_reducible refine (L2.out _ (by assumption)).mono ?_); rintro e w' ⟨rfl, rfl⟩)
          | ((with_reducible refine (G1.out _ (by assumption)).mono ?_); rintro e w' ⟨rfl, rfl⟩)
          | ((with_reducible refine (G2.out _ (by assumption)).mono ?_); rintro e w' ⟨rfl, rfl⟩)
          | ((with_reducible refine (WX.out _).mono ?_); rintro e w' ⟨rfl, rfl⟩)
          | ((with_reducible refine (RY.out _).mono ?_); rintro e w' ⟨rfl, rfl⟩)
          | ((with_reducible refine (A1.out _).mono ?_); rintro e w' ⟨rfl, rfl⟩)
          | ((with_reducible refine (F1.out _ (by assumption)).mono ?_); rintro e w1 ⟨rfl, B1⟩)
          | ((with_reducible refine (S1.out _ (by assumption)).mono ?_); rintro e w2 ⟨rfl, B2⟩)
          | ((with_reducible refine (TY.out _).mono ?_); rintro e w' ⟨rfl, rfl⟩)
          | ((with_reducible refine (L3.out _ (by assumption)).mono ?_); rintro e w' ⟨rfl, rfl⟩)
          | ((with_reducible refine (G3.out _ (by assumption)).mono ?_); rintro e w' ⟨rfl, rfl⟩)
          | ((with_reducible refine (AW.out _ (by assumption)).mono ?_); rintro e w3 ⟨rfl, B3⟩))
        go_ret
        exact ⟨rfl, by assumption⟩)
  exact T1 w B0
end Go.Proofs.YtblklbmolfddpaaDoor
