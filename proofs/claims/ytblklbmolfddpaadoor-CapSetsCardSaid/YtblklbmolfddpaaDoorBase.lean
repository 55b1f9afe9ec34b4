/- The contracts of package cap over a fixed first world: what lies below it stays. one, mark and awake of the statements. -/
import Derived.Test.YtblklbmolfddpaaDoorFits
import Derived.Test.YtblklbmolfddpaaDoorFacts
namespace Go.Proofs.YtblklbmolfddpaaDoor
open Go.RowKit

/-- A world behind w in which all that w had reads as before. -/
def Bel (w W : World) : Prop := Below w.heap.size w W
theorem Bel.refl (w : World) : Bel w w := Below.refl _ _
theorem Bel.step {w W W' : World} (h : Bel w W) (h2 : Below W.heap.size W W') : Bel w W' := Below.trans2 h h2

set_option maxHeartbeats 400000 in
theorem one_ex (a : Int) (h0 : 0 ≤ a) (h1 : a ≤ 255) : ∃ x, capB x = true ∧ ∀ W, Calls Tryd.prog 45 #[.int .u8 a] W fun e w' => e = .returned (.int .i64 x) ∧ W = w' := by
  refine ⟨1 + a % 6, ?_, fun W => ?_⟩
  · simp [capB]; omega
  · go_enter Tryd.func45, Tryd.ntmps45
    go_wp2
    go_ret
    exact ⟨rfl, rfl⟩
set_option maxHeartbeats 400000 in
theorem mark_ex (a : Int) (h0 : 0 ≤ a) (h1 : a ≤ 255) : ∃ x, markB x = true ∧ ∀ W, Calls Tryd.prog 46 #[.int .u8 a] W fun e w' => e = .returned (.int .i64 x) ∧ W = w' := by
  refine ⟨a % 3, ?_, fun W => ?_⟩
  · simp [markB]; omega
  · go_enter Tryd.func46, Tryd.ntmps46
    go_wp2
    go_ret
    exact ⟨rfl, rfl⟩

theorem fits_bel (w : World) (hG : GFits w) (a m b o : Int) (W : World) (h : Bel w W) :
    Calls Tryd.prog 26 #[.int .i64 a, .int .i64 m, .int .i64 b, .int .i64 o] W fun e w' => e = .returned (.bool (fitsB a m b o)) ∧ Bel w w' :=
  (fits_any a m b o W (hG.below h)).mono fun _ _ ⟨he, hw⟩ => ⟨he, h.step hw⟩
theorem sub_bel (w : World) (hG : GFits w) (a b : Int) (W : World) (h : Bel w W) :
    Calls Tryd.prog 24 #[.int .i64 a, .int .i64 b] W fun e w' => e = .returned (.bool (fitsB a 1 b 0)) ∧ Bel w w' :=
  (sub_any a b W (hG.below h)).mono fun _ _ ⟨he, hw⟩ => ⟨he, h.step hw⟩
theorem view_bel (w : World) (hG : GViews w) (o f : Int) (W : World) (h : Bel w W) :
    Calls Tryd.prog 35 #[.int .i64 o, .int .i64 f] W fun e w' => e = .returned (.tuple #[.int .i64 (viewV o f), .bool (viewV o f != 0)]) ∧ W = w' :=
  view_any o f W (hG.below h)
theorem extract_bel (w : World) (hG : GViews w) (o f : Int) (W : World) (h : Bel w W) :
    Calls Tryd.prog 37 #[.int .i64 o, .int .i64 f] W fun e w' => e = .returned (.tuple #[.int .i64 (extractV o f).1, .int .i64 (extractV o f).2.1, .bool (extractV o f).2.2]) ∧ W = w' :=
  extract_any o f W (hG.below h)

set_option maxHeartbeats 1600000 in
theorem awake_bel (w : World) (hV : GViews w) (hF : GFits w) (W : World) (h : Bel w W) :
    Calls Tryd.prog 34 #[] W fun e w' => e = .returned (.bool true) ∧ Bel w w' := by
  have V1 := Lib.hid (view_bel w hV 1 3)
  rw [show viewV 1 3 = 6 from by decide +kernel] at V1
  have V2 := Lib.hid (view_bel w hV 4 3)
  rw [show viewV 4 3 = 4 from by decide +kernel] at V2
  have A1 := Lib.hid (alias_any 1 0)
  rw [show aliasV 1 0 = (1, 2) from by decide +kernel] at A1
  have E1 := Lib.hid (extract_bel w hV 3 1)
  rw [show extractV 3 1 = (1, 1, true) from by decide +kernel] at E1
  have F1 := Lib.hid (fits_bel w hF 1 2 6 0)
  rw [show fitsB 1 2 6 0 = true from by decide +kernel] at F1
  have F2 := Lib.hid (fits_bel w hF 1 2 5 0)
  rw [show fitsB 1 2 5 0 = false from by decide +kernel] at F2
  clear hV hF
  go_enter Tryd.func34, Tryd.ntmps34
  go_wp2_with fail
  refine (V1.out _ h).mono ?_
  rintro e w' ⟨rfl, rfl⟩
  go_wp2_with fail
  refine (V2.out _ h).mono ?_
  rintro e w' ⟨rfl, rfl⟩
  go_wp2_with fail
  refine (A1.out _).mono ?_
  rintro e w' ⟨rfl, rfl⟩
  go_wp2_with fail
  refine (E1.out _ h).mono ?_
  rintro e w' ⟨rfl, rfl⟩
  go_wp2_with fail
  refine (F1.out _ h).mono ?_
  rintro e w1 ⟨rfl, h1⟩
  go_wp2_with fail
  refine (F2.out _ h1).mono ?_
  rintro e w2 ⟨rfl, h2⟩
  go_wp2_with fail
  go_ret
  exact ⟨rfl, h2⟩
end Go.Proofs.YtblklbmolfddpaaDoor
