/- Contracts of Add and Sub at what is no NaN. -/
import Derived.Test.YtaacgfmpahfmpaaAri
import Derived.Deep.RegionWith
import Derived.BigRegion
import Derived.Deep.RegionHeld3
namespace Go.Proofs.Ytaacgfmpahfmpaa
open Go.RowKit

/-- Two boxes above a world. -/
structure Two (w W : World) (g h : Nat) (x y u v : Value) : Prop where
  one : Box2 W g x y
  two : Box2 W h u v
  bel : Below w.heap.size w W
theorem Two.call {w W W' : World} {g h : Nat} {x y u v : Value} (T : Two w W g h x y u v) (hb : Below W.heap.size W W') : Two w W' g h x y u v :=
  ⟨T.one.call hb, T.two.call hb, bel_step T.bel hb⟩
theorem Two.callD {w W W' : World} {g h : Nat} {x y u v : Value} (T : Two w W g h x y u v) (hb : Below W.drew.heap.size W.drew W') : Two w W' g h x y u v :=
  T.call ⟨hb.os, hb.tape, hb.output, hb.size, hb.block⟩

set_option maxRecDepth 20000 in
set_option maxHeartbeats 1000000 in
theorem add_any (a b c d re im : Nat) (ha : Num a) (hb : Num b) (hc : Num c) (hd : Num d)
    (h1 : floatBits .add .f32 a c = some re) (h2 : floatBits .add .f32 b d = some im)
    (hr : Num re) (hi : Num im) (w : World) :
    Calls Try.prog 13 #[nv a b, nv c d] w fun e w' => e = .returned (nv re im) ∧ Below w.heap.size w w' := by
  have P1 := Lib.hid (value_any a b ha hb)
  have P2 := Lib.hid (value_any c d hc hd)
  have O := Lib.hid (number_any re im hr hi)
  have e1 := fun (t : TypeId) (w : World) => run_complex_sum (P := Try.prog) w .add (.inl rfl) t .f32 a b c d re im (by simp [cSumBits, h1, h2])
  clear ha hb hc hd h1 h2 hr hi
  go_enter Try.func13, Try.ntmps13
  go_wp2_with fail
  obtain ⟨X, Y, Z, bl⟩ := new3 (w := w) (a := .int .u32 a) (b := .int .u32 b) (c := .int .u32 c) (d := .int .u32 d) (e := .int .u32 0) (f := .int .u32 0) (t := 32) (Below.refl _ _)
  generalize ((w.alloc _).alloc _).alloc _ = W at *
  obtain ⟨x0, x1, _, _, _⟩ := X
  have HB := Lib.hid (Two.mk Y Z bl)
  obtain ⟨y0, y1, _, _, yl⟩ := Y
  clear Z bl
  go_region_with (first
    | (go_at_call 46; (with_reducible refine (P1.out _).mono ?_); rintro e w1 ⟨rfl, hb1⟩; have HB1 := Lib.hid (HB.out.callD hb1); clear hb1
       obtain ⟨y0, y1, _, _, _⟩ := HB1.out.one)
    | (go_at_call 46; (with_reducible refine (P2.out _).mono ?_); rintro e w2 ⟨rfl, hb2⟩; have HB2 := Lib.hid (HB1.out.call hb2); clear hb2)
    | (go_at_call 47; (with_reducible refine (O.out _).mono ?_); rintro e w3 ⟨rfl, hb3⟩; have HB3 := Lib.hid (HB2.out.call hb3); clear hb3
       obtain ⟨z0, z1, g0, g1, zl⟩ := HB3.out.two))
  all_goals go_wp2
  all_goals (
    obtain ⟨r0, r1⟩ := set2 z0 z1 (.int .u32 re) (.int .u32 im)
    have BF := set2_below z0 (by omega) HB3.out.bel (.int .u32 re) (.int .u32 im)
    refine bodyPost_ret (v := nv re im) ?_ rfl ⟨rfl, ?_⟩
    · simp [results, Try.results13, go_sem, r0, r1]
    · exact BF)

set_option maxRecDepth 20000 in
set_option maxHeartbeats 1000000 in
theorem sub_any (a b c d re im : Nat) (ha : Num a) (hb : Num b) (hc : Num c) (hd : Num d)
    (h1 : floatBits .sub .f32 a c = some re) (h2 : floatBits .sub .f32 b d = some im)
    (hr : Num re) (hi : Num im) (w : World) :
    Calls Try.prog 14 #[nv a b, nv c d] w fun e w' => e = .returned (nv re im) ∧ Below w.heap.size w w' := by
  have P1 := Lib.hid (value_any a b ha hb)
  have P2 := Lib.hid (value_any c d hc hd)
  have O := Lib.hid (number_any re im hr hi)
  have e1 := fun (t : TypeId) (w : World) => run_complex_sum (P := Try.prog) w .sub (.inr rfl) t .f32 a b c d re im (by simp [cSumBits, h1, h2])
  clear ha hb hc hd h1 h2 hr hi
  go_enter Try.func14, Try.ntmps14
  go_wp2_with fail
  obtain ⟨X, Y, Z, bl⟩ := new3 (w := w) (a := .int .u32 a) (b := .int .u32 b) (c := .int .u32 c) (d := .int .u32 d) (e := .int .u32 0) (f := .int .u32 0) (t := 32) (Below.refl _ _)
  generalize ((w.alloc _).alloc _).alloc _ = W at *
  obtain ⟨x0, x1, _, _, _⟩ := X
  have HB := Lib.hid (Two.mk Y Z bl)
  obtain ⟨y0, y1, _, _, yl⟩ := Y
  clear Z bl
  go_region_with (first
    | (go_at_call 46; (with_reducible refine (P1.out _).mono ?_); rintro e w1 ⟨rfl, hb1⟩; have HB1 := Lib.hid (HB.out.callD hb1); clear hb1
       obtain ⟨y0, y1, _, _, _⟩ := HB1.out.one)
    | (go_at_call 46; (with_reducible refine (P2.out _).mono ?_); rintro e w2 ⟨rfl, hb2⟩; have HB2 := Lib.hid (HB1.out.call hb2); clear hb2)
    | (go_at_call 47; (with_reducible refine (O.out _).mono ?_); rintro e w3 ⟨rfl, hb3⟩; have HB3 := Lib.hid (HB2.out.call hb3); clear hb3
       obtain ⟨z0, z1, g0, g1, zl⟩ := HB3.out.two))
  all_goals go_wp2
  all_goals (
    obtain ⟨r0, r1⟩ := set2 z0 z1 (.int .u32 re) (.int .u32 im)
    have BF := set2_below z0 (by omega) HB3.out.bel (.int .u32 re) (.int .u32 im)
    refine bodyPost_ret (v := nv re im) ?_ rfl ⟨rfl, ?_⟩
    · simp [results, Try.results14, go_sem, r0, r1]
    · exact BF)

end Go.Proofs.Ytaacgfmpahfmpaa
