/- Contracts of Add, Sub, Mul, Div, Conj at what is no NaN. -/
import Derived.Test.YtaacgfmpahfmpaaVal
namespace Go.Proofs.Ytaacgfmpahfmpaa
open Go.RowKit

theorem num_int {b : Nat} {n : Int} (h : Flo.IsI b n) : Num b := Flo.self_int h

/-- A variable of two cells. -/
structure Box2 (w : World) (g : Nat) (x y : Value) : Prop where
  c0 : w.cell? ⟨g, 0, none⟩ = some x
  c1 : w.cell? ⟨g, 1, none⟩ = some y
  f0 : w.frozen? ⟨g, 0, none⟩ = false
  f1 : w.frozen? ⟨g, 1, none⟩ = false
  lt : g < w.heap.size
theorem Box2.new (w : World) (x y : Value) (t : TypeId) (g : Nat) (hg : g = w.heap.size) : Box2 (w.alloc (.cells #[x, y] t)) g x y := by
  subst hg
  obtain ⟨h1, h2, h3, h4, h5, _⟩ := new2 (w := w) (a := x) (b := y) (t := t) (Below.refl _ _)
  exact ⟨h1, h2, h3, h4, h5⟩
theorem Box2.below {w w1 : World} {g B : Nat} {x y : Value} (h : Box2 w g x y) (hb : Below B w w1) (hg : g < B) : Box2 w1 g x y :=
  ⟨(hb.cell (p := ⟨g, 0, none⟩) hg).trans h.c0, (hb.cell (p := ⟨g, 1, none⟩) hg).trans h.c1, (hb.frozen (p := ⟨g, 0, none⟩) hg).trans h.f0, (hb.frozen (p := ⟨g, 1, none⟩) hg).trans h.f1, Nat.lt_of_lt_of_le h.lt hb.size⟩
theorem Box2.call {w w1 : World} {g : Nat} {x y : Value} (h : Box2 w g x y) (hb : Below w.heap.size w w1) : Box2 w1 g x y := h.below hb h.lt
theorem Box2.alloc {w : World} {g : Nat} {x y : Value} (h : Box2 w g x y) (o : Obj) : Box2 (w.alloc o) g x y :=
  h.call ((Below.refl _ w).alloc (Nat.le_refl _) o)
theorem bel_alloc {w w1 : World} {o : Obj} (h : Below (w.alloc o).heap.size (w.alloc o) w1) : Below w.heap.size w w1 := by
  have hl : w.heap.size < (w.alloc o).heap.size := by simp
  exact ((Below.refl _ w).alloc (Nat.le_refl _) _).trans (h.mono (Nat.le_of_lt hl))
theorem bel_step {w w1 w2 : World} (h : Below w.heap.size w w1) (h2 : Below w1.heap.size w1 w2) : Below w.heap.size w w2 := h.trans (h2.mono h.size)

/-- Two parameters and a result, each in a variable, behind a first call. -/
theorem new3 {w w1 : World} {a b c d e f : Value} {t : TypeId} (hb : Below (((w.alloc (.cells #[a, b] t)).alloc (.cells #[c, d] t)).alloc (.cells #[e, f] t)).heap.size (((w.alloc (.cells #[a, b] t)).alloc (.cells #[c, d] t)).alloc (.cells #[e, f] t)) w1) :
    Box2 w1 w.heap.size a b ∧ Box2 w1 (w.heap.size + 1) c d ∧ Box2 w1 (w.heap.size + 1 + 1) e f ∧ Below w.heap.size w w1 :=
  ⟨(((Box2.new w a b t _ rfl).alloc _).alloc _).call hb, ((Box2.new (w.alloc _) c d t _ (by simp)).alloc _).call hb, (Box2.new ((w.alloc _).alloc _) e f t _ (by simp)).call hb, bel_alloc (bel_alloc (bel_alloc hb))⟩

theorem set2_below {w w1 : World} {g : Nat} {a : Value} (_ : w1.cell? ⟨g, 0, none⟩ = some a) (hg : w.heap.size ≤ g) (h : Below w.heap.size w w1) (x y : Value) :
    Below w.heap.size w ((w1.setCell ⟨g, 0, none⟩ x).setCell ⟨g, 1, none⟩ y) := (h.setCell (p := ⟨g, 0, none⟩) hg x).setCell (p := ⟨g, 1, none⟩) hg y

set_option maxRecDepth 20000 in
set_option maxHeartbeats 1000000 in
theorem mul_any (a b c d ac bd ad bc re im : Nat) (ha : Num a) (hb : Num b) (hc : Num c) (hd : Num d)
    (h1 : floatBits .mul .f32 a c = some ac) (h2 : floatBits .mul .f32 b d = some bd) (h3 : floatBits .sub .f32 ac bd = some re)
    (h4 : floatBits .mul .f32 a d = some ad) (h5 : floatBits .mul .f32 b c = some bc) (h6 : floatBits .add .f32 ad bc = some im)
    (hr : Num re) (hi : Num im) (w : World) :
    Calls Try.prog 15 #[nv a b, nv c d] w fun e w' => e = .returned (nv re im) ∧ Below w.heap.size w w' := by
  have P1 := Lib.hid (parts_any a b ha hb)
  have P2 := Lib.hid (parts_any c d hc hd)
  have O := Lib.hid (of_any re im hr hi)
  have e1 := fun (t : TypeId) (w : World) => run_float_arith (P := Try.prog) w .mul t .f32 a c ac h1
  have e2 := fun (t : TypeId) (w : World) => run_float_arith (P := Try.prog) w .mul t .f32 b d bd h2
  have e3 := fun (t : TypeId) (w : World) => run_float_arith (P := Try.prog) w .sub t .f32 ac bd re h3
  have e4 := fun (t : TypeId) (w : World) => run_float_arith (P := Try.prog) w .mul t .f32 a d ad h4
  have e5 := fun (t : TypeId) (w : World) => run_float_arith (P := Try.prog) w .mul t .f32 b c bc h5
  have e6 := fun (t : TypeId) (w : World) => run_float_arith (P := Try.prog) w .add t .f32 ad bc im h6
  clear ha hb hc hd h1 h2 h3 h4 h5 h6 hr hi
  go_enter Try.func15, Try.ntmps15
  go_wp2_with (first
    | (go_at_call 11; (with_reducible refine (P1.out _).mono ?_); rintro e w1 ⟨rfl, hb1⟩
       obtain ⟨_, ⟨y0, y1, _, _, _⟩, Z, bl⟩ := new3 hb1
       have HZ := Lib.hid (And.intro Z bl); clear Z bl hb1)
    | (go_at_call 11; (with_reducible refine (P2.out _).mono ?_); rintro e w2 ⟨rfl, hb2⟩
       have HZ2 := Lib.hid (And.intro (HZ.out.1.call hb2) (bel_step HZ.out.2 hb2)); clear hb2)
    | (go_at_call 18; (with_reducible refine (O.out _).mono ?_); rintro e w3 ⟨rfl, hb3⟩
       have HZ3 := Lib.hid (And.intro (HZ2.out.1.call hb3) (bel_step HZ2.out.2 hb3)); clear hb3
       obtain ⟨z0, z1, g0, g1, zl⟩ := HZ3.out.1))
  obtain ⟨r0, r1⟩ := set2 z0 z1 (.int .u32 re) (.int .u32 im)
  have BF := set2_below z0 (by omega) HZ3.out.2 (.int .u32 re) (.int .u32 im)
  refine bodyPost_ret (v := nv re im) ?_ rfl ⟨rfl, ?_⟩
  · simp [results, Try.results15, go_sem, r0, r1]
  · exact BF
end Go.Proofs.Ytaacgfmpahfmpaa
