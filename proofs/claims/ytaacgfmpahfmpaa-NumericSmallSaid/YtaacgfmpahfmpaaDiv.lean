/- Contracts of Div and Conj at what is no NaN. -/
import Derived.Test.YtaacgfmpahfmpaaAdd
namespace Go.Proofs.Ytaacgfmpahfmpaa
open Go.RowKit

set_option maxRecDepth 20000 in
set_option maxHeartbeats 1000000 in
theorem div_any (a b c d cc dd n ac bd p bc ad q re im : Nat) (ha : Num a) (hb : Num b) (hc : Num c) (hd : Num d)
    (h1 : floatBits .mul .f32 c c = some cc) (h2 : floatBits .mul .f32 d d = some dd) (h3 : floatBits .add .f32 cc dd = some n)
    (h4 : floatBits .mul .f32 a c = some ac) (h5 : floatBits .mul .f32 b d = some bd) (h6 : floatBits .add .f32 ac bd = some p)
    (h7 : floatBits .mul .f32 b c = some bc) (h8 : floatBits .mul .f32 a d = some ad) (h9 : floatBits .sub .f32 bc ad = some q)
    (h10 : floatBits .quo .f32 p n = some re) (h11 : floatBits .quo .f32 q n = some im)
    (hr : Num re) (hi : Num im) (w : World) :
    Calls Try.prog 16 #[nv a b, nv c d] w fun e w' => e = .returned (nv re im) ∧ Below w.heap.size w w' := by
  have P1 := Lib.hid (parts_any a b ha hb)
  have P2 := Lib.hid (parts_any c d hc hd)
  have O := Lib.hid (of_any re im hr hi)
  have e1 := fun (t : TypeId) (w : World) => run_float_arith (P := Try.prog) w .mul t .f32 c c cc h1
  have e2 := fun (t : TypeId) (w : World) => run_float_arith (P := Try.prog) w .mul t .f32 d d dd h2
  have e3 := fun (t : TypeId) (w : World) => run_float_arith (P := Try.prog) w .add t .f32 cc dd n h3
  have e4 := fun (t : TypeId) (w : World) => run_float_arith (P := Try.prog) w .mul t .f32 a c ac h4
  have e5 := fun (t : TypeId) (w : World) => run_float_arith (P := Try.prog) w .mul t .f32 b d bd h5
  have e6 := fun (t : TypeId) (w : World) => run_float_arith (P := Try.prog) w .add t .f32 ac bd p h6
  have e7 := fun (t : TypeId) (w : World) => run_float_arith (P := Try.prog) w .mul t .f32 b c bc h7
  have e8 := fun (t : TypeId) (w : World) => run_float_arith (P := Try.prog) w .mul t .f32 a d ad h8
  have e9 := fun (t : TypeId) (w : World) => run_float_arith (P := Try.prog) w .sub t .f32 bc ad q h9
  have e10 := fun (t : TypeId) (w : World) => run_float_arith (P := Try.prog) w .quo t .f32 p n re h10
  have e11 := fun (t : TypeId) (w : World) => run_float_arith (P := Try.prog) w .quo t .f32 q n im h11
  clear ha hb hc hd h1 h2 h3 h4 h5 h6 h7 h8 h9 h10 h11 hr hi
  go_enter Try.func16, Try.ntmps16
  go_wp2_with (first
    | (go_at_call 11; (with_reducible refine (P1.out _).mono ?_); rintro e w1 ⟨rfl, hb1⟩
       obtain ⟨_, ⟨y0, y1, _, _, _⟩, Z, bl⟩ := new3 hb1
       have HZ := Lib.hid (And.intro Z bl); clear Z bl hb1)
    | (go_at_call 11; (with_reducible refine (P2.out _).mono ?_); rintro e w2 ⟨rfl, hb2⟩
       have HZ2 := Lib.hid (And.intro (HZ.out.1.call hb2) (bel_step HZ.out.2 hb2)); clear hb2)
    | (go_at_call 18; (with_reducible refine (O.out _).mono ?_); rintro e w3 ⟨rfl, hb3⟩
       have HZ3 := Lib.hid (And.intro (HZ2.out.1.call hb3) (bel_step HZ2.out.2 hb3)); clear hb3
       obtain ⟨z0, z1, g0, g1, zl⟩ := HZ3.out.1))
  obtain ⟨r0, r1⟩ := set2 z0 z1 (.int .u32 re) (.int .u32 im)
  have BF := set2_below z0 (by omega) HZ3.out.2 (.int .u32 re) (.int .u32 im)
  refine bodyPost_ret (v := nv re im) ?_ rfl ⟨rfl, ?_⟩
  · simp [results, Try.results16, go_sem, r0, r1]
  · exact BF

/-- What stands in two boxes behind stores. -/
structure Sto (w2 : World) (g : Nat) (a b : Value) : Prop where
  p0 : ((w2.setCell ⟨g, 0, none⟩ a).setCell ⟨g, 1, none⟩ b).cell? ⟨g, 0, none⟩ = some a
  p1 : ((w2.setCell ⟨g, 0, none⟩ a).setCell ⟨g, 1, none⟩ b).cell? ⟨g, 1, none⟩ = some b
  x0 : ∀ x, (((w2.setCell ⟨g, 0, none⟩ a).setCell ⟨g, 1, none⟩ b).setCell ⟨g, 1, none⟩ x).cell? ⟨g, 0, none⟩ = some a
  x1 : ∀ x, (((w2.setCell ⟨g, 0, none⟩ a).setCell ⟨g, 1, none⟩ b).setCell ⟨g, 1, none⟩ x).cell? ⟨g, 1, none⟩ = some x
  q0 : ∀ x, (((w2.setCell ⟨g, 0, none⟩ a).setCell ⟨g, 1, none⟩ b).setCell ⟨g, 1, none⟩ x).cell? ⟨g + 1, 0, none⟩ = w2.cell? ⟨g + 1, 0, none⟩
  q1 : ∀ x, (((w2.setCell ⟨g, 0, none⟩ a).setCell ⟨g, 1, none⟩ b).setCell ⟨g, 1, none⟩ x).cell? ⟨g + 1, 1, none⟩ = w2.cell? ⟨g + 1, 1, none⟩
theorem sto {w2 : World} {g : Nat} {a b a' b' : Value} (c0 : w2.cell? ⟨g, 0, none⟩ = some a') (c1 : w2.cell? ⟨g, 1, none⟩ = some b') : Sto w2 g a b := by
  have h1 : (w2.setCell ⟨g, 0, none⟩ a).cell? ⟨g, 0, none⟩ = some a := World.cell?_setCell_same' _ _ _ (by rw [c0]; rfl)
  have h2 : (w2.setCell ⟨g, 0, none⟩ a).cell? ⟨g, 1, none⟩ = some b' := by rw [World.cell?_setCell_other _ _ _ _ (by simp)]; exact c1
  have h3 : ((w2.setCell ⟨g, 0, none⟩ a).setCell ⟨g, 1, none⟩ b).cell? ⟨g, 0, none⟩ = some a := by rw [World.cell?_setCell_other _ _ _ _ (by simp)]; exact h1
  have h4 : ((w2.setCell ⟨g, 0, none⟩ a).setCell ⟨g, 1, none⟩ b).cell? ⟨g, 1, none⟩ = some b := World.cell?_setCell_same' _ _ _ (by rw [h2]; rfl)
  refine ⟨h3, h4, fun x => ?_, fun x => World.cell?_setCell_same' _ _ _ (by rw [h4]; rfl), fun x => ?_, fun x => ?_⟩
  · rw [World.cell?_setCell_other _ _ _ _ (by simp)]; exact h3
  · rw [World.cell?_setCell_other _ _ _ _ (by simp), World.cell?_setCell_other _ _ _ _ (by simp), World.cell?_setCell_other _ _ _ _ (by simp)]
  · rw [World.cell?_setCell_other _ _ _ _ (by simp), World.cell?_setCell_other _ _ _ _ (by simp), World.cell?_setCell_other _ _ _ _ (by simp)]

set_option maxRecDepth 20000 in
set_option maxHeartbeats 1000000 in
theorem conj_any (a b : Nat) (ha : Num a) (hb : Num b) (hn : b ≠ 2143289344) (hl : b < 4294967296) (w : World) :
    Calls Try.prog 17 #[nv a b] w fun e w' => e = .returned (.agg #[.int .u32 a, .int .u32 ((b ^^^ 2147483648 : Nat) : Int)]) ∧ Below w.heap.size w w' := by
  have P1 := Lib.hid (value_any a b ha hb)
  have O := Lib.hid (number_any a b ha hb)
  have hn' : ((b : Int) == 2143289344) = false := by simp; omega
  have hx : bits .xor .u32 (b : Int) 2147483648 = ((b ^^^ 2147483648 : Nat) : Int) := u32_xor_nat b 2147483648 hl (by decide)
  replace hx := Lib.hid hx
  clear ha hb hn hl
  go_enter Try.func17, Try.ntmps17
  go_wp2_with fail
  have T : Two w _ _ _ _ _ _ _ := ⟨(Box2.new w (.int .u32 a) (.int .u32 b) 32 _ rfl).alloc (.cells #[.int .u32 0, .int .u32 0] 32), Box2.new (w.alloc (.cells #[.int .u32 a, .int .u32 b] 32)) (.int .u32 0) (.int .u32 0) 32 (w.heap.size + 1) (by simp), bel_alloc (bel_alloc (Below.refl _ _))⟩
  generalize (w.alloc _).alloc _ = W at *
  obtain ⟨x0, x1, _, _, _⟩ := T.one
  have HT := Lib.hid T
  clear T
  go_wp2_with (first
    | (go_at_call 46; (with_reducible refine (P1.out _).mono ?_); rintro e w1 ⟨rfl, hb1⟩; have HT1 := Lib.hid (HT.out.call hb1); clear hb1)
    | (go_at_call 47; (with_reducible refine (O.out _).mono ?_); rintro e w2 ⟨rfl, hb2⟩; have HT2 := Lib.hid (HT1.out.call hb2); clear hb2
       obtain ⟨y0, y1, h0, h1, yl⟩ := HT2.out.one
       obtain ⟨z0, z1, g0, g1, zl⟩ := HT2.out.two
       obtain ⟨s0, s1, s2, s3, s4, s5⟩ := sto (a := .int .u32 a) (b := .int .u32 b) y0 y1))
  rw [hx.out]
  generalize ((b ^^^ 2147483648 : Nat) : Int) = y at *
  have q0 := (s4 (.int .u32 y)).trans z0
  have q1 := (s5 (.int .u32 y)).trans z1
  obtain ⟨r0, r1⟩ := set2 q0 q1 (.int .u32 a) (.int .u32 y)
  have B3 := ((HT2.out.bel.setCell (p := ⟨w.heap.size, 0, none⟩) (Nat.le_refl _) (.int .u32 a)).setCell (p := ⟨w.heap.size, 1, none⟩) (Nat.le_refl _) (.int .u32 b)).setCell (p := ⟨w.heap.size, 1, none⟩) (Nat.le_refl _) (.int .u32 y)
  have BF := set2_below q0 (by omega) B3 (.int .u32 a) (.int .u32 y)
  refine bodyPost_ret (v := .agg #[.int .u32 a, .int .u32 y]) ?_ rfl ⟨rfl, ?_⟩
  · simp [results, Try.results17, go_sem, r0, r1]
  · exact BF
end Go.Proofs.Ytaacgfmpahfmpaa
