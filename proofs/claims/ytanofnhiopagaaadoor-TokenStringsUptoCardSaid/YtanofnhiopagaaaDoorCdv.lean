/- Contracts: coded at two digits; the escape by them. -/
import Derived.Test.YtanofnhiopagaaaDoorEsc
import Derived.Deep.Cut
namespace Go.Proofs.YtanofnhiopagaaaDoor
open Go.RowKit

def Small4 (k : Nat) : Prop := k + 2 ≤ 4000000000
theorem Small4.i {k : Nat} (h : Small4 k) : (k : Int) < 4000000000 - 1 := by unfold Small4 at h; omega
theorem or_one (d : Int) (h : 0 ≤ d ∧ d < 8) : bits BinOp.or IntKind.i32 0 (wrap32 d) = d := by
  have : ∀ k : Fin 8, bits BinOp.or IntKind.i32 0 (wrap32 ((k.val : Nat) : Int)) = ((k.val : Nat) : Int) := by decide +kernel
  have e := this ⟨d.toNat, by omega⟩
  simp only [Int.toNat_of_nonneg h.1] at e
  exact e
theorem or_two (d1 d2 : Int) (h : 0 ≤ d1 ∧ d1 < 8) (h' : 0 ≤ d2 ∧ d2 < 16) : bits BinOp.or IntKind.i32 (wrap32 (d1 * 16)) (wrap32 d2) = 16 * d1 + d2 := by
  have : ∀ k : Fin 8, ∀ j : Fin 16, bits BinOp.or IntKind.i32 (wrap32 (((k.val : Nat) : Int) * 16)) (wrap32 ((j.val : Nat) : Int)) = 16 * ((k.val : Nat) : Int) + ((j.val : Nat) : Int) := by decide +kernel
  have e := this ⟨d1.toNat, by omega⟩ ⟨d2.toNat, by omega⟩
  simp only [Int.toNat_of_nonneg h.1, Int.toNat_of_nonneg h'.1] at e
  exact e
theorem validRune_int (v : Int) (h0 : 0 ≤ v) (hv : v < 128) (W : World) : Calls Tryd.prog 86 #[.int .i32 v] W fun e w' => e = .returned (.bool true) ∧ W = w' := by
  have i2 : v < 55296 := by omega
  go_enter Tryd.func86, Tryd.ntmps86
  go_wp2
  go_ret
  exact ⟨rfl, rfl⟩

set_option maxRecDepth 100000 in
set_option maxHeartbeats 400000 in
theorem coded_v (b : Nat) (s : ByteArray) (k st : Nat) (ln : Bool) (M T : Value) (w : World) (hs : s.size ≤ 4000000000) (hk : k + 2 ≤ s.size) (h : Scn w b s k ln M T)
    (x1 x2 d1 d2 v : Int) (h1 : byteV s.data.toList k = x1) (h2 : byteV s.data.toList (k + 1) = x2) (r1 : 0 ≤ x1 ∧ x1 ≤ 255) (r2 : 0 ≤ x2 ∧ x2 ≤ 255) (e1 : digitV x1 = d1) (e2 : digitV x2 = d2) (hd1 : 0 ≤ d1 ∧ d1 < 8) (hd2 : 0 ≤ d2 ∧ d2 < 16) (hv : v = 16 * d1 + d2) :
    Calls Tryd.prog 83 #[.pointer (some ⟨b, 0, none⟩), .int .i64 st, .int .i64 2, .int .i32 127] w fun e w' =>
      e = .returned (.int .i32 v) ∧ Scn w' b s (k + 2 : Nat) ln M T ∧ w.grownBy w' (some b) := by
  have sm : Small4 k := by unfold Small4; omega
  have j1 : ¬ (15 : Int) < d1 := by omega
  have j2 : ¬ (15 : Int) < d2 := by omega
  have j3 : ¬ (127 : Int) < v := by omega
  have VR := Lib.hid (fun W => validRune_int v (by omega) (by omega) W)
  have B := Lib.hid (fun (j : Nat) W (h : Scn W b s j ln M T) => byteAt_any b s j ln M T j W (by unfold maxLen; omega) h)
  have D1 := Lib.hid (fun W => digit_any x1 W r1.1 r1.2)
  have D2 := Lib.hid (fun W => digit_any x2 W r2.1 r2.2)
  rw [e1] at D1
  rw [e2] at D2
  have O1 := Lib.hid (or_one d1 hd1)
  have O2 := Lib.hid ((or_two d1 d2 hd1 hd2).trans hv.symm)
  have H1 := Lib.hid h1
  have H2 := Lib.hid h2
  clear hv e1 e2 h1 h2 r1 r2 hd1 hd2
  go_enter Tryd.func83, Tryd.ntmps83
  go_wp2_with fail
  go_loopg [9, 12] 2 (fun g tr ti wr => ((g = 2 ∧ tr = .int .i32 0 ∧ ti = .int .i64 0 ∧ Scn wr b s k ln M T) ∨ (g = 1 ∧ tr = .int .i32 d1 ∧ ti = .int .i64 1 ∧ Scn wr b s (k + 1 : Nat) ln M T) ∨ (g = 0 ∧ tr = .int .i32 v ∧ ti = .int .i64 2 ∧ Scn wr b s (k + 2 : Nat) ln M T)) ∧ w.grownBy wr (some b))
  case atStart => exact ⟨.inl ⟨rfl, rfl, rfl, h⟩, ⟨rfl, rfl, rfl, Nat.le_refl _, fun _ _ _ => rfl⟩⟩
  case round =>
    obtain ⟨hc, hg⟩ := hrel
    rcases hc with ⟨rfl, rfl, rfl, hh⟩ | ⟨rfl, rfl, rfl, hh⟩ | ⟨rfl, rfl, rfl, hh⟩
    · have c1 := hh.c1
      have f1 := hh.fz 1
      have B1 := B.out k _ hh
      rw [H1.out] at B1
      have B1' := Lib.hid B1
      clear B1 hs hk h
      go_wp2_with fail
      refine B1'.out.mono ?_
      rintro e w' ⟨rfl, rfl⟩
      go_wp2_with fail
      refine (D1.out _).mono ?_
      rintro e w' ⟨rfl, rfl⟩
      go_upto_region 8 with fail
      have i1 := sm.i
      go_wp2_with fail
      go_roundg 1
      case rel => exact ⟨.inr (.inl ⟨rfl, congrArg (Value.int .i32) O1.out, rfl, by simpa using hh.set1 ((k : Int) + 1)⟩), hg.trans (grown_set b 1 _)⟩
      case measure => omega
    · have c1 := hh.c1
      have f1 := hh.fz 1
      have B1 := B.out (k + 1) _ hh
      have e1 : ((k + 1 : Nat) : Int) = (k : Int) + 1 := by omega
      rw [H2.out, e1] at B1
      rw [e1] at c1
      clear e1
      have B1' := Lib.hid B1
      clear B1 hs hk h
      go_wp2_with fail
      refine B1'.out.mono ?_
      rintro e w' ⟨rfl, rfl⟩
      go_wp2_with fail
      refine (D2.out _).mono ?_
      rintro e w' ⟨rfl, rfl⟩
      go_upto_region 8 with fail
      have i1 := sm.i
      go_wp2_with fail
      go_roundg 0
      case rel => exact ⟨.inr (.inr ⟨rfl, congrArg (Value.int .i32) O2.out, rfl, by simpa [Int.add_assoc] using hh.set1 ((k : Int) + 1 + 1)⟩), hg.trans (grown_set b 1 _)⟩
      case measure => omega
    · have V1 := Lib.hid (VR.out wr)
      clear hs hk h
      go_wp2_with fail
      refine V1.out.mono ?_
      rintro e w' ⟨rfl, rfl⟩
      go_wp2_with fail
      go_ret
      exact ⟨rfl, hh, hg⟩

theorem hex_digit (n : Nat) (h : n < 16) : digitV ((hexB n).toNat : Int) = n ∧ 0 ≤ ((hexB n).toNat : Int) ∧ ((hexB n).toNat : Int) ≤ 255 := by
  have : ∀ k : Fin 16, digitV ((hexB k.val).toNat : Int) = k.val ∧ 0 ≤ ((hexB k.val).toNat : Int) ∧ ((hexB k.val).toNat : Int) ≤ 255 := by decide +kernel
  exact this ⟨n, h⟩

set_option maxRecDepth 100000 in
set_option maxHeartbeats 400000 in
theorem escape_x (b : Nat) (s : ByteArray) (k st : Nat) (ln : Bool) (M T : Value) (w : World) (hs : s.size ≤ 4000000000) (hk : k + 4 ≤ s.size) (h : Scn w b s k ln M T) (c : UInt8) (hc : c.toNat < 128)
    (h0 : byteV s.data.toList (k + 1) = 120) (h1 : byteV s.data.toList (k + 2) = ((hexB (c.toNat / 16)).toNat : Int)) (h2 : byteV s.data.toList (k + 3) = ((hexB (c.toNat % 16)).toNat : Int)) :
    Calls Tryd.prog 76 #[.pointer (some ⟨b, 0, none⟩), .int .i64 st] w fun e w' =>
      e = .returned (.int .i32 (c.toNat : Int)) ∧ Scn w' b s (k + 4 : Nat) ln M T ∧ w.grownBy w' (some b) := by
  have i1 : (k : Int) + 4 ≤ 4000000000 := by omega
  have c1 := h.c1
  have f1 := h.fz 1
  have B1 := byteAt_any b s k ln M T (k + 1) w (by unfold maxLen; omega) h
  rw [h0, show ((k + 1 : Nat) : Int) = (k : Int) + 1 from by omega] at B1
  have B1' := Lib.hid B1
  have hs1 := h.set1 ((k : Int) + 2)
  have gs1 := grown_set (w := w) b 1 (.int .i64 ((k : Int) + 2))
  have x1 := hex_digit (c.toNat / 16) (by omega)
  have x2 := hex_digit (c.toNat % 16) (by omega)
  have C1 := Lib.hid (coded_v b s (k + 2) st ln M T (w.setCell ⟨b, 1, none⟩ (.int .i64 ((k : Int) + 2))) hs hk (by simpa using hs1) _ _ _ _ (c.toNat : Int) h1 h2 x1.2 x2.2 x1.1 x2.1 (by omega) (by omega) (by omega))
  clear B1 h1 h2 x1 x2 hc
  go_enter Tryd.func76, Tryd.ntmps76
  go_wp2_with fail
  refine B1'.out.mono ?_
  rintro e w' ⟨rfl, rfl⟩
  go_wp2_with fail
  refine C1.out.mono ?_
  rintro e w' ⟨rfl, h3, g3⟩
  go_wp2_with fail
  go_ret
  exact ⟨rfl, h3, gs1.trans g3⟩
end Go.Proofs.YtanofnhiopagaaaDoor
