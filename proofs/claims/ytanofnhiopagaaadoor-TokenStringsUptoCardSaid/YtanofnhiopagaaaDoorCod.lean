/- Contracts: ValidRune, coded, escape, at the letter A by its number. -/
import Derived.Test.YtanofnhiopagaaaDoorNbr
namespace Go.Proofs.YtanofnhiopagaaaDoor
open Go.RowKit

theorem validRune_65 (W : World) : Calls Tryd.prog 86 #[.int .i32 65] W fun e w' => e = .returned (.bool true) ∧ W = w' := by
  go_enter Tryd.func86, Tryd.ntmps86
  go_wp2
  go_ret
  exact ⟨rfl, rfl⟩

set_option maxRecDepth 100000 in
set_option maxHeartbeats 400000 in
theorem coded_65 (b : Nat) (s : ByteArray) (k st : Nat) (ln : Bool) (M T : Value) (w : World) (hs : s.size ≤ 4000000000) (hk : k + 2 ≤ s.size) (h : Scn w b s k ln M T)
    (h1 : byteV s.data.toList k = 52) (h2 : byteV s.data.toList (k + 1) = 49) :
    Calls Tryd.prog 83 #[.pointer (some ⟨b, 0, none⟩), .int .i64 st, .int .i64 2, .int .i32 127] w fun e w' =>
      e = .returned (.int .i32 65) ∧ Scn w' b s (k + 2 : Nat) ln M T ∧ w.grownBy w' (some b) := by
  have i1 : (k : Int) + 2 ≤ 4000000000 := by omega
  have VR := Lib.hid validRune_65
  have E1 : digitV 52 = 4 := by decide
  have E2 : digitV 49 = 1 := by decide
  have B := Lib.hid (fun (j : Nat) W (h : Scn W b s j ln M T) => byteAt_any b s j ln M T j W (by unfold maxLen; omega) h)
  have D1 := Lib.hid (fun W => digit_any 52 W (by omega) (by omega))
  have D2 := Lib.hid (fun W => digit_any 49 W (by omega) (by omega))
  rw [E1] at D1
  rw [E2] at D2
  go_enter Tryd.func83, Tryd.ntmps83
  go_wp2_with fail
  go_loopg [9, 12] 2 (fun g tr ti wr => ((g = 2 ∧ tr = .int .i32 0 ∧ ti = .int .i64 0 ∧ Scn wr b s k ln M T) ∨ (g = 1 ∧ tr = .int .i32 4 ∧ ti = .int .i64 1 ∧ Scn wr b s (k + 1 : Nat) ln M T) ∨ (g = 0 ∧ tr = .int .i32 65 ∧ ti = .int .i64 2 ∧ Scn wr b s (k + 2 : Nat) ln M T)) ∧ w.grownBy wr (some b))
  case atStart => exact ⟨.inl ⟨rfl, rfl, rfl, h⟩, ⟨rfl, rfl, rfl, Nat.le_refl _, fun _ _ _ => rfl⟩⟩
  case round =>
    obtain ⟨hc, hg⟩ := hrel
    rcases hc with ⟨rfl, rfl, rfl, hh⟩ | ⟨rfl, rfl, rfl, hh⟩ | ⟨rfl, rfl, rfl, hh⟩
    · have c1 := hh.c1
      have f1 := hh.fz 1
      have B1 := B.out k _ hh
      rw [h1] at B1
      have B1' := Lib.hid B1
      clear B1
      go_wp2_with fail
      refine B1'.out.mono ?_
      rintro e w' ⟨rfl, rfl⟩
      go_wp2_with fail
      refine (D1.out _).mono ?_
      rintro e w' ⟨rfl, rfl⟩
      go_wp2_with fail
      go_roundg 1
      case rel => exact ⟨.inr (.inl ⟨rfl, rfl, rfl, by simpa using hh.set1 ((k : Int) + 1)⟩), hg.trans (grown_set b 1 _)⟩
      case measure => omega
    · have c1 := hh.c1
      have f1 := hh.fz 1
      have B1 := B.out (k + 1) _ hh
      have e1 : ((k + 1 : Nat) : Int) = (k : Int) + 1 := by omega
      rw [h2, e1] at B1
      rw [e1] at c1
      clear e1
      have B1' := Lib.hid B1
      clear B1
      go_wp2_with fail
      refine B1'.out.mono ?_
      rintro e w' ⟨rfl, rfl⟩
      go_wp2_with fail
      refine (D2.out _).mono ?_
      rintro e w' ⟨rfl, rfl⟩
      go_wp2_with fail
      go_roundg 0
      case rel => exact ⟨.inr (.inr ⟨rfl, rfl, rfl, by simpa [Int.add_assoc] using hh.set1 ((k : Int) + 1 + 1)⟩), hg.trans (grown_set b 1 _)⟩
      case measure => omega
    · have V1 := Lib.hid (VR.out wr)
      go_wp2_with fail
      refine V1.out.mono ?_
      rintro e w' ⟨rfl, rfl⟩
      go_wp2_with fail
      go_ret
      exact ⟨rfl, hh, hg⟩

set_option maxRecDepth 100000 in
set_option maxHeartbeats 400000 in
theorem escape_65 (b : Nat) (s : ByteArray) (k st : Nat) (ln : Bool) (M T : Value) (w : World) (hs : s.size ≤ 4000000000) (hk : k + 4 ≤ s.size) (h : Scn w b s k ln M T)
    (h0 : byteV s.data.toList (k + 1) = 120) (h1 : byteV s.data.toList (k + 2) = 52) (h2 : byteV s.data.toList (k + 3) = 49) :
    Calls Tryd.prog 76 #[.pointer (some ⟨b, 0, none⟩), .int .i64 st] w fun e w' =>
      e = .returned (.int .i32 65) ∧ Scn w' b s (k + 4 : Nat) ln M T ∧ w.grownBy w' (some b) := by
  have i1 : (k : Int) + 4 ≤ 4000000000 := by omega
  have c1 := h.c1
  have f1 := h.fz 1
  have B1 := byteAt_any b s k ln M T (k + 1) w (by unfold maxLen; omega) h
  rw [h0, show ((k + 1 : Nat) : Int) = (k : Int) + 1 from by omega] at B1
  have B1' := Lib.hid B1
  have hs1 := h.set1 ((k : Int) + 2)
  have gs1 := grown_set (w := w) b 1 (.int .i64 ((k : Int) + 2))
  have C1 := Lib.hid (coded_65 b s (k + 2) st ln M T (w.setCell ⟨b, 1, none⟩ (.int .i64 ((k : Int) + 2))) hs hk (by simpa using hs1) h1 h2)
  clear B1
  go_enter Tryd.func76, Tryd.ntmps76
  go_wp2_with fail
  refine B1'.out.mono ?_
  rintro e w' ⟨rfl, rfl⟩
  go_wp2_with fail
  refine C1.out.mono ?_
  rintro e w' ⟨rfl, h3, g3⟩
  go_wp2_with fail
  go_ret
  exact ⟨rfl, h3, gs1.trans g3⟩
end Go.Proofs.YtanofnhiopagaaaDoor
