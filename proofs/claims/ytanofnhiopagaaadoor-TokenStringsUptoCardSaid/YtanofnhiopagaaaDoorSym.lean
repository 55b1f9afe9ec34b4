/- Contracts: DecodeRuneInString and symbolic, over ASCII. -/
import Derived.Test.YtanofnhiopagaaaDoorCod
import Derived.Test.YtanofnhiopagaaaDoorScan5
namespace Go.Proofs.YtanofnhiopagaaaDoor
open Go.RowKit

set_option maxRecDepth 100000 in
set_option maxHeartbeats 400000 in
theorem decode_ascii (t : ByteArray) (c : UInt8) (w : World) (h1 : 0 < t.size) (h0 : t[0]'h1 = c) (hc : c.toNat < 128) :
    Calls Tryd.prog 77 #[.string t] w fun e w' => e = .returned (.tuple #[.int .i32 (c.toNat : Int), .int .i64 1]) ∧ w = w' := by
  have hne : t.toList.isEmpty = false := by
    rw [Lib.toList_data]
    cases h : t.data.toList with
    | nil => exact absurd (by rw [Lib.size_eq, h]; rfl) (Nat.ne_of_gt h1)
    | cons _ _ => rfl
  have hz0 : (0 : Int) < (t.size : Int) := by omega
  have haz : (c.toNat : Int) < 128 := by omega
  go_enter Tryd.func77, Tryd.ntmps77
  go_wp2
  go_ret2
  exact ⟨rfl, rfl⟩

theorem get_drop (s : ByteArray) (k : Nat) (hk : k < s.size) : ∃ h : 0 < (s.extract k s.size).size, (s.extract k s.size)[0]'h = s[k] := by
  refine ⟨by simp; omega, ?_⟩
  simp [ByteArray.getElem_extract]

set_option maxRecDepth 100000 in
set_option maxHeartbeats 400000 in
theorem symbolic_plain (b : Nat) (s : ByteArray) (k st : Nat) (ln : Bool) (M T : Value) (w : World) (hs : s.size ≤ 4000000000) (hk : k < s.size) (h : Scn w b s k ln M T)
    (c : UInt8) (h0 : s[k] = c) (hc : c.toNat < 128) (h10 : c.toNat ≠ 10) (h92 : c.toNat ≠ 92) :
    Calls Tryd.prog 66 #[.pointer (some ⟨b, 0, none⟩), .int .i64 st] w fun e w' =>
      e = .returned (.int .i32 (c.toNat : Int)) ∧ Scn w' b s (k + 1 : Nat) ln M T ∧ w.grownBy w' (some b) := by
  have i1 : (k : Int) < s.size := by omega
  have i2 : (s.size : Int) ≤ 4000000000 := by omega
  have i3 : (k : Int) ≤ s.size := by omega
  have c0 := h.c0
  have c1 := h.c1
  have f1 := h.fz 1
  obtain ⟨hp, hg⟩ := get_drop s k hk
  have D1 := Lib.hid (fun W => decode_ascii (s.extract k s.size) c W hp (hg.trans h0) hc)
  have j1 : ((c.toNat : Int) == 10) = false := by simp; omega
  have j2 : ((c.toNat : Int) == 92) = false := by simp; omega
  have j3 : ¬ (c.toNat : Int) = 65533 := by omega
  have SL : ∀ W, (Instr.sliceAt 9 (.string s) (some (.int .i64 (k : Int))) none none).run Tryd.prog W = .ok (.string (s.extract k s.size)) W := fun W => by
    rw [run_sliceAt_string W 9 _ _ _ _ Tryd.underlying9, run_slice_string_from_if W 9 s .i64 k Tryd.underlying9, if_pos ⟨by omega, i3⟩]; rfl
  clear hp hg
  go_enter Tryd.func66, Tryd.ntmps66
  go_wp2_with fail
  go_quiet (fail)
  go_wp2_with fail
  go_quiet (fail)
  go_wp2_with fail
  go_region_with (go_at_call 77; refine (D1.out _).mono ?_; rintro e w' ⟨rfl, rfl⟩)
  all_goals
    go_wp2_with fail
    go_ret
    exact ⟨rfl, by simpa using (h.drewN _).set1 ((k : Int) + 1), (grown_drewN _ _ _).trans (grown_set b 1 _)⟩

set_option maxRecDepth 100000 in
set_option maxHeartbeats 400000 in
theorem symbolic_65 (b : Nat) (s : ByteArray) (k st : Nat) (ln : Bool) (M T : Value) (w : World) (hs : s.size ≤ 4000000000) (hk : k + 4 ≤ s.size) (h : Scn w b s k ln M T)
    (h0 : s[k] = 92) (h1 : byteV s.data.toList (k + 1) = 120) (h2 : byteV s.data.toList (k + 2) = 52) (h3 : byteV s.data.toList (k + 3) = 49) :
    Calls Tryd.prog 66 #[.pointer (some ⟨b, 0, none⟩), .int .i64 st] w fun e w' =>
      e = .returned (.int .i32 65) ∧ Scn w' b s (k + 4 : Nat) ln M T ∧ w.grownBy w' (some b) := by
  have i1 : (k : Int) < s.size := by omega
  have hk1 : k < s.size := by omega
  have i2 : (s.size : Int) ≤ 4000000000 := by omega
  have c0 := h.c0
  have c1 := h.c1
  have E1 := Lib.hid (fun n => escape_65 b s k st ln M T (w.drewN n) hs hk (h.drewN n) h1 h2 h3)
  go_enter Tryd.func66, Tryd.ntmps66
  go_wp2_with fail
  go_quiet (fail)
  go_wp2_with fail
  go_quiet (fail)
  go_wp2_with fail
  refine (E1.out _).mono ?_
  rintro e w' ⟨rfl, hh, hg⟩
  go_wp2_with fail
  go_ret
  exact ⟨rfl, hh, (grown_drewN _ _ _).trans hg⟩
end Go.Proofs.YtanofnhiopagaaaDoor
