/- Contracts: the escapes that a literal of Quote holds; symbolic at any of its characters. -/
import Derived.Test.YtanofnhiopagaaaDoorSym
import Derived.Test.YtanofnhiopagaaaDoorUtf
import Derived.Test.YtanofnhiopagaaaDoorShelf2
namespace Go.Proofs.YtanofnhiopagaaaDoor
open Go.RowKit

theorem Tryd.decodeRune (s : ByteArray) (w : World) (hT : Lib.Utf8Tabs 2 3 w) :
    Calls Tryd.prog 77 #[.string s] w fun e w' => e = .returned (.tuple #[.int .i32 (Lib.decodeGo s).1, .int .i64 (Lib.decodeGo s).2]) ∧ Below w.heap.size w w' := Any.utf8_DecodeRuneInString Tryd.lays197 s w hT

theorem byteV_drop (l : List UInt8) (p i : Nat) : byteV l (p + i) = byteV (l.drop p) i := by
  unfold byteV
  by_cases h : p + i < l.length
  · rw [dif_pos h, dif_pos (by simp; omega)]; simp
  · rw [dif_neg h, dif_neg (by simp; omega)]
theorem byteV_cons (c : UInt8) (l : List UInt8) : byteV (c :: l) 0 = (c.toNat : Int) := by simp [byteV]
theorem byteV_succ (c : UInt8) (l : List UInt8) (i : Nat) : byteV (c :: l) (i + 1) = byteV l i := by simp [byteV]
theorem byte_drop (s : ByteArray) (p : Nat) (c : UInt8) (l : List UInt8) (h : s.data.toList.drop p = c :: l) : ∃ hp : p < s.size, s[p]'hp = c := by
  have h1 : p < s.data.toList.length := by
    have := congrArg List.length h
    simp at this ⊢
    omega
  refine ⟨by rw [← len_list]; exact h1, ?_⟩
  have h2 := List.getElem_drop' (xs := s.data.toList) (i := p) (j := 0) (h := by simpa using h1)
  have h3 : (s.data.toList.drop p)[0]'(by rw [h]; simp) = c := by simp [h]
  rw [← h3, List.getElem_drop]
  rfl

set_option maxRecDepth 100000 in
set_option maxHeartbeats 800000 in
theorem escape_letter (b : Nat) (s : ByteArray) (k st : Nat) (ln : Bool) (M T : Value) (w : World) (hs : s.size ≤ 4000000000) (hk : k + 2 ≤ s.size) (h : Scn w b s k ln M T) (x r : Int)
    (h0 : byteV s.data.toList (k + 1) = x) (hx : (x = 110 ∧ r = 10) ∨ (x = 116 ∧ r = 9) ∨ (x = 114 ∧ r = 13) ∨ (x = 48 ∧ r = 0) ∨ (x = 92 ∧ r = 92) ∨ (x = 34 ∧ r = 34)) :
    Calls Tryd.prog 76 #[.pointer (some ⟨b, 0, none⟩), .int .i64 st] w fun e w' =>
      e = .returned (.int .i32 r) ∧ Scn w' b s (k + 2 : Nat) ln M T ∧ w.grownBy w' (some b) := by
  have i1 : (k : Int) + 2 ≤ 4000000000 := by omega
  have c1 := h.c1
  have f1 := h.fz 1
  have B1 := byteAt_any b s k ln M T (k + 1) w (by unfold maxLen; omega) h
  rw [h0, show ((k + 1 : Nat) : Int) = (k : Int) + 1 from by omega] at B1
  have B1' := Lib.hid B1
  have hs1 : Scn (w.setCell ⟨b, 1, none⟩ (.int .i64 ((k : Int) + 2))) b s (k + 2 : Nat) ln M T := by simpa using h.set1 ((k : Int) + 2)
  have gs1 := grown_set (w := w) b 1 (.int .i64 ((k : Int) + 2))
  clear B1 h0
  go_enter Tryd.func76, Tryd.ntmps76
  go_wp2_with fail
  refine B1'.out.mono ?_
  rintro e w' ⟨rfl, rfl⟩
  rcases hx with ⟨rfl, rfl⟩ | ⟨rfl, rfl⟩ | ⟨rfl, rfl⟩ | ⟨rfl, rfl⟩ | ⟨rfl, rfl⟩ | ⟨rfl, rfl⟩
  all_goals
    go_wp2_with fail
    go_ret
    exact ⟨rfl, hs1, gs1⟩

theorem validRune_low (v : Nat) (hv : v < 128) (W : World) : Calls Tryd.prog 86 #[.int .i32 v] W fun e w' => e = .returned (.bool true) ∧ W = w' := by
  have i1 : (0 : Int) ≤ v := by omega
  have i2 : (v : Int) < 55296 := by omega
  go_enter Tryd.func86, Tryd.ntmps86
  go_wp2
  go_ret
  exact ⟨rfl, rfl⟩

theorem decodeGo_drop (s : ByteArray) (k : Nat) (hk : k < s.size) : Lib.decodeGo (s.extract k s.size) = Lib.decodeL (s.data.toList.drop k) := by
  unfold Lib.decodeGo Lib.decodeL
  rw [if_neg (by rw [rest_size]; omega), ← rest_list]

set_option maxRecDepth 100000 in
set_option maxHeartbeats 800000 in
theorem symbolic_rune (b : Nat) (s : ByteArray) (k st : Nat) (ln : Bool) (M T : Value) (w : World) (hs : s.size ≤ 4000000000) (hk : k < s.size) (h : Scn w b s k ln M T) (hG : Glob w)
    (c : UInt8) (h0 : s[k] = c) (h10 : c.toNat ≠ 10) (h92 : c.toNat ≠ 92) (r n : Nat) (hd : Lib.decodeL (s.data.toList.drop k) = (r, n)) (hn : n ≤ 4) (hv : ¬ (r = 65533 ∧ n = 1)) :
    Calls Tryd.prog 66 #[.pointer (some ⟨b, 0, none⟩), .int .i64 st] w fun e w' =>
      e = .returned (.int .i32 (r : Int)) ∧ Scn w' b s (k + n : Nat) ln M T ∧ w.grownBy w' (some b) := by
  have i1 : (k : Int) < s.size := by omega
  have i2 : (s.size : Int) ≤ 4000000000 := by omega
  have i3 : (k : Int) ≤ s.size := by omega
  have i4 : (n : Int) ≤ 4 := by omega
  have c0 := h.c0
  have c1 := h.c1
  have f1 := h.fz 1
  have D1 := Lib.hid (fun W (hT : Lib.Utf8Tabs 2 3 W) => Tryd.decodeRune (s.extract k s.size) W hT)
  rw [decodeGo_drop s k hk, hd] at D1
  have j1 : ((c.toNat : Int) == 10) = false := by simp; omega
  have j2 : ((c.toNat : Int) == 92) = false := by simp; omega
  have HV : Hid (¬ (r = 65533 ∧ n = 1)) := Lib.hid hv
  have HG := Lib.hid hG
  have SL : ∀ W, (Instr.sliceAt 9 (.string s) (some (.int .i64 (k : Int))) none none).run Tryd.prog W = .ok (.string (s.extract k s.size)) W := fun W => by
    rw [run_sliceAt_string W 9 _ _ _ _ Tryd.underlying9, run_slice_string_from_if W 9 s .i64 k Tryd.underlying9, if_pos ⟨by omega, i3⟩]; rfl
  have hbl := h.lt
  have HH := Lib.hid h
  clear hd hG
  by_cases hr : ((r : Int) == 65533) = true
  · have hr' : r = 65533 := by have := eq_of_beq hr; omega
    have hn1 : ((n : Int) == 1) = false := by simp; omega
    clear hv hr' HV
    go_enter Tryd.func66, Tryd.ntmps66
    go_wp2_with fail
    go_quiet (fail)
    go_wp2_with fail
    go_quiet (fail)
    go_wp2_with fail
    go_region_with (go_at_call 77; refine (D1.out _ (by exact HG.out.u8)).mono ?_; rintro e w' ⟨rfl, hb⟩; have h' : Scn w' b s k ln M T := (hb.block b (by exact hbl)).trans HH.out; have c1' := h'.c1; have f1' := h'.fz 1)
    all_goals
      go_wp2_with fail
      go_ret
      refine ⟨rfl, by simpa using h'.set1 ((k : Int) + n), ?_⟩
      exact ((grown_drewN w _ _).trans (grown_of_below hb _)).trans (grown_set b 1 _)
  · rw [Bool.not_eq_true] at hr
    clear hv HV
    go_enter Tryd.func66, Tryd.ntmps66
    go_wp2_with fail
    go_quiet (fail)
    go_wp2_with fail
    go_quiet (fail)
    go_wp2_with fail
    go_region_with (go_at_call 77; refine (D1.out _ (by exact HG.out.u8)).mono ?_; rintro e w' ⟨rfl, hb⟩; have h' : Scn w' b s k ln M T := (hb.block b (by exact hbl)).trans HH.out; have c1' := h'.c1; have f1' := h'.fz 1)
    all_goals
      go_wp2_with fail
      go_ret
      refine ⟨rfl, by simpa using h'.set1 ((k : Int) + n), ?_⟩
      exact ((grown_drewN w _ _).trans (grown_of_below hb _)).trans (grown_set b 1 _)
end Go.Proofs.YtanofnhiopagaaaDoor
