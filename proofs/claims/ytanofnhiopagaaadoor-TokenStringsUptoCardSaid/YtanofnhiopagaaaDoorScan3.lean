/- Contracts: lineComment, blanks. -/
import Derived.Test.YtanofnhiopagaaaDoorOwn
import Derived.Test.YtanofnhiopagaaaDoorScan2
import Derived.Test.YtanofnhiopagaaaDoorLibT
import Derived.Deep.LoopGhost
namespace Go.Proofs.YtanofnhiopagaaaDoor
open Go.RowKit

/-- The tables lie in memory. -/
structure Glob (w : World) : Prop where
  kw : GKw w
  sym : GSym w
  u8 : Lib.Utf8Tabs 2 3 w
theorem Glob.kept {w w' : World} (h : Glob w) (hk : ∀ k, k < 4 → w'.heap[k]? = w.heap[k]?) : Glob w' := by
  obtain ⟨⟨t, f, h1⟩, ⟨t2, f2, h2⟩, h3, h4⟩ := h
  refine ⟨⟨t, f, (hk 0 (by omega)).trans h1⟩, ⟨t2, f2, (hk 1 (by omega)).trans h2⟩, fun c hc => ?_, fun i hi => ?_⟩
  · rw [World.cell?_of_block (w := w) (hk 2 (by omega))]; exact h3 c hc
  · obtain ⟨a1, a2⟩ := h4 i hi
    exact ⟨(World.cell?_of_block (a := ⟨3, 2 * i, none⟩) (hk 3 (by omega))).trans a1, (World.cell?_of_block (a := ⟨3, 2 * i + 1, none⟩) (hk 3 (by omega))).trans a2⟩
theorem Glob.size {w : World} (h : Glob w) : 4 ≤ w.heap.size := by
  obtain ⟨hc, _⟩ := h.u8.2 0 (by omega)
  have : 3 < w.heap.size := by
    rcases Nat.lt_or_ge 3 w.heap.size with h | h
    · exact h
    · simp [World.cell?, Array.getElem?_eq_none h] at hc
  omega
theorem Glob.grown {w w' : World} {row : Option Nat} (h : Glob w) (hg : w.grownBy w' row) (hr : ∀ k, row = some k → 4 ≤ k) : Glob w' :=
  h.kept fun k hk => hg.block k (by have := h.size; omega) (fun e => by have := hr k e.symm; omega)
theorem Glob.drewN {w : World} (h : Glob w) (n : Nat) : Glob (w.drewN n) := h.kept fun _ _ => rfl


theorem indexByte_lt (l : List UInt8) (c : UInt8) : -1 ≤ Lib.indexByte l c ∧ Lib.indexByte l c < l.length := by
  induction l with
  | nil => simp [Lib.indexByte]
  | cons x l ih =>
    unfold Lib.indexByte
    split
    · constructor <;> simp <;> omega
    · split
      · constructor <;> simp <;> omega
      · rename_i h
        have hne : Lib.indexByte l c ≠ -1 := by simpa using h
        simp; omega
theorem lineLen_le (l : List UInt8) : lineLen l ≤ l.length := by
  unfold lineLen
  have := indexByte_lt l 10
  split <;> omega

set_option maxHeartbeats 400000 in
theorem lineComment_any (b : Nat) (s r : ByteArray) (k : Nat) (ln : Bool) (M T : Value) (w : World) (hs : s.size ≤ 4000000000) (hr : k + r.size ≤ s.size) (h : Scn w b s k ln M T) (hG : Glob w)
    (hv : Lib.validD (r.data.toList.take (lineLen r.data.toList)) = true) :
    Calls Tryd.prog 55 #[.pointer (some ⟨b, 0, none⟩), .string r] w fun e w' => e = .returned (.tuple #[]) ∧ Scn w' b s (k + lineLen r.data.toList : Nat) ln M T ∧ w.grownBy w' (some b) := by
  have h1 := h.c1
  have hf := h.fz 1
  have hb := indexByte_lt r.data.toList 10
  have hu := hG.u8
  have hle := lineLen_le r.data.toList
  rw [len_list] at hle hb
  have X : ∀ W, Calls Tryd.prog 69 #[.string r, .int .u8 10] W fun e w' => e = .returned (.int .i64 (Lib.indexByte r.data.toList 10)) ∧ W = w' := fun W =>
    (Tryd.strings_IndexByte r 10 W).mono fun _ _ ⟨h1, h2⟩ => ⟨h1, h2.symm⟩
  by_cases hi : 0 ≤ Lib.indexByte r.data.toList 10
  · have hL : lineLen r.data.toList = (Lib.indexByte r.data.toList 10).toNat := by unfold lineLen; rw [if_pos hi]
    rw [hL] at hv hle ⊢
    obtain ⟨i, hi2⟩ := Int.eq_ofNat_of_zero_le hi
    rw [hi2] at hv hle X ⊢
    simp only [Int.toNat_natCast] at hv hle ⊢
    have e1 : (r.extract 0 i).data.toList = r.data.toList.take i := by rw [extract_list]; simp
    have e2 : (r.extract 0 i).size = i := by rw [← len_list, e1]; simp; omega
    have V : Calls Tryd.prog 22 #[.string (r.extract 0 i)] w fun e w' => e = .returned (.bool true) ∧ Below w.heap.size w w' := by
      have := Tryd.utf8_ValidString (r.extract 0 i) w (by omega) hu
      rwa [e1, hv] at this
    have X' := Lib.hid X
    have V' := Lib.hid V
    have E2 := Lib.hid e2
    clear X V e1 e2 hi2 hL hi hv hb
    clear h1 hf
    go_enter Tryd.func55, Tryd.ntmps55
    go_wp2_with (first | (go_at_call 69; refine (X'.out _).mono ?_; rintro e w' ⟨rfl, rfl⟩) | (go_at_call 22; refine V'.out.mono ?_; rintro e w1 ⟨rfl, hb1⟩; have g1 := grown_of_below hb1 (some b); have hs1 := h.grown (grown_of_below hb1 none) (by simp); have c1 := hs1.c1; have f1 := hs1.fz 1; have e2 := E2.out))
    go_end0
    refine ⟨rfl, ?_, g1.trans (grown_set _ _ _)⟩
    have := hs1.set1 ((k : Int) + i)
    simpa using this
  · have hL : lineLen r.data.toList = r.size := by unfold lineLen; rw [if_neg hi, len_list]
    rw [hL] at hv ⊢
    have hi2 : Lib.indexByte r.data.toList 10 = -1 := by omega
    rw [hi2] at X
    have V : Calls Tryd.prog 22 #[.string r] w fun e w' => e = .returned (.bool true) ∧ Below w.heap.size w w' := by
      have := Tryd.utf8_ValidString r w (by omega) hu
      rw [← len_list, List.take_of_length_le (Nat.le_refl _)] at hv
      rwa [hv] at this
    have X' := Lib.hid X
    have V' := Lib.hid V
    clear X V hi2 hL hi hv hb hle h1 hf
    go_enter Tryd.func55, Tryd.ntmps55
    go_wp2_with (first | (go_at_call 69; refine (X'.out _).mono ?_; rintro e w' ⟨rfl, rfl⟩) | (go_at_call 22; refine V'.out.mono ?_; rintro e w1 ⟨rfl, hb1⟩; have g1 := grown_of_below hb1 (some b); have hs1 := h.grown (grown_of_below hb1 none) (by simp); have c1 := hs1.c1; have f1 := hs1.fz 1))
    go_end0
    refine ⟨rfl, ?_, g1.trans (grown_set _ _ _)⟩
    have := hs1.set1 ((k : Int) + r.size)
    simpa using this
end Go.Proofs.YtanofnhiopagaaaDoor
