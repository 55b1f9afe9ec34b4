/- Contracts: AppendRune over ASCII; str at the string of awake. -/
import Derived.Test.YtanofnhiopagaaaDoorSym
import Derived.Test.YtanofnhiopagaaaDoorOwn
namespace Go.Proofs.YtanofnhiopagaaaDoor
open Go.RowKit


set_option maxRecDepth 100000 in
set_option maxHeartbeats 400000 in
theorem appendRune_ascii (B : Nat) (v : Value) (n : Nat) (xs : List Value) (c : Nat) (w : World) (hc : c < 128) (hn : n ≤ 1000000000) (hB : B ≤ w.heap.size) (hw : w.ownsRow B 5 1 v n xs) :
    Calls Tryd.prog 65 #[v, .int .i32 c] w fun e w' => ∃ v', e = .returned v' ∧ w'.ownsRow B 5 1 v' (n + 1) (xs ++ [.int .u8 c]) ∧ w.grownBy w' v.ownBlock := by
  have i1 : (c : Int) < 128 := by omega
  have i2 : (0 : Int) ≤ c := by omega
  obtain ⟨i0, hi, hz0, hz1', hz2⟩ := info_parts (P := Tryd.prog) (e := 5) (z := .int .u8 0) (size := 1) (bytes := 1) (by kernel_rfl)
  go_enter Tryd.func65, Tryd.ntmps65
  go_wp2_with (refine wpList_append_own _ rfl _ _ 46 rfl B 5 i0 (.int .u8 0) 1 1 Tryd.underlying46 hi hz0 hz1' hz2 rfl (by decide) v n xs rfl (hw.alloc _) ⟨w.heap.size, 0, none⟩ 1 1 [.int .u8 c] rfl rfl ?_ ?_ ?_ ?_ ?_ ?_)
  · intro j u hj
    match j, hj with
    | 0, hj => simp at hj; subst hj; simp [Addr.add]
    | (j + 1), hj => simp at hj
  · intro u hu; simp at hu; subst hu; rfl
  · unfold maxLen; omega
  · omega
  · simp; omega
  · intro v' w' hw' hg' _
    go_wp2
    go_ret
    exact ⟨v', rfl, hw', (grown_alloc w _ _).trans hg'⟩

theorem grown_own {w W W' : World} {b : Nat} {row : Option Nat} (h : w.grownBy W (some b)) (hg : W.grownBy W' row) (hr : ∀ q, row = some q → w.heap.size ≤ q) : w.grownBy W' (some b) :=
  ⟨hg.os.trans h.os, hg.tape.trans h.tape, hg.output.trans h.output, Nat.le_trans h.size hg.size, fun k hk hb => (hg.block k (Nat.lt_of_lt_of_le hk h.size) (fun e => by have := hr k e.symm; omega)).trans (h.block k hk hb)⟩

set_option maxRecDepth 100000 in
set_option maxHeartbeats 400000 in
theorem str_A (b : Nat) (s : ByteArray) (k : Nat) (ln : Bool) (M T : Value) (w : World) (hs : s.size ≤ 4000000000) (hk : k + 7 ≤ s.size) (h : Scn w b s k ln M T)
    (hp : hasPre (s.data.toList.drop k) [34, 34, 34] = false)
    (h1 : s[k + 1] = 97) (h2 : s[k + 2] = 92) (b1 : byteV s.data.toList (k + 1) = 97) (b2 : byteV s.data.toList (k + 2) = 92) (b3 : byteV s.data.toList (k + 3) = 120) (b4 : byteV s.data.toList (k + 4) = 52) (b5 : byteV s.data.toList (k + 5) = 49) (b6 : byteV s.data.toList (k + 6) = 34) :
    Calls Tryd.prog 52 #[.pointer (some ⟨b, 0, none⟩)] w fun e w' =>
      e = .returned (.string ⟨#[97, 65]⟩) ∧ Scn w' b s (k + 7 : Nat) ln M T ∧ w.grownBy w' (some b) := by
  have hbl := h.lt
  have c0 := h.c0
  have c1 := h.c1
  have f1 := h.fz 1
  have i1 : (k : Int) + 7 ≤ s.size := by omega
  have i2 : (s.size : Int) ≤ 4000000000 := by omega
  have P1 := Lib.hid (fun W => prefix_at s k ⟨#[34, 34, 34]⟩ W hs (by decide))
  have hp' : hasPre (s.data.toList.drop k) (ByteArray.mk #[34, 34, 34]).data.toList = false := hp
  rw [hp'] at P1
  have B := Lib.hid (fun (j : Nat) W (h : Scn W b s j ln M T) => byteAt_any b s j ln M T j W (by unfold maxLen; omega) h)
  have S1 := Lib.hid (fun W (h : Scn W b s (k + 1 : Nat) ln M T) => symbolic_plain b s (k + 1) k ln M T W hs (by omega) h 97 h1 (by decide) (by decide) (by decide))
  have S2 := Lib.hid (fun W (h : Scn W b s (k + 2 : Nat) ln M T) => symbolic_65 b s (k + 2) k ln M T W hs (by omega) h h2 b3 b4 b5)
  have A := Lib.hid (fun (v : Value) (n : Nat) (xs : List Value) (c : Nat) W hc hn hB hw => appendRune_ascii w.heap.size v n xs c W hc hn hB hw)
  have hs1 := h.set1 ((k : Int) + 1)
  have gs1 := grown_set (w := w) b 1 (.int .i64 ((k : Int) + 1))
  clear hp hp'
  go_enter Tryd.func52, Tryd.ntmps52
  go_wp2_with fail
  refine (P1.out _).mono ?_
  rintro e w' ⟨rfl, rfl⟩
  go_wp2_with fail
  go_loopg [6] 2 (fun g tv wr => ((g = 2 ∧ Scn wr b s (k + 1 : Nat) ln M T ∧ wr.ownsRow w.heap.size 5 1 tv 0 (u8s [])) ∨ (g = 1 ∧ Scn wr b s (k + 2 : Nat) ln M T ∧ wr.ownsRow w.heap.size 5 1 tv 1 (u8s [97])) ∨ (g = 0 ∧ Scn wr b s (k + 6 : Nat) ln M T ∧ wr.ownsRow w.heap.size 5 1 tv 2 (u8s [97, 65]))) ∧ w.grownBy wr (some b))
  case atStart => exact ⟨.inl ⟨rfl, by simpa using hs1, World.ownsRow_nil _ _ _ _⟩, gs1⟩
  case round =>
    obtain ⟨hc, hg⟩ := hrel
    have hgs := hg.size
    rcases hc with ⟨rfl, hh, ho⟩ | ⟨rfl, hh, ho⟩ | ⟨rfl, hh, ho⟩
    · have c1' := hh.c1
      have B1 := B.out (k + 1) _ hh
      rw [b1] at B1
      have B1' := Lib.hid B1
      have S1' := Lib.hid (S1.out _ hh)
      have HO := Lib.hid ho
      clear B1 ho c0 c1 f1
      go_wp2_with fail
      refine B1'.out.mono ?_
      rintro e w' ⟨rfl, rfl⟩
      go_wp2_with fail
      refine S1'.out.mono ?_
      rintro e w2 ⟨rfl, h3, g3⟩
      have ho2 := HO.out.kept g3 (by
        cases hv : (Value.ownBlock _) with
        | none => exact .inl rfl
        | some q => exact .inr (fun e => by have := (HO.out.lt q hv).1; cases e; omega))
      have hs3 := g3.size
      have A1 := Lib.hid (A.out _ 0 _ 97 w2 (by omega) (by omega) (by omega) ho2)
      have HL := HO.out.lt
      go_wp2_with fail
      refine A1.out.mono ?_
      rintro e w3 ⟨v', rfl, ho3, g4⟩
      go_wp2_with fail
      go_roundg 1
      case rel => exact ⟨.inr (.inl ⟨rfl, h3.grown g4 (fun e => by have := (HL b e.symm).1; omega), ho3⟩), grown_own (hg.trans g3) g4 (fun q e => (HL q e).1)⟩
      case measure => omega
    · have c1' := hh.c1
      have B1 := B.out (k + 2) _ hh
      rw [b2] at B1
      have B1' := Lib.hid B1
      have S2' := Lib.hid (S2.out _ hh)
      have HO := Lib.hid ho
      clear B1 ho c0 c1 f1
      go_wp2_with fail
      refine B1'.out.mono ?_
      rintro e w' ⟨rfl, rfl⟩
      go_wp2_with fail
      refine S2'.out.mono ?_
      rintro e w2 ⟨rfl, h3, g3⟩
      have ho2 := HO.out.kept g3 (by
        cases hv : (Value.ownBlock _) with
        | none => exact .inl rfl
        | some q => exact .inr (fun e => by have := (HO.out.lt q hv).1; cases e; omega))
      have hs3 := g3.size
      have A1 := Lib.hid (A.out _ 1 _ 65 w2 (by omega) (by omega) (by omega) ho2)
      have HL := HO.out.lt
      go_wp2_with fail
      refine A1.out.mono ?_
      rintro e w3 ⟨v', rfl, ho3, g4⟩
      go_wp2_with fail
      go_roundg 0
      case rel => exact ⟨.inr (.inr ⟨rfl, h3.grown g4 (fun e => by have := (HL b e.symm).1; omega), ho3⟩), grown_own (hg.trans g3) g4 (fun q e => (HL q e).1)⟩
      case measure => omega
    · have c1' := hh.c1
      have f1' := hh.fz 1
      have B1 := B.out (k + 6) _ hh
      rw [b6] at B1
      have e1 : ((k + 6 : Nat) : Int) = (k : Int) + 6 := by omega
      rw [e1] at B1 c1'
      clear e1
      have B1' := Lib.hid B1
      have CV : ∀ W', (∀ q, w.heap.size ≤ q → q < wr.heap.size → W'.heap[q]? = wr.heap[q]?) → (convert 46 9 _).run Tryd.prog W' = .ok (.string ⟨#[97, 65]⟩) W' := fun W' hW => conv_own (l := [97, 65]) (owns_kept ho fun q h1 h2 => hW q h2 h1)
      have CV' := CV (wr.setCell ⟨b, 1, none⟩ (.int .i64 ((k : Int) + 6 + 1))) (fun q h1 h2 => Below.heap_setCell _ _ _ _ (by simp; omega))
      clear B1 ho c0 c1 f1 CV
      go_wp2_with fail
      refine B1'.out.mono ?_
      rintro e w' ⟨rfl, rfl⟩
      go_wp2_with fail
      go_ret
      exact ⟨rfl, by simpa [Int.add_assoc] using hh.set1 ((k : Int) + 6 + 1), hg.trans (grown_set b 1 _)⟩
end Go.Proofs.YtanofnhiopagaaaDoor
