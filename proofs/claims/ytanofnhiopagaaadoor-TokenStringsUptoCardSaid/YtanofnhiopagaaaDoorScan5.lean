/- Contracts: the closures of readers. -/
import Derived.Test.YtanofnhiopagaaaDoorScan4
import Derived.Test.YtanofnhiopagaaaDoorSpec2
import Derived.StillTailTactics
import Derived.Deep.RegionWith
namespace Go.Proofs.YtanofnhiopagaaaDoor
open Go.RowKit

def kwKind (l : List UInt8) : Int := if isKw l = true then 2 else 1
theorem grown_drew' {w w' : World} {row : Option Nat} (h : w.grownBy w' row) : w.grownBy w'.drew row := ⟨h.os, h.tape, h.output, h.size, h.block⟩
set_option maxRecDepth 100000 in
set_option maxHeartbeats 1000000 in
theorem word_any (b n : Nat) (s : ByteArray) (k : Nat) (ln : Bool) (m : Nat) (T : Value) (w : World) (hs : s.size ≤ 4000000000) (hk : k ≤ s.size) (hn : n ≠ b) (hm : m ≠ b) (h : Scn w b s k ln (.map (some m)) T)
    (hB : w.heap[n]? = some (.cells #[.pointer (some ⟨b, 0, none⟩)] 62 (0, 0)))
    (hM : w.ownsMap Tryd.prog 9 (plainElem (H := Unit) Tryd.prog 4) m 51 (kwSet 51)) :
    Calls Tryd.prog 47 #[.pointer (some ⟨n, 0, none⟩)] w fun e w' =>
      e = .returned (.tuple #[.int .i64 (kwKind ((s.data.toList.drop k).take (wordEnd s.data.toList k - k))), .string (s.extract k (wordEnd s.data.toList k))]) ∧ Scn w' b s (wordEnd s.data.toList k) ln (.map (some m)) T ∧ w.grownBy w' (some b) := by
  have cB : w.cell? ⟨n, 0, none⟩ = some (.pointer (some ⟨b, 0, none⟩)) := by simp [World.cell?, hB]
  have c0 := h.c0
  have c1 := h.c1
  have f1 := h.fz 1
  have W36 := fun W => wordEnd_any s k W (by unfold maxLen; omega) hk
  have hw1 := wordEnd_ge s.data.toList k
  have hw2 := wordEnd_le s.data.toList k (by simpa using hk)
  rw [len_list] at hw2
  generalize wordEnd s.data.toList k = we at *
  have W36' := Lib.hid W36
  have LK := kw_lookup hM (s.extract k we) (by unfold maxLen; rw [← len_list, extract_list]; simp; omega)
  have eL : (s.extract k we).data.toList = (s.data.toList.drop k).take (we - k) := extract_list _ _ _
  rw [eL] at LK
  clear W36 eL
  have i1 : (k : Int) ≤ (we : Int) := by omega
  have i2 : (we : Int) ≤ (s.size : Int) := by omega
  have hs1 := (h.set1 (we : Int)).drew
  have hg1 : w.grownBy (w.setCell ⟨b, 1, none⟩ (.int .i64 we)).drew (some b) := grown_drew' (grown_set b 1 _)
  have hm1 := (hM.kept hg1 (by simpa using hm))
  have hb1 : (w.setCell ⟨b, 1, none⟩ (.int .i64 we)).drew.heap[n]? = some (.cells #[.pointer (some ⟨b, 0, none⟩)] 62 (0, 0)) := (hg1.block n (Array.getElem?_eq_some_iff.1 hB).1 (by simpa using hn)).trans hB
  go_enter Tryd.func47, Tryd.ntmps47
  go_wp2
  go_region_with (go_at_call 36; refine (W36'.out _).mono ?_; rintro e w' ⟨rfl, rfl⟩)
  all_goals
    clear cB c0 c1 f1 h hB hM LK
    generalize (w.setCell ⟨b, 1, none⟩ (.int .i64 we)).drew = W1 at *
    have cB : W1.cell? ⟨n, 0, none⟩ = some (.pointer (some ⟨b, 0, none⟩)) := by simp [World.cell?, hb1]
    have c0 := hs1.c0
    have c1 := hs1.c1
    have c3 := hs1.c3
    have LK := fun q => kw_lookup (w := W1.drewN q) hm1 (s.extract k we) (by unfold maxLen; rw [← len_list, extract_list]; simp; omega)
    have eL : (s.extract k we).data.toList = (s.data.toList.drop k).take (we - k) := extract_list _ _ _
    rw [eL] at LK
    clear eL
    go_wp2
    go_quiet (fail)
    cases hk2 : isKw ((s.data.toList.drop k).take (we - k)) with
    | true =>
      rw [hk2] at LK
      have HK : Hid (kwKind ((s.data.toList.drop k).take (we - k)) = 2) := Lib.hid (by unfold kwKind; rw [if_pos hk2])
      clear hk2
      go_wp2
      go_ret2
      exact ⟨by rw [HK.out]; rfl, hs1.drewN _, hg1.trans (grown_drewN _ _ _)⟩
    | false =>
      rw [hk2] at LK
      have HK : Hid (kwKind ((s.data.toList.drop k).take (we - k)) = 1) := Lib.hid (by unfold kwKind; rw [hk2]; rfl)
      clear hk2
      go_wp2
      go_ret2
      exact ⟨by rw [HK.out]; rfl, hs1.drewN _, hg1.trans (grown_drewN _ _ _)⟩

set_option maxRecDepth 100000 in
set_option maxHeartbeats 1000000 in
theorem symbol_any (b n : Nat) (s : ByteArray) (k : Nat) (ln : Bool) (M T : Value) (w : World) (hs : s.size ≤ 4000000000) (hk : k ≤ s.size) (h : Scn w b s k ln M T) (hG : Glob w)
    (hB : w.heap[n]? = some (.cells #[.pointer (some ⟨b, 0, none⟩)] 62 (0, 0))) (hne : symOf s.data.toList k ≠ []) :
    Calls Tryd.prog 48 #[.pointer (some ⟨n, 0, none⟩)] w fun e w' =>
      e = .returned (.tuple #[.int .i64 6, .string (str (symOf s.data.toList k))]) ∧ Scn w' b s (k + (symOf s.data.toList k).length : Nat) ln M T ∧ w.grownBy w' (some b) := by
  have cB : w.cell? ⟨n, 0, none⟩ = some (.pointer (some ⟨b, 0, none⟩)) := by simp [World.cell?, hB]
  have hl : (symOf s.data.toList k).length ≤ 10 := bestAt_len _ _ _ (by omega)
  have LA := longest_any b s k ln M T w hs hk h hG.sym
  change Calls _ _ _ _ (fun e w' => e = .returned (.string (str (symOf s.data.toList k))) ∧ _) at LA
  generalize symOf s.data.toList k = sy at *
  have LA' := Lib.hid LA
  clear LA
  have z := str_size sy
  have hem : ((str sy).toList == ([] : List UInt8)) = false := by rw [toList_data, str_list]; simpa using hne
  go_enter Tryd.func48, Tryd.ntmps48
  go_wp2_with (first | (go_at_call 49; refine LA'.out.mono ?_; rintro e w1 ⟨rfl, q, rfl⟩; have hs1 := h.drewN q; have c1 := hs1.c1; have f1 := hs1.fz 1))
  go_ret2
  exact ⟨rfl, by simpa using hs1.set1 ((k : Int) + sy.length), (grown_drewN w q _).trans (grown_set b 1 _)⟩
end Go.Proofs.YtanofnhiopagaaaDoor
