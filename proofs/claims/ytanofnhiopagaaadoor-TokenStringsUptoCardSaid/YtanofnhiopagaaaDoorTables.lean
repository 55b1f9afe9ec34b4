/- The two tables of package token: the keywords and the symbols. -/
import Derived.Test.YtanofnhiopagaaaDoorMem
import Derived.Test.YtanofnhiopagaaaDoorLeaf
import Derived.Maps.Own
import Derived.Maps.Views
import Derived.Laws.Rows
import Derived.OwnWalk
namespace Go.Proofs.YtanofnhiopagaaaDoor
open Go.RowKit Go.WideMaps Go.Maps

def kwBytes : List (List UInt8) := [[97, 99, 116, 111, 114],
  [97, 110, 100],
  [97, 115],
  [98, 101],
  [98, 111, 120],
  [98, 114, 101, 97, 107],
  [99, 108, 97, 115, 115],
  [99, 111, 110, 115, 117, 109, 101],
  [99, 111, 110, 116, 105, 110, 117, 101],
  [100, 111],
  [101, 108, 115, 101],
  [101, 108, 115, 101, 105, 102],
  [101, 110, 100],
  [101, 114, 114, 111, 114],
  [102, 97, 108, 115, 101],
  [102, 111, 114],
  [102, 117, 110],
  [105, 102],
  [105, 102, 100, 101, 102],
  [105, 110],
  [105, 110, 116, 101, 114, 102, 97, 99, 101],
  [105, 115],
  [105, 115, 110, 116],
  [105, 115, 111],
  [108, 101, 116],
  [109, 97, 116, 99, 104],
  [110, 101, 119],
  [110, 111, 116],
  [111, 98, 106, 101, 99, 116],
  [111, 114],
  [112, 114, 105, 109, 105, 116, 105, 118, 101],
  [114, 101, 99, 111, 118, 101, 114],
  [114, 101, 102],
  [114, 101, 112, 101, 97, 116],
  [114, 101, 116, 117, 114, 110],
  [116, 97, 103],
  [116, 104, 101, 110],
  [116, 104, 105, 115],
  [116, 114, 97, 105, 116],
  [116, 114, 110],
  [116, 114, 117, 101],
  [116, 114, 121],
  [116, 121, 112, 101],
  [117, 110, 116, 105, 108],
  [117, 115, 101],
  [118, 97, 108],
  [118, 97, 114],
  [119, 104, 101, 114, 101],
  [119, 104, 105, 108, 101],
  [119, 105, 116, 104],
  [120, 111, 114]]
def symBytes : List (List UInt8) := [[60, 60],
  [62, 62],
  [61, 61],
  [33, 61],
  [60, 61],
  [62, 61],
  [61, 62],
  [45, 62],
  [46, 62],
  [43, 63],
  [45, 63],
  [42, 63],
  [47, 63],
  [37, 63],
  [35, 114, 101, 97, 100],
  [35, 115, 101, 110, 100],
  [35, 115, 104, 97, 114, 101],
  [35, 97, 108, 105, 97, 115],
  [35, 97, 110, 121],
  [40],
  [41],
  [91],
  [93],
  [123],
  [125],
  [44],
  [46],
  [58],
  [59],
  [63],
  [61],
  [60],
  [62],
  [43],
  [45],
  [42],
  [47],
  [37],
  [124],
  [38],
  [94],
  [33],
  [126]]
def str (l : List UInt8) : ByteArray := ⟨l.toArray⟩
theorem str_list (l : List UInt8) : (str l).data.toList = l := rfl
theorem str_size (l : List UInt8) : (str l).size = l.length := by simp [str, ByteArray.size]
def cellsOfL (l : List (List UInt8)) : Array Value := (l.map fun x => Value.string (str x)).toArray
theorem kw_len : kwBytes.length = 51 := by decide +kernel
theorem sym_len : symBytes.length = 43 := by decide +kernel

theorem run_isAgg9 (w : World) : (isAgg 9).run Tryd.prog w = .ok false w := by kernel_rfl
theorem run_size9 (w : World) : (sizeOf 9).run Tryd.prog w = .ok 1 w := by kernel_rfl
theorem part_of (w : World) (l : List (List UInt8)) (k : Nat) (hk : k < l.length) : (part 9 (cellsOfL l) k).run Tryd.prog w = .ok (.string (str (l[k]))) w := by
  have hc : (cellsOfL l)[k]? = some (.string (str (l[k]))) := by simp [cellsOfL, hk]
  unfold part
  simp only [Sem.run_bind, run_isAgg9, Result.andThen_ok, hc]
  rfl

theorem idx44 (k : Nat) (hk : k < 51) (w : World) : (Instr.index 44 (.agg (cellsOfL kwBytes)) (.int .i64 k)).run Tryd.prog w = .ok (.string (str (kwBytes[k]'(by rw [kw_len]; exact hk)))) w := by
  have hc : (cellsOfL kwBytes)[k]? = some (.string (str (kwBytes[k]'(by rw [kw_len]; exact hk)))) := by simp [cellsOfL, kw_len, hk]
  simp [Instr.index, run_underlying Tryd.underlying44, go_sem, run_size9, hc, hk]
theorem idx45 (k : Nat) (hk : k < 43) (w : World) : (Instr.index 45 (.agg (cellsOfL symBytes)) (.int .i64 k)).run Tryd.prog w = .ok (.string (str (symBytes[k]'(by rw [sym_len]; exact hk)))) w := by
  have hc : (cellsOfL symBytes)[k]? = some (.string (str (symBytes[k]'(by rw [sym_len]; exact hk)))) := by simp [cellsOfL, sym_len, hk]
  simp [Instr.index, run_underlying Tryd.underlying45, go_sem, run_size9, hc, hk]

/-- The two tables lie in memory as their initialisers lay them. -/
def GKw (w : World) : Prop := ∃ t fr, w.heap[0]? = some (.cells (cellsOfL kwBytes) t fr)
def GSym (w : World) : Prop := ∃ t fr, w.heap[1]? = some (.cells (cellsOfL symBytes) t fr)
theorem info44 : (Tryd.prog.info? 44).map (·.size) = some 51 := by kernel_rfl
theorem info45 : (Tryd.prog.info? 45).map (·.size) = some 43 := by kernel_rfl
theorem size_kw : (cellsOfL kwBytes).size = 51 := by simp [cellsOfL, kw_len]
theorem size_sym : (cellsOfL symBytes).size = 43 := by simp [cellsOfL, sym_len]

/-- The k-th keyword. -/
def kwAt (k : Nat) : List UInt8 := kwBytes.getD k []
def symAt (k : Nat) : List UInt8 := symBytes.getD k []
theorem idx44' (k : Nat) (hk : k < 51) (w : World) : (Instr.index 44 (.agg (cellsOfL kwBytes)) (.int .i64 k)).run Tryd.prog w = .ok (.string (str (kwAt k))) w := by
  rw [idx44 k hk w]; congr 3; simp [kwAt, List.getD, List.getElem?_eq_getElem (show k < kwBytes.length by rw [kw_len]; exact hk)]
theorem idx45' (k : Nat) (hk : k < 43) (w : World) : (Instr.index 45 (.agg (cellsOfL symBytes)) (.int .i64 k)).run Tryd.prog w = .ok (.string (str (symAt k))) w := by
  rw [idx45 k hk w]; congr 3; simp [symAt, List.getD, List.getElem?_eq_getElem (show k < symBytes.length by rw [sym_len]; exact hk)]

/-- The set of the keywords. -/
def kwLits (k : Nat) : List Lit := (kwBytes.take k).map Lit.string
def kwSet (k : Nat) : DataW Unit := setOf (.lit (.bool true)) (kwLits k)
theorem kwSet_step (k : Nat) (hk : k < 51) : kwSet (k + 1) = (kwSet k).put (.string (kwAt k)) (.lit (.bool true)) := by
  unfold kwSet kwLits
  rw [List.take_add_one, List.getElem?_eq_getElem (show k < kwBytes.length by rw [kw_len]; exact hk)]
  simp only [Option.toList, List.map_append, List.map_cons, List.map_nil]
  rw [setOf_snoc]
  simp [kwAt, List.getD, List.getElem?_eq_getElem (show k < kwBytes.length by rw [kw_len]; exact hk)]
theorem law9 : Keyed Tryd.prog 9 := string_keyed Tryd.underlying9
theorem kw_small (k : Nat) : (str (kwAt k)).size ≤ 100 := by
  rw [str_size]
  by_cases hk : k < 51
  · have : ∀ j : Fin 51, (kwAt j.1).length ≤ 100 := by decide +kernel
    exact this ⟨k, hk⟩
  · simp [kwAt, List.getD, List.getElem?_eq_none (show kwBytes.length ≤ k by rw [kw_len]; omega)]
theorem kw_key (k : Nat) : keyOf Tryd.prog 9 (.string (str (kwAt k))) = some (.string (kwAt k)) :=
  keyOf_string_mk (s := str (kwAt k)) Tryd.underlying9 (by have := kw_small k; unfold maxLen; omega)

set_option maxRecDepth 100000 in
set_option maxHeartbeats 400000 in
theorem keywordSet_any (w : World) (hg : GKw w) :
    Calls Tryd.prog 41 #[] w fun e w' => e = .returned (.map (some w.heap.size)) ∧ w'.ownsMap Tryd.prog 9 (plainElem Tryd.prog 4) w.heap.size 51 (kwSet 51) ∧ w.grownBy w' none := by
  obtain ⟨t, fr, hg⟩ := hg
  have hmm := @run_makeMap Tryd.prog
  have hlt : 0 < w.heap.size := (Array.getElem?_eq_some_iff.1 hg).1
  have hg1 : (w.alloc (.map #[] 0)).heap[0]? = some (.cells (cellsOfL kwBytes) t fr) := (Below.heap_alloc w _ 0 hlt).trans hg
  go_enter Tryd.func41, Tryd.ntmps41
  go_wp2_with (first | (refine wpList_load_row rfl 44 _ rfl 0 rfl t (cellsOfL kwBytes) fr (.array 51 9) hg1 Tryd.underlying44 rfl (by rw [info44, size_kw]) ?_))
  clear hg1 hg
  go_outline
  go_loopw [6] (fun i wr => ∃ k : Nat, k ≤ 51 ∧ i = .int .i64 k ∧ wr.ownsMap Tryd.prog 9 (plainElem Tryd.prog 4) w.heap.size k (kwSet k) ∧ w.grownBy wr none) (fun i _ => 51 - (intOf i).toNat)
  case atStart => exact ⟨0, Nat.zero_le _, rfl, World.ownsMap_made _ _ _ _, World.grownBy_alloc _ _ _⟩
  case round =>
    obtain ⟨k, hk, rfl, hown, hgr⟩ := hrel
    by_cases hlt : k < 51
    · have hi := fun W => idx44' k hlt W
      have hkey := kw_key k
      go_wp2_with (first
        | (at_mapUpdate; refine wpList_mapUpdate_own _ rfl _ _ _ 63 rfl 9 4 law9 Tryd.underlying63 _ w.heap.size k _ rfl hown (by unfold maxLen; omega) _ _ _ rfl rfl hkey _ [] (plainElem_bool Tryd.underlying4 true) ?_)
        | go_in)
      intro w1 hown1 hgrow1
      rw [← kwSet_step k hlt] at hown1
      have R2 := World.grownBy.andThen hgr hgrow1 (fun j hj => by cases hj; exact .inl (Nat.le_refl _))
      clear hown hgr hgrow1
      go_wp2
      go_roundw
      case rel => exact ⟨k + 1, by omega, by go_num, hown1, R2⟩
      case measure => simp [intOf]; omega
    · obtain rfl : k = 51 := by omega
      go_wp2
      go_ret
      exact ⟨rfl, hown, hgr⟩
end Go.Proofs.YtanofnhiopagaaaDoor
