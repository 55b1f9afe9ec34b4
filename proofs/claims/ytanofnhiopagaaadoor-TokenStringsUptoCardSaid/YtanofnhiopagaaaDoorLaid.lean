/- What the listed variables hold gives what the contracts ask of the world. -/
import Derived.Test.YtanofnhiopagaaaDoorScan3
import Derived.Test.YtanofnhiopagaaaDoorRows
import Derived.Lib.LaidU8T
namespace Go.Proofs.YtanofnhiopagaaaDoor
open Go.RowKit Go.Lib

theorem cells_of_strs {H : Type} {enc : TypeId × Value → H} {P : Program} {w : World} {base : Nat} {sp : Nat → Bool} {held : Bool} {fuel : Nat} {t e : TypeId} {n : Nat} {cs : List Value} {l : List (List UInt8)} {p : List MemPlace}
    (ht : P.underlying t = some (.array n e)) (he : P.underlying e = some .string) (hce : P.cellsOf e = 1) (hct : P.cellsOf t = n) (hln : l.length = n)
    (h : DataW.trod enc P w base sp held fuel t cs = some (.agg (l.map fun x => .lit (.string x)), p)) (hcl : cs.length = n) : cs = l.map fun x => Value.string (str x) := by
  apply List.ext_getElem?
  intro i
  by_cases hi : i < n
  · obtain ⟨f', d, q, hd, hf⟩ := array_elem ht h i hi
    rw [hce, Nat.mul_one] at hf
    obtain ⟨s, hc, hx, _⟩ := DataW.trod_string he hf
    have h1 : cs[i]? = some (.string s) := by
      have := congrArg (·[0]?) hc
      simpa [List.getElem?_take, List.getElem?_drop] using this
    have hil : i < l.length := by omega
    simp only [List.getElem?_map, List.getElem?_eq_getElem hil, Option.map_some, Option.some.injEq] at hd
    subst hd
    simp only [Prod.mk.injEq, DataW.lit.injEq, Lit.string.injEq] at hx
    rw [h1]
    simp only [List.getElem?_map, List.getElem?_eq_getElem hil, Option.map_some]
    rw [hx.1]
    rfl
  · rw [List.getElem?_eq_none (by omega), List.getElem?_eq_none (by simp; omega)]

theorem block_of_reads {w : World} {name : String} {g t : Nat} {n : Nat} {l : List (List UInt8)} (hg : Tryd.prog.globalNamed name = some g) (hty : (Tryd.prog.globals[g]?).map (·.type) = some t)
    (ht : Tryd.prog.underlying t = some (.array n 9)) (hce : Tryd.prog.cellsOf 9 = 1) (hct : Tryd.prog.cellsOf t = n) (hln : l.length = n)
    (h : VarReads Tryd.prog w name (.agg (l.map fun x => .lit (.string x)))) : ∃ t fr, w.heap[g]? = some (.cells (cellsOfL l) t fr) := by
  obtain ⟨g', t', cs, fuel, p, hg', hty', hvar, hd⟩ := h
  obtain rfl := Option.some.inj (hg.symm.trans hg')
  obtain rfl := Option.some.inj (hty.symm.trans hty')
  have hcl : cs.toList.length = n := by
    cases fuel with
    | zero => simp [DataW.trod] at hd
    | succ fuel =>
      simp only [DataW.trod, ht, hce, hct, Nat.mul_one] at hd
      split at hd
      · rename_i hl; simpa using hl
      · cases hd
  have hcs := cells_of_strs ht Tryd.underlying9 hce hct hln hd hcl
  unfold World.var? at hvar
  rw [hg] at hvar
  simp only [Option.bind_some] at hvar
  split at hvar
  · rename_i cs' t' fr heq
    cases hvar
    have e : cs = cellsOfL l := Array.toList_inj.1 (by rw [hcs]; unfold cellsOfL; rw [List.toList_toArray])
    exact ⟨t', fr, by rw [heq, e]⟩
  · cases hvar

set_option maxRecDepth 1000000 in
theorem kw_data : (Rows.laid_hackamore_token_keywords : DataW Unit) = .agg (kwBytes.map fun x => .lit (.string x)) := by kernel_rfl
set_option maxRecDepth 1000000 in
theorem sym_data : (Rows.laid_hackamore_token_symbols : DataW Unit) = .agg (symBytes.map fun x => .lit (.string x)) := by kernel_rfl
set_option maxRecDepth 1000000 in
theorem acc_data : (Rows.laid_unicode_utf8_acceptRanges : DataW Unit) = acceptData := by kernel_rfl
set_option maxRecDepth 1000000 in
theorem first_data : Rows.laid_unicode_utf8_first = firstData := by kernel_rfl

set_option maxRecDepth 1000000 in
theorem glob_of_laid {W : World} (h : laidMetH Tryd.prog Rows.tokenNamesRow.laid W) : Glob W := by
  have hL : laidMet Tryd.prog [("unicode/utf8.acceptRanges", Rows.laid_unicode_utf8_acceptRanges), ("hackamore/token.keywords", Rows.laid_hackamore_token_keywords), ("hackamore/token.symbols", Rows.laid_hackamore_token_symbols), ("unicode/utf8.first", Rows.laid_unicode_utf8_first)] W := h
  have r1 := laidMet.reads hL (.head _)
  have r2 := laidMet.reads hL (.tail _ (.head _))
  have r3 := laidMet.reads hL (.tail _ (.tail _ (.head _)))
  have r4 := laidMet.reads hL (.tail _ (.tail _ (.tail _ (.head _))))
  rw [acc_data] at r1
  rw [kw_data] at r2
  rw [sym_data] at r3
  rw [first_data] at r4
  exact ⟨block_of_reads (g := 0) (t := 44) (n := 51) (by kernel_rfl) (by kernel_rfl) Tryd.underlying44 (by kernel_rfl) (by kernel_rfl) kw_len r2,
    block_of_reads (g := 1) (t := 45) (n := 43) (by kernel_rfl) (by kernel_rfl) Tryd.underlying45 (by kernel_rfl) (by kernel_rfl) sym_len r3,
    utf8Tabs_of_readsT (U8Types.of196 Tryd.laysValid) ⟨by kernel_rfl, by kernel_rfl, by kernel_rfl, by kernel_rfl, by kernel_rfl, by kernel_rfl, by kernel_rfl⟩ r4 r1⟩
end Go.Proofs.YtanofnhiopagaaaDoor
