/- What the listed names and members hold gives what the contracts ask of the world. -/
import Derived.Test.YtblklbmolfddpaaDoorLaid2
import Derived.Test.YtblklbmolfddpaaDoorMbr
namespace Go.Proofs.YtblklbmolfddpaaDoor
open Go.RowKit Go.Lib

theorem cells_of_strs {H : Type} {enc : TypeId × Value → H} {P : Program} {w : World} {base : Nat} {sp : Nat → Bool} {held : Bool} {fuel : Nat} {t e : TypeId} {n : Nat} {cs : List Value} {l : List (List UInt8)} {p : List MemPlace}
    (ht : P.underlying t = some (.array n e)) (he : P.underlying e = some .string) (hce : P.cellsOf e = 1) (hln : l.length = n)
    (h : DataW.trod enc P w base sp held fuel t cs = some (.agg (l.map fun x => .lit (.string x)), p)) (hcl : cs.length = n) : cs = l.map fun x => Value.string (str x) := by
  apply List.ext_getElem?
  intro i
  by_cases hi : i < n
  · obtain ⟨f', d, q, hd, hf⟩ := array_elem ht h i hi
    rw [hce, Nat.mul_one] at hf
    obtain ⟨s, hc, hx, _⟩ := DataW.trod_string he hf
    have h1 : cs[i]? = some (.string s) := by
      have := congrArg (·[0]?) hc
      simpa [List.getElem?_take, List.getElem?_drop] using this
    have hil : i < l.length := by omega
    simp only [List.getElem?_map, List.getElem?_eq_getElem hil, Option.map_some, Option.some.injEq] at hd
    subst hd
    simp only [Prod.mk.injEq, DataW.lit.injEq, Lit.string.injEq] at hx
    rw [h1]
    simp only [List.getElem?_map, List.getElem?_eq_getElem hil, Option.map_some]
    rw [hx.1]
    rfl
  · rw [List.getElem?_eq_none (by omega), List.getElem?_eq_none (by simp; omega)]

def namesData : DataW Unit := .agg (namesT.map fun x => .lit (.string x))
theorem names_of_reads {w : World} (h : VarReads Tryd.prog w "hackamore/cap.names" namesData) : GNam w := by
  obtain ⟨g', t', cs, fuel, p, hg', hty', hvar, hd⟩ := h
  obtain rfl := Option.some.inj ((show Tryd.prog.globalNamed "hackamore/cap.names" = some 0 by kernel_rfl).symm.trans hg')
  obtain rfl := Option.some.inj ((show (Tryd.prog.globals[0]?).map (·.type) = some 50 by kernel_rfl).symm.trans hty')
  have hce : Tryd.prog.cellsOf 9 = 1 := by kernel_rfl
  have hct : Tryd.prog.cellsOf 50 = 12 := by kernel_rfl
  have hcl : cs.toList.length = 12 := by
    cases fuel with
    | zero => simp [DataW.trod] at hd
    | succ fuel =>
      simp only [DataW.trod, Tryd.underlying50, hce, Nat.mul_one] at hd
      split at hd
      · rename_i hl; rw [hct] at hl; simpa using hl
      · cases hd
  have hcs := cells_of_strs Tryd.underlying50 Tryd.underlying9 hce rfl hd hcl
  unfold World.var? at hvar
  rw [hg'] at hvar
  simp only [Option.bind_some] at hvar
  split at hvar
  · rename_i cs' t' fr heq
    cases hvar
    have e : cs = nameCells := Array.toList_inj.1 (by rw [hcs]; unfold nameCells; rw [List.toList_toArray])
    exact ⟨t', fr, by rw [heq, e]⟩
  · cases hvar

set_option maxRecDepth 1000000 in
theorem names_data : (Rows.laid_hackamore_cap_names : DataW Unit) = namesData := by kernel_rfl
set_option maxRecDepth 1000000 in
theorem members_data : (Rows.laid_hackamore_cap_members : DataW Unit) = tabData .u64 membersT := by kernel_rfl
theorem members_of_reads {w : World} (h : VarReads Tryd.prog w "hackamore/cap.members" (tabData .u64 membersT)) : GMem w :=
  ⟨fun k hk => tab_of_reads (g := 1) (t := 54) (n := 12) (by kernel_rfl) (by kernel_rfl) Tryd.underlying54 Tryd.underlying53 (by kernel_rfl) (by kernel_rfl) h k hk⟩
end Go.Proofs.YtblklbmolfddpaaDoor
