/- What the listed tables of package cap hold gives what the contracts ask of the world; and a world in which they are laid. -/
import Derived.Test.YtblklbmolfddpaaDoorBase
import Derived.Lib.LaidTab
import Derived.Lib.LaidIn
import Derived.Lib.LaidU8
import Derived.Deep.DeepHandedRow
namespace Go.Proofs.YtblklbmolfddpaaDoor
open Go.RowKit Go.Lib

theorem tab_of_reads {w : World} {name : String} {g t n : Nat} {e : TypeId} {k : IntKind} {zs : List Int} (hg : Tryd.prog.globalNamed name = some g) (hty : (Tryd.prog.globals[g]?).map (·.type) = some t)
    (ht : Tryd.prog.underlying t = some (.array n e)) (he : Tryd.prog.underlying e = some (.int k)) (hce : Tryd.prog.cellsOf e = 1) (hct : Tryd.prog.cellsOf t = n)
    (h : VarReads Tryd.prog w name (tabData k zs)) (i : Nat) (hi : i < zs.length) : w.cell? ⟨g, i, none⟩ = some (.int k (zs.getD i 0)) := by
  obtain ⟨g', t', cs, fuel, p, hg', hty', hvar, hd⟩ := h
  obtain rfl := Option.some.inj (hg.symm.trans hg')
  obtain rfl := Option.some.inj (hty.symm.trans hty')
  have hcs := cells_of_tab ht he hce hct hd
  rw [World.var?_cell hg hvar i, ← Array.getElem?_toList, hcs]
  simp [List.getD, List.getElem?_eq_getElem hi]

def viewsRows : List (List Int) :=
  [[0, 0, 0, 0, 0, 0, 0], [0, 1, 6, 6, 4, 6, 6], [0, 1, 2, 5, 4, 5, 6], [0, 1, 2, 3, 4, 5, 6], [0, 4, 4, 4, 4, 4, 6], [0, 6, 5, 5, 4, 5, 6], [0, 0, 0, 0, 0, 0, 0]]
def viewsData : DataW Unit := .agg (viewsRows.map fun r => tabData .i64 r)

theorem views_cells : ∀ i : Nat, i < 7 → ∀ j : Nat, j < 7 → viewsT.getD (i * 7 + j) 0 = (viewsRows.getD i []).getD j 0 := by decide +kernel
theorem views_lens : ∀ i : Nat, i < 7 → (viewsRows.getD i []).length = 7 := by decide +kernel
theorem views_some : ∀ i : Nat, i < 7 → viewsRows[i]? = some (viewsRows.getD i []) := by decide +kernel

theorem views_of_reads {w : World} (h : VarReads Tryd.prog w "hackamore/cap.views" viewsData) : GViews w := by
  obtain ⟨g, t, cs, fuel, p, hg, hty, hvar, hd⟩ := h
  obtain rfl := Option.some.inj ((show Tryd.prog.globalNamed "hackamore/cap.views" = some 3 by kernel_rfl).symm.trans hg)
  obtain rfl := Option.some.inj ((show (Tryd.prog.globals[3]?).map (·.type) = some 58 by kernel_rfl).symm.trans hty)
  refine ⟨fun k hk => ?_⟩
  obtain ⟨i, j, hi, hj, rfl⟩ : ∃ i j, i < 7 ∧ j < 7 ∧ k = i * 7 + j := ⟨k / 7, k % 7, by omega, by omega, by omega⟩
  obtain ⟨fuel', d, q, hdi, he⟩ := array_elem Tryd.underlying58 hd i hi
  rw [show Tryd.prog.cellsOf 57 = 7 by kernel_rfl] at he
  rw [List.getElem?_map, views_some i hi] at hdi
  simp only [Option.map_some, Option.some.injEq] at hdi
  subst hdi
  have hcs := cells_of_tab Tryd.underlying57 Tryd.underlying3 (by kernel_rfl) (by kernel_rfl) he
  have e0 := congrArg (·[j]?) hcs
  simp only [List.getElem?_take, List.getElem?_drop, hj, if_true] at e0
  rw [World.var?_cell hg hvar (i * 7 + j), ← Array.getElem?_toList, e0, views_cells i hi j hj]
  rw [List.getElem?_map, List.getElem?_eq_getElem (by rw [views_lens i hi]; exact hj)]
  simp [List.getD, List.getElem?_eq_getElem (show j < (viewsRows[i]?.getD []).length from by have := views_lens i hi; simp [List.getD] at this; omega)]

set_option maxRecDepth 1000000 in
theorem fits_data : (Rows.laid_hackamore_cap_fits : DataW Unit) = tabData .u64 fitsT := by kernel_rfl
set_option maxRecDepth 1000000 in
theorem views_data : (Rows.laid_hackamore_cap_views : DataW Unit) = viewsData := by kernel_rfl

theorem fits_of_reads {w : World} (h : VarReads Tryd.prog w "hackamore/cap.fits" (tabData .u64 fitsT)) : GFits w :=
  ⟨fun k hk => tab_of_reads (g := 2) (t := 56) (n := 10) (by kernel_rfl) (by kernel_rfl) Tryd.underlying56 Tryd.underlying53 (by kernel_rfl) (by kernel_rfl) h k hk⟩

def intCells (k : IntKind) (l : List Int) : Array Value := (l.map fun z => Value.int k z).toArray
def strCells (l : List (List UInt8)) : Array Value := (l.map fun z => Value.string ⟨z.toArray⟩).toArray
/-- The witness: the settled world, the seven tables holding what their initialisers lay. -/
noncomputable def laidWorld (os : Os) : World :=
  let w0 := World.holding Tryd.prog os ⟨#[], #[], []⟩
  let put (h : Array Obj) (g : Nat) (cs : Array Value) : Array Obj := h.modify g fun
    | .cells _ t frozen => .cells cs t frozen
    | o => o
  let h1 := put w0.heap 0 (strCells namesT)
  let h2 := put h1 1 (intCells .u64 membersT)
  let h3 := put h2 2 (intCells .u64 fitsT)
  let h4 := put h3 3 (intCells .i64 viewsT)
  let h5 := put h4 4 (intCells .u64 storesT)
  let h6 := put h5 5 (intCells .u64 localsT)
  let h7 := put h6 6 (intCells .u64 globalsT)
  { w0 with heap := h7 }
theorem u8_range {a : Int} (h : (Lit.int .u8 a).wf = true) : 0 ≤ a ∧ a ≤ 255 := by
  simp only [Lit.wf, Bool.and_eq_true, decide_eq_true_eq] at h
  have h1 : IntKind.u8.min = 0 := by decide
  have h2 : IntKind.u8.max = 255 := by decide
  omega
theorem own : ownKnob Tryd.prog.godebug = none := by kernel_rfl
end Go.Proofs.YtblklbmolfddpaaDoor
