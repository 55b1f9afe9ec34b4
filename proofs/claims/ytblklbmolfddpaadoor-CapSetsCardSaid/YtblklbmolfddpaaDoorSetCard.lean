/- The members of a set are those of its definition, each once and ascending, and Parse of Name is the number (the statement CapSets): for every input, where the tables of the package are laid as the program's text lays them. -/
import Derived.Test.YtblklbmolfddpaaDoorCards
import Derived.Test.YtblklbmolfddpaaDoorTie
import Derived.Test.YtblklbmolfddpaaDoorSetD
import Derived.Test.YtblklbmolfddpaaDoorLaid3
import Derived.Lib.LaidIn
import Derived.Deep.DeepHandedRow
import Derived.Deep.DeepWitnessRowRef
import Derived.ProofKit
import Derived.OpenShut
import Derived.SizedLaws
namespace Go.Proofs.YtblklbmolfddpaaDoor.capSets
open Go.ChangeShapes Go.WideShapes Go.ChangeAt Go.RowKit Go.Lib
open Go.ChangeMaps (open_string shut_string)

set_option maxRecDepth 1000000 in
theorem laid_met (os : Os) (args : Array Value) : laidMet Tryd.prog Rows.capSetsRow.laid ((laidWorld os).forCall (fun _ _ => 0) ⟨#[], args, []⟩).memory :=
  (LaidIn.of_run (l := [("hackamore/cap.names", Rows.laid_hackamore_cap_names), ("hackamore/cap.members", Rows.laid_hackamore_cap_members), ("hackamore/cap.globals", Rows.laid_hackamore_cap_globals), ("hackamore/cap.views", Rows.laid_hackamore_cap_views), ("hackamore/cap.fits", Rows.laid_hackamore_cap_fits)]) [0, 1, 6, 3, 2] 8 (by kernel_rfl) (by kernel_rfl) (by kernel_rfl) (by kernel_rfl)).met

theorem witness_row (os : Os) {H : Type} (enc : TypeId × Value → H) :
    (OpenSpec.ofChange Rows.capSetsSpec).preRow enc Tryd.prog Tryd.f8 Rows.capSetsRow.domain false Rows.capSetsRow.laid ((laidWorld os).forCall (fun _ _ => 0) ⟨#[], #[.int .u8 0], []⟩).memory #[.int .u8 0] := by
  have hw : (DataW.whole enc Tryd.prog ((laidWorld os).forCall (fun _ _ => 0) ⟨#[], #[.int .u8 0], []⟩).memory Tryd.f8.params.toList (OpenSpec.ofChange Rows.capSetsSpec).vars false (#[.int .u8 0] : Array Value).toList 8).map (fun x => (x.1, x.2.1)) =
      some ([.lit (.int .u8 0)], []) := by kernel_rfl
  obtain ⟨⟨x1, x2, x3⟩, hx, hx1⟩ := Option.map_eq_some_iff.1 hw
  simp only [Prod.mk.injEq] at hx1
  obtain ⟨rfl, rfl⟩ := hx1
  exact OpenSpec.preRow_of_cond 8 hx (by kernel_rfl) (fun k hk => by cases hk) (by kernel_rfl) (laid_met os _)

set_option maxRecDepth 100000 in
set_option maxHeartbeats 2000000 in
theorem lifted (os : Os) (started : os.Started) (H : Type) (enc : TypeId × Value → H) (F : Stop.Interp) :
    ReturnsInHanded {} Tryd.checked os 8 .any ((OpenSpec.ofChange Rows.capSetsSpec).preRow enc Tryd.prog Tryd.f8 Rows.capSetsRow.domain false Rows.capSetsRow.laid) (((OpenSpec.ofChange Rows.capSetsSpec).at F).post enc Tryd.prog Tryd.f8 false true false false) := by
  refine returnsInHanded_of_row (C := Tryd.checked) (s := OpenSpec.ofChange Rows.capSetsSpec) own started (by kernel_rfl) Tryd.func8
    (witness_row_atRef (enc := enc) (C := Tryd.checked) false (laidWorld os) #[.int .u8 0] rfl (by kernel_rfl) (by kernel_rfl) (by kernel_rfl) (witness_row os enc)) ?_
  intro W base args ds gs before hval0 hW _ _ _ hL _ _
  have hval : ∀ (j : Nat) t v, Tryd.f8.params[j]? = some t → args[j]? = some v → Value.okWide Tryd.prog W .any base t v := hval0
  have hW' := hW
  obtain ⟨p, q, hA0, hV0, rfl, _, _⟩ := hW
  have hA : DataW.TrodAll enc Tryd.prog W 0 (fun _ => true) true Tryd.f8.params.toList args.toList ds p := hA0
  rw [Tryd.params8] at hA hval
  obtain ⟨v0, vs0, d0, ds0, p0, q0, hargs, rfl, rfl, h0, r0⟩ := trodAll_cons hA
  obtain ⟨rfl, rfl, rfl⟩ := trodAll_nil r0
  obtain rfl : args = #[v0] := by cases args; simp_all
  obtain ⟨rfl, rfl⟩ := trodVars_none hV0
  obtain ⟨a0, rfl, rfl, rfl, w0⟩ := open_int Tryd.underlying5 (hval 0 5 v0 rfl rfl) h0
  clear hA0 hV0 hval0 hval hargs
  simp only [List.append_nil] at hW'
  have hR : laidMet Tryd.prog [("hackamore/cap.names", Rows.laid_hackamore_cap_names), ("hackamore/cap.members", Rows.laid_hackamore_cap_members), ("hackamore/cap.globals", Rows.laid_hackamore_cap_globals), ("hackamore/cap.views", Rows.laid_hackamore_cap_views), ("hackamore/cap.fits", Rows.laid_hackamore_cap_fits)] W := hL
  have r1 := laidMet.reads hR (.head _)
  have r2 := laidMet.reads hR (.tail _ (.head _))
  have r3 := laidMet.reads hR (.tail _ (.tail _ (.head _)))
  have r4 := laidMet.reads hR (.tail _ (.tail _ (.tail _ (.head _))))
  have r5 := laidMet.reads hR (.tail _ (.tail _ (.tail _ (.tail _ (.head _)))))
  rw [names_data] at r1
  rw [members_data] at r2
  rw [globals_data] at r3
  rw [views_data] at r4
  rw [fits_data] at r5
  have hC := sets_any a0 W (views_of_reads r4) (fits_of_reads r5) (names_of_reads r1) (members_of_reads r2) (globals_of_reads r3) (u8_range w0)
  refine hC.mono ?_
  rintro e W' ⟨rfl, bel⟩
  have e1 : ((OpenSpec.ofChange Rows.capSetsSpec).at F).fn H ([.lit (.int .u8 a0)] ++ []) = { results := [.lit (.bool true)], args := [.lit (.int .u8 a0)] } := rfl
  refine ⟨_, rfl, _, _, _, [], [], [], hW', ?_, ?_, ?_, bel.frame _, fun h => by cases h⟩
  · rw [e1]; exact trodAll_mk1 (shut_bool Tryd.underlying4 _)
  · rw [e1]; exact (trodAll_cons_mk (shut_int Tryd.underlying5 w0) trodAll_mk0)
  · rw [e1]; rfl

theorem said : Rows.CapSetsSaid :=
  OpenClaim.holds_of_cond 8 Tryd.f8 rfl rfl rfl rfl rfl rfl rfl ⟨rfl, rfl, rfl, rfl, rfl⟩ rfl rfl rfl rfl rfl (by kernel_rfl) Tryd.func8 (by kernel_rfl)
    (of_decide_eq_true (by kernel_rfl)) (by unfold Func.isWrapper; first | (rw [if_pos (by decide +kernel)]; kernel_rfl) | (rw [if_neg (by decide +kernel)]; exact ⟨rfl, rfl⟩))
    (fun os started H enc _ F => by rw [OpenClaim.pre_eq_preRow]; exact lifted os started H enc F)

theorem plain (f : FuncId) (fn : Func) (hf : Tryd.pinned.checked.prog.funcNamed Rows.capSetsRow.func = some f) (hfn : Tryd.pinned.checked.prog.funcs[f]? = some fn) :
    false = Tryd.pinned.checked.prog.looks [] ∧ ∀ (j : Nat) t, fn.params[j]? = some t → Tryd.pinned.checked.prog.wantsStandIn t = false := by
  obtain rfl : f = 8 := Option.some.inj ((show Tryd.prog.funcNamed Rows.capSetsRow.func = some 8 by kernel_rfl).symm.trans hf) |>.symm
  obtain rfl : fn = Tryd.f8 := (Option.some.inj (Tryd.func8.symm.trans hfn)).symm
  refine ⟨by kernel_rfl, fun j t ht => ?_⟩
  rw [Tryd.params8] at ht
  have hm := Array.mem_of_getElem? ht
  simp at hm
  subst hm
  exact (show Tryd.prog.wantsStandIn 5 = false by kernel_rfl)
end Go.Proofs.YtblklbmolfddpaaDoor.capSets
namespace Go.Proofs.YtblklbmolfddpaaDoor
open capSets in
/-- The card of CapSets. -/
theorem capSets_holds : Rows.CapSetsCardSaid :=
  Claim7.holds_tied_plain_at .later [] _ _ _ _ said (fun _ h => by cases h) (by kernel_rfl) (fun _ h => by cases h) capSets_row_tie rfl ⟨rfl, rfl⟩ (by kernel_rfl) rfl plain (by kernel_rfl)
end Go.Proofs.YtblklbmolfddpaaDoor
