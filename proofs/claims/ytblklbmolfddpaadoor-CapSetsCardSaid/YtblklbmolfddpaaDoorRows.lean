/-
  NARROWER THAN 'FOR EVERY INPUT', by the rows' own cells (each row's printed sentence says how): CapTables: laid · CapViews: laid · CapOrder: laid · CapPermits: laid · CapBeside: laid · CapSets: laid.
  DERIVED. THE GIVEN ROWS OF THIS SEAT. 6 by the template 'for every input the law returns true; each argument reads behind the call as it read before'; 0 by the template 'total and deterministic' (their statements: YtblklbmolfddpaaDoorTotals.lean).
  GIVEN WITH THE SEED: the statements are not yours to turn. If you find one false, say at which input.
  Laid BY PROGRAM, IN A SANDBOX (cutbox-rows.mjs): the forced cells as the released guide's own fill.sh prints them over the translation 680c74ac10bcfb3c… (all of the seat's roots in one cut). By AI agents, Wed Nov 11 2026. No macro, syntax, notation, axiom, sorry.
-/
import Derived.Test.YtblklbmolfddpaaDoorChecked
import GoSem.Claim
import GoSem.ClaimJoined
import GoSem.ClaimMapViews
import Derived.JoinedTies
import Derived.KernelRfl
namespace Go.Proofs.YtblklbmolfddpaaDoor
/- THE CELL 'sum', in the pinned program and in every row, IS THE sha256 OF THE DUMP (.gsa) THAT YtblklbmolfddpaaDoorProg.lean LOADS. Nothing in Lean hashes anything: it is a label: what it is worth is what the hold of that sum in a sandbox is worth. -/
noncomputable def Tryd.pinned : Pinned := { name := "ytblklbmolfddpaadoor", sum := "680c74ac10bcfb3c1d9205193555f32786e00345ca14072d93d00c117d3d03ca", checked := Tryd.checked }
namespace Rows
def none {H : Type} : Left H := { results := [], args := [] }

/- WHAT THE LISTED PACKAGE-LEVEL VARIABLES READ AS WHEN THE CALL BEGINS. Each datum BY PROGRAM (the guide's laid-datum.mjs) off the statement by which the dump's own 'gosem.cut.vars' lays the variable. In a bare row this is a premise. The card (YtblklbmolfddpaaDoorCards.lean) ties it to the program's text. -/
def laid_hackamore_cap_names {H : Type} : DataW H := .agg [.lit (.string []), .lit (.string [105, 115, 111]), .lit (.string [116, 114, 110]), .lit (.string [114, 101, 102]), .lit (.string [118, 97, 108]), .lit (.string [98, 111, 120]), .lit (.string [116, 97, 103]), .lit (.string [35, 114, 101, 97, 100]), .lit (.string [35, 115, 101, 110, 100]), .lit (.string [35, 115, 104, 97, 114, 101]), .lit (.string [35, 97, 108, 105, 97, 115]), .lit (.string [35, 97, 110, 121])]
def laid_hackamore_cap_members {H : Type} : DataW H := .agg [.lit (.int .u64 0), .lit (.int .u64 2), .lit (.int .u64 4), .lit (.int .u64 8), .lit (.int .u64 16), .lit (.int .u64 32), .lit (.int .u64 64), .lit (.int .u64 56), .lit (.int .u64 82), .lit (.int .u64 80), .lit (.int .u64 120), .lit (.int .u64 126)]
def laid_hackamore_cap_views {H : Type} : DataW H := .agg [.agg [.lit (.int .i64 0), .lit (.int .i64 0), .lit (.int .i64 0), .lit (.int .i64 0), .lit (.int .i64 0), .lit (.int .i64 0), .lit (.int .i64 0)], .agg [.lit (.int .i64 0), .lit (.int .i64 1), .lit (.int .i64 6), .lit (.int .i64 6), .lit (.int .i64 4), .lit (.int .i64 6), .lit (.int .i64 6)], .agg [.lit (.int .i64 0), .lit (.int .i64 1), .lit (.int .i64 2), .lit (.int .i64 5), .lit (.int .i64 4), .lit (.int .i64 5), .lit (.int .i64 6)], .agg [.lit (.int .i64 0), .lit (.int .i64 1), .lit (.int .i64 2), .lit (.int .i64 3), .lit (.int .i64 4), .lit (.int .i64 5), .lit (.int .i64 6)], .agg [.lit (.int .i64 0), .lit (.int .i64 4), .lit (.int .i64 4), .lit (.int .i64 4), .lit (.int .i64 4), .lit (.int .i64 4), .lit (.int .i64 6)], .agg [.lit (.int .i64 0), .lit (.int .i64 6), .lit (.int .i64 5), .lit (.int .i64 5), .lit (.int .i64 4), .lit (.int .i64 5), .lit (.int .i64 6)], .agg [.lit (.int .i64 0), .lit (.int .i64 0), .lit (.int .i64 0), .lit (.int .i64 0), .lit (.int .i64 0), .lit (.int .i64 0), .lit (.int .i64 0)]]
def laid_hackamore_cap_fits {H : Type} : DataW H := .agg [.lit (.int .u64 1023), .lit (.int .u64 518), .lit (.int .u64 516), .lit (.int .u64 1016), .lit (.int .u64 816), .lit (.int .u64 800), .lit (.int .u64 832), .lit (.int .u64 896), .lit (.int .u64 768), .lit (.int .u64 512)]
def laid_hackamore_cap_locals {H : Type} : DataW H := .agg [.lit (.int .u64 0), .lit (.int .u64 64), .lit (.int .u64 96), .lit (.int .u64 104), .lit (.int .u64 112), .lit (.int .u64 124), .lit (.int .u64 126)]
def laid_hackamore_cap_globals {H : Type} : DataW H := .agg [.lit (.int .u64 0), .lit (.int .u64 64), .lit (.int .u64 64), .lit (.int .u64 64), .lit (.int .u64 112), .lit (.int .u64 112), .lit (.int .u64 126)]
def laid_hackamore_cap_stores {H : Type} : DataW H := .agg [.lit (.int .u64 0), .lit (.int .u64 82), .lit (.int .u64 86), .lit (.int .u64 126), .lit (.int .u64 0), .lit (.int .u64 0), .lit (.int .u64 0)]

/-- 'hackamorelaw07.CapTables': WHATEVER THE INPUT: true; the input reads as it did. -/
def capTablesSpec : ChangeSpec := { name := "capTables", fn := fun _ => fun
  | [d1, d2, d3, d4, d5] => { results := [.lit (.bool true)], args := [d1, d2, d3, d4, d5] }
  | _ => none }
def capTablesRow : OpenClaim := { program := "ytblklbmolfddpaadoor", sum := "680c74ac10bcfb3c1d9205193555f32786e00345ca14072d93d00c117d3d03ca", func := "hackamore/hackamorelaw07.CapTables", spec := "capTables", named := ["hackamore/cap.names", "hackamore/cap.members", "hackamore/cap.fits", "hackamore/cap.views"], apart := false, laid := [("hackamore/cap.names", laid_hackamore_cap_names), ("hackamore/cap.members", laid_hackamore_cap_members), ("hackamore/cap.views", laid_hackamore_cap_views), ("hackamore/cap.fits", laid_hackamore_cap_fits)] }
def CapTablesSaid : Prop := capTablesRow.holds Tryd.pinned (OpenSpec.ofChange capTablesSpec)

/-- ITS FALSE NEIGHBOUR: 'it returns false'. Refute it at one input. -/
def capTablesWrong : ChangeSpec := { name := "capTables", fn := fun _ => fun
  | [d1, d2, d3, d4, d5] => { results := [.lit (.bool false)], args := [d1, d2, d3, d4, d5] }
  | _ => none }
def CapTablesWrongFalsely : Prop := capTablesRow.holds Tryd.pinned (OpenSpec.ofChange capTablesWrong)

/-- 'hackamorelaw07.CapViews': WHATEVER THE INPUT: true; the input reads as it did. -/
def capViewsSpec : ChangeSpec := { name := "capViews", fn := fun _ => fun
  | [d1, d2, d3] => { results := [.lit (.bool true)], args := [d1, d2, d3] }
  | _ => none }
def capViewsRow : OpenClaim := { program := "ytblklbmolfddpaadoor", sum := "680c74ac10bcfb3c1d9205193555f32786e00345ca14072d93d00c117d3d03ca", func := "hackamore/hackamorelaw07.CapViews", spec := "capViews", named := ["hackamore/cap.views", "hackamore/cap.stores", "hackamore/cap.locals", "hackamore/cap.globals", "hackamore/cap.fits"], apart := false, laid := [("hackamore/cap.locals", laid_hackamore_cap_locals), ("hackamore/cap.globals", laid_hackamore_cap_globals), ("hackamore/cap.stores", laid_hackamore_cap_stores), ("hackamore/cap.views", laid_hackamore_cap_views), ("hackamore/cap.fits", laid_hackamore_cap_fits)] }
def CapViewsSaid : Prop := capViewsRow.holds Tryd.pinned (OpenSpec.ofChange capViewsSpec)

/-- ITS FALSE NEIGHBOUR: 'it returns false'. Refute it at one input. -/
def capViewsWrong : ChangeSpec := { name := "capViews", fn := fun _ => fun
  | [d1, d2, d3] => { results := [.lit (.bool false)], args := [d1, d2, d3] }
  | _ => none }
def CapViewsWrongFalsely : Prop := capViewsRow.holds Tryd.pinned (OpenSpec.ofChange capViewsWrong)

/-- 'hackamorelaw07.CapOrder': WHATEVER THE INPUT: true; the input reads as it did. -/
def capOrderSpec : ChangeSpec := { name := "capOrder", fn := fun _ => fun
  | [d1, d2, d3, d4, d5, d6] => { results := [.lit (.bool true)], args := [d1, d2, d3, d4, d5, d6] }
  | _ => none }
def capOrderRow : OpenClaim := { program := "ytblklbmolfddpaadoor", sum := "680c74ac10bcfb3c1d9205193555f32786e00345ca14072d93d00c117d3d03ca", func := "hackamore/hackamorelaw07.CapOrder", spec := "capOrder", named := ["hackamore/cap.fits", "hackamore/cap.views"], apart := false, laid := [("hackamore/cap.views", laid_hackamore_cap_views), ("hackamore/cap.fits", laid_hackamore_cap_fits)] }
def CapOrderSaid : Prop := capOrderRow.holds Tryd.pinned (OpenSpec.ofChange capOrderSpec)

/-- ITS FALSE NEIGHBOUR: 'it returns false'. Refute it at one input. -/
def capOrderWrong : ChangeSpec := { name := "capOrder", fn := fun _ => fun
  | [d1, d2, d3, d4, d5, d6] => { results := [.lit (.bool false)], args := [d1, d2, d3, d4, d5, d6] }
  | _ => none }
def CapOrderWrongFalsely : Prop := capOrderRow.holds Tryd.pinned (OpenSpec.ofChange capOrderWrong)

/-- 'hackamorelaw07.CapPermits': WHATEVER THE INPUT: true; the input reads as it did. -/
def capPermitsSpec : ChangeSpec := { name := "capPermits", fn := fun _ => fun
  | [d1, d2] => { results := [.lit (.bool true)], args := [d1, d2] }
  | _ => none }
def capPermitsRow : OpenClaim := { program := "ytblklbmolfddpaadoor", sum := "680c74ac10bcfb3c1d9205193555f32786e00345ca14072d93d00c117d3d03ca", func := "hackamore/hackamorelaw07.CapPermits", spec := "capPermits", named := ["hackamore/cap.views", "hackamore/cap.fits"], apart := false, laid := [("hackamore/cap.views", laid_hackamore_cap_views), ("hackamore/cap.fits", laid_hackamore_cap_fits)] }
def CapPermitsSaid : Prop := capPermitsRow.holds Tryd.pinned (OpenSpec.ofChange capPermitsSpec)

/-- ITS FALSE NEIGHBOUR: 'it returns false'. Refute it at one input. -/
def capPermitsWrong : ChangeSpec := { name := "capPermits", fn := fun _ => fun
  | [d1, d2] => { results := [.lit (.bool false)], args := [d1, d2] }
  | _ => none }
def CapPermitsWrongFalsely : Prop := capPermitsRow.holds Tryd.pinned (OpenSpec.ofChange capPermitsWrong)

/-- 'hackamorelaw07.CapBeside': WHATEVER THE INPUT: true; the input reads as it did. -/
def capBesideSpec : ChangeSpec := { name := "capBeside", fn := fun _ => fun
  | [d1, d2, d3] => { results := [.lit (.bool true)], args := [d1, d2, d3] }
  | _ => none }
def capBesideRow : OpenClaim := { program := "ytblklbmolfddpaadoor", sum := "680c74ac10bcfb3c1d9205193555f32786e00345ca14072d93d00c117d3d03ca", func := "hackamore/hackamorelaw07.CapBeside", spec := "capBeside", named := ["hackamore/cap.locals", "hackamore/cap.globals", "hackamore/cap.fits", "hackamore/cap.views"], apart := false, laid := [("hackamore/cap.locals", laid_hackamore_cap_locals), ("hackamore/cap.globals", laid_hackamore_cap_globals), ("hackamore/cap.views", laid_hackamore_cap_views), ("hackamore/cap.fits", laid_hackamore_cap_fits)] }
def CapBesideSaid : Prop := capBesideRow.holds Tryd.pinned (OpenSpec.ofChange capBesideSpec)

/-- ITS FALSE NEIGHBOUR: 'it returns false'. Refute it at one input. -/
def capBesideWrong : ChangeSpec := { name := "capBeside", fn := fun _ => fun
  | [d1, d2, d3] => { results := [.lit (.bool false)], args := [d1, d2, d3] }
  | _ => none }
def CapBesideWrongFalsely : Prop := capBesideRow.holds Tryd.pinned (OpenSpec.ofChange capBesideWrong)

/-- 'hackamorelaw07.CapSets': WHATEVER THE INPUT: true; the input reads as it did. -/
def capSetsSpec : ChangeSpec := { name := "capSets", fn := fun _ => fun
  | [d] => { results := [.lit (.bool true)], args := [d] }
  | _ => none }
def capSetsRow : OpenClaim := { program := "ytblklbmolfddpaadoor", sum := "680c74ac10bcfb3c1d9205193555f32786e00345ca14072d93d00c117d3d03ca", func := "hackamore/hackamorelaw07.CapSets", spec := "capSets", named := ["hackamore/cap.names", "hackamore/cap.members", "hackamore/cap.globals", "hackamore/cap.views", "hackamore/cap.fits"], apart := false, laid := [("hackamore/cap.names", laid_hackamore_cap_names), ("hackamore/cap.members", laid_hackamore_cap_members), ("hackamore/cap.globals", laid_hackamore_cap_globals), ("hackamore/cap.views", laid_hackamore_cap_views), ("hackamore/cap.fits", laid_hackamore_cap_fits)] }
def CapSetsSaid : Prop := capSetsRow.holds Tryd.pinned (OpenSpec.ofChange capSetsSpec)

/-- ITS FALSE NEIGHBOUR: 'it returns false'. Refute it at one input. -/
def capSetsWrong : ChangeSpec := { name := "capSets", fn := fun _ => fun
  | [d] => { results := [.lit (.bool false)], args := [d] }
  | _ => none }
def CapSetsWrongFalsely : Prop := capSetsRow.holds Tryd.pinned (OpenSpec.ofChange capSetsWrong)

/- THE SECOND FORM. 'bulk': how many values and letters a reading holds, each counted each time it is reached (what is shared counts as often as it is met; a slice's spare places count too). A statement '..UptoSaid' is the law's where the arguments, and the package variables that the reading takes, are together of bulk at most 1048576: NARROWER than '..Said'. Prove '..Said' where nothing that the law and all that it calls make is longer than what came in: it says more and counts as full. Else prove '..UptoSaid'. A law counts once. -/
mutual
def uptoBulk {H : Type} : DataW H → Nat
  | .lit (.string bytes) => bytes.length + 1
  | .lit _ => 1
  | .nil => 1
  | .ptr d => uptoBulk d + 1
  | .slice elems spare => uptoBulkAll elems + uptoBulkAll spare + 1
  | .agg parts => uptoBulkAll parts + 1
  | .iface _ d => uptoBulk d + 1
  | .map entries => uptoBulkEntries entries + 1
  | .held _ => 1
def uptoBulkAll {H : Type} : List (DataW H) → Nat
  | [] => 0
  | d :: r => uptoBulk d + uptoBulkAll r
def uptoBulkEntries {H : Type} : List (Lit × DataW H) → Nat
  | [] => 0
  | x :: r => uptoBulkEntry x + uptoBulkEntries r
def uptoBulkEntry {H : Type} : Lit × DataW H → Nat
  | (.string bytes, d) => bytes.length + uptoBulk d + 1
  | (_, d) => uptoBulk d + 1
 end
def uptoSmall : (H : Type) → List (DataW H) → Bool := fun _ ds => decide (uptoBulkAll ds ≤ 1048576)
def OpenSpec.upto (s : _root_.Go.ChangeSpec) : _root_.Go.OpenSpec := { _root_.Go.OpenSpec.ofChange s with cond := some uptoSmall }

/-- 'hackamorelaw07.CapTables', WHERE WHAT IT READS IS OF BULK AT MOST 1048576: true; the input reads as it did. -/
def capTablesUptoRow : OpenClaim := { program := "ytblklbmolfddpaadoor", sum := "680c74ac10bcfb3c1d9205193555f32786e00345ca14072d93d00c117d3d03ca", func := "hackamore/hackamorelaw07.CapTables", spec := "capTables", named := ["hackamore/cap.names", "hackamore/cap.members", "hackamore/cap.fits", "hackamore/cap.views"], apart := false, laid := [("hackamore/cap.names", laid_hackamore_cap_names), ("hackamore/cap.members", laid_hackamore_cap_members), ("hackamore/cap.views", laid_hackamore_cap_views), ("hackamore/cap.fits", laid_hackamore_cap_fits)], narrowed := true }
def CapTablesUptoSaid : Prop := capTablesUptoRow.holds Tryd.pinned (OpenSpec.upto capTablesSpec)

/-- 'hackamorelaw07.CapViews', WHERE WHAT IT READS IS OF BULK AT MOST 1048576: true; the input reads as it did. -/
def capViewsUptoRow : OpenClaim := { program := "ytblklbmolfddpaadoor", sum := "680c74ac10bcfb3c1d9205193555f32786e00345ca14072d93d00c117d3d03ca", func := "hackamore/hackamorelaw07.CapViews", spec := "capViews", named := ["hackamore/cap.views", "hackamore/cap.stores", "hackamore/cap.locals", "hackamore/cap.globals", "hackamore/cap.fits"], apart := false, laid := [("hackamore/cap.locals", laid_hackamore_cap_locals), ("hackamore/cap.globals", laid_hackamore_cap_globals), ("hackamore/cap.stores", laid_hackamore_cap_stores), ("hackamore/cap.views", laid_hackamore_cap_views), ("hackamore/cap.fits", laid_hackamore_cap_fits)], narrowed := true }
def CapViewsUptoSaid : Prop := capViewsUptoRow.holds Tryd.pinned (OpenSpec.upto capViewsSpec)

/-- 'hackamorelaw07.CapOrder', WHERE WHAT IT READS IS OF BULK AT MOST 1048576: true; the input reads as it did. -/
def capOrderUptoRow : OpenClaim := { program := "ytblklbmolfddpaadoor", sum := "680c74ac10bcfb3c1d9205193555f32786e00345ca14072d93d00c117d3d03ca", func := "hackamore/hackamorelaw07.CapOrder", spec := "capOrder", named := ["hackamore/cap.fits", "hackamore/cap.views"], apart := false, laid := [("hackamore/cap.views", laid_hackamore_cap_views), ("hackamore/cap.fits", laid_hackamore_cap_fits)], narrowed := true }
def CapOrderUptoSaid : Prop := capOrderUptoRow.holds Tryd.pinned (OpenSpec.upto capOrderSpec)

/-- 'hackamorelaw07.CapPermits', WHERE WHAT IT READS IS OF BULK AT MOST 1048576: true; the input reads as it did. -/
def capPermitsUptoRow : OpenClaim := { program := "ytblklbmolfddpaadoor", sum := "680c74ac10bcfb3c1d9205193555f32786e00345ca14072d93d00c117d3d03ca", func := "hackamore/hackamorelaw07.CapPermits", spec := "capPermits", named := ["hackamore/cap.views", "hackamore/cap.fits"], apart := false, laid := [("hackamore/cap.views", laid_hackamore_cap_views), ("hackamore/cap.fits", laid_hackamore_cap_fits)], narrowed := true }
def CapPermitsUptoSaid : Prop := capPermitsUptoRow.holds Tryd.pinned (OpenSpec.upto capPermitsSpec)

/-- 'hackamorelaw07.CapBeside', WHERE WHAT IT READS IS OF BULK AT MOST 1048576: true; the input reads as it did. -/
def capBesideUptoRow : OpenClaim := { program := "ytblklbmolfddpaadoor", sum := "680c74ac10bcfb3c1d9205193555f32786e00345ca14072d93d00c117d3d03ca", func := "hackamore/hackamorelaw07.CapBeside", spec := "capBeside", named := ["hackamore/cap.locals", "hackamore/cap.globals", "hackamore/cap.fits", "hackamore/cap.views"], apart := false, laid := [("hackamore/cap.locals", laid_hackamore_cap_locals), ("hackamore/cap.globals", laid_hackamore_cap_globals), ("hackamore/cap.views", laid_hackamore_cap_views), ("hackamore/cap.fits", laid_hackamore_cap_fits)], narrowed := true }
def CapBesideUptoSaid : Prop := capBesideUptoRow.holds Tryd.pinned (OpenSpec.upto capBesideSpec)

/-- 'hackamorelaw07.CapSets', WHERE WHAT IT READS IS OF BULK AT MOST 1048576: true; the input reads as it did. -/
def capSetsUptoRow : OpenClaim := { program := "ytblklbmolfddpaadoor", sum := "680c74ac10bcfb3c1d9205193555f32786e00345ca14072d93d00c117d3d03ca", func := "hackamore/hackamorelaw07.CapSets", spec := "capSets", named := ["hackamore/cap.names", "hackamore/cap.members", "hackamore/cap.globals", "hackamore/cap.views", "hackamore/cap.fits"], apart := false, laid := [("hackamore/cap.names", laid_hackamore_cap_names), ("hackamore/cap.members", laid_hackamore_cap_members), ("hackamore/cap.globals", laid_hackamore_cap_globals), ("hackamore/cap.views", laid_hackamore_cap_views), ("hackamore/cap.fits", laid_hackamore_cap_fits)], narrowed := true }
def CapSetsUptoSaid : Prop := capSetsUptoRow.holds Tryd.pinned (OpenSpec.upto capSetsSpec)

end Rows
end Go.Proofs.YtblklbmolfddpaaDoor
