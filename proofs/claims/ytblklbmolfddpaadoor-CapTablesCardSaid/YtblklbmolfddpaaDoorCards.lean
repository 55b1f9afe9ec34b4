/-
  DERIVED. GIVEN WITH THE SEED: THE CARDS: each row of YtblklbmolfddpaaDoorRows.lean that lists a variable, with what it lists TIED to the program's text (the seventh form; the later family's looks); each row that meets fmt, with fmt's text TOLD by the authors' own Lean function (tested against real Go, not proved from fmt's source: count such statements apart). THE CARD IS WHAT COUNTS. Prove the row's statement (the work); the ties are given (YtblklbmolfddpaaDoorTie.lean); close each card by the builder's one call (the guide's Derived/Test/ToyasCard.lean, 'card_holds'). Laid BY PROGRAM, IN A SANDBOX (cutbox-door.mjs). By AI agents, Wed Nov 11 2026. No macro, syntax, notation, axiom, sorry.
-/
import Derived.Test.YtblklbmolfddpaaDoorRows
import GoSem.ClaimSeven
namespace Go.Proofs.YtblklbmolfddpaaDoor
namespace Rows

/-- THE TIED CARD OF 'hackamorelaw07.CapTables'. -/
def capTablesCard : Claim7 := { stood := { row := capTablesRow, standIns := [], harness := (true, "c97cf40239f11365b1dbc8fab3d57bbf2ec16165932f1613296bc8dfee456d83"), looks := false }, kinds := [], alts := [], laidByText := true, laidKinds := [.data, .data, .data, .data], laidTests := true, laidLooks := .later }
def CapTablesCardSaid : Prop := Claim7.holds Tryd.pinned (.plain (OpenSpec.ofChange capTablesSpec)) capTablesCard

/-- THE TIED CARD OF 'hackamorelaw07.CapViews'. -/
def capViewsCard : Claim7 := { stood := { row := capViewsRow, standIns := [], harness := (true, "c97cf40239f11365b1dbc8fab3d57bbf2ec16165932f1613296bc8dfee456d83"), looks := false }, kinds := [], alts := [], laidByText := true, laidKinds := [.data, .data, .data, .data, .data], laidTests := true, laidLooks := .later }
def CapViewsCardSaid : Prop := Claim7.holds Tryd.pinned (.plain (OpenSpec.ofChange capViewsSpec)) capViewsCard

/-- THE TIED CARD OF 'hackamorelaw07.CapOrder'. -/
def capOrderCard : Claim7 := { stood := { row := capOrderRow, standIns := [], harness := (true, "c97cf40239f11365b1dbc8fab3d57bbf2ec16165932f1613296bc8dfee456d83"), looks := false }, kinds := [], alts := [], laidByText := true, laidKinds := [.data, .data], laidTests := true, laidLooks := .later }
def CapOrderCardSaid : Prop := Claim7.holds Tryd.pinned (.plain (OpenSpec.ofChange capOrderSpec)) capOrderCard

/-- THE TIED CARD OF 'hackamorelaw07.CapPermits'. -/
def capPermitsCard : Claim7 := { stood := { row := capPermitsRow, standIns := [], harness := (true, "c97cf40239f11365b1dbc8fab3d57bbf2ec16165932f1613296bc8dfee456d83"), looks := false }, kinds := [], alts := [], laidByText := true, laidKinds := [.data, .data], laidTests := true, laidLooks := .later }
def CapPermitsCardSaid : Prop := Claim7.holds Tryd.pinned (.plain (OpenSpec.ofChange capPermitsSpec)) capPermitsCard

/-- THE TIED CARD OF 'hackamorelaw07.CapBeside'. -/
def capBesideCard : Claim7 := { stood := { row := capBesideRow, standIns := [], harness := (true, "c97cf40239f11365b1dbc8fab3d57bbf2ec16165932f1613296bc8dfee456d83"), looks := false }, kinds := [], alts := [], laidByText := true, laidKinds := [.data, .data, .data, .data], laidTests := true, laidLooks := .later }
def CapBesideCardSaid : Prop := Claim7.holds Tryd.pinned (.plain (OpenSpec.ofChange capBesideSpec)) capBesideCard

/-- THE TIED CARD OF 'hackamorelaw07.CapSets'. -/
def capSetsCard : Claim7 := { stood := { row := capSetsRow, standIns := [], harness := (true, "c97cf40239f11365b1dbc8fab3d57bbf2ec16165932f1613296bc8dfee456d83"), looks := false }, kinds := [], alts := [], laidByText := true, laidKinds := [.data, .data, .data, .data, .data], laidTests := true, laidLooks := .later }
def CapSetsCardSaid : Prop := Claim7.holds Tryd.pinned (.plain (OpenSpec.ofChange capSetsSpec)) capSetsCard

/-- THE SECOND FORM's CARD OF 'hackamorelaw07.CapTables'. -/
def capTablesUptoCard : Claim7 := { stood := { row := capTablesUptoRow, standIns := [], harness := (true, "c97cf40239f11365b1dbc8fab3d57bbf2ec16165932f1613296bc8dfee456d83"), looks := false }, kinds := [], alts := [], laidByText := true, laidKinds := [.data, .data, .data, .data], laidTests := true, laidLooks := .later }
def CapTablesUptoCardSaid : Prop := Claim7.holds Tryd.pinned (.plain (OpenSpec.upto capTablesSpec)) capTablesUptoCard

/-- THE SECOND FORM's CARD OF 'hackamorelaw07.CapViews'. -/
def capViewsUptoCard : Claim7 := { stood := { row := capViewsUptoRow, standIns := [], harness := (true, "c97cf40239f11365b1dbc8fab3d57bbf2ec16165932f1613296bc8dfee456d83"), looks := false }, kinds := [], alts := [], laidByText := true, laidKinds := [.data, .data, .data, .data, .data], laidTests := true, laidLooks := .later }
def CapViewsUptoCardSaid : Prop := Claim7.holds Tryd.pinned (.plain (OpenSpec.upto capViewsSpec)) capViewsUptoCard

/-- THE SECOND FORM's CARD OF 'hackamorelaw07.CapOrder'. -/
def capOrderUptoCard : Claim7 := { stood := { row := capOrderUptoRow, standIns := [], harness := (true, "c97cf40239f11365b1dbc8fab3d57bbf2ec16165932f1613296bc8dfee456d83"), looks := false }, kinds := [], alts := [], laidByText := true, laidKinds := [.data, .data], laidTests := true, laidLooks := .later }
def CapOrderUptoCardSaid : Prop := Claim7.holds Tryd.pinned (.plain (OpenSpec.upto capOrderSpec)) capOrderUptoCard

/-- THE SECOND FORM's CARD OF 'hackamorelaw07.CapPermits'. -/
def capPermitsUptoCard : Claim7 := { stood := { row := capPermitsUptoRow, standIns := [], harness := (true, "c97cf40239f11365b1dbc8fab3d57bbf2ec16165932f1613296bc8dfee456d83"), looks := false }, kinds := [], alts := [], laidByText := true, laidKinds := [.data, .data], laidTests := true, laidLooks := .later }
def CapPermitsUptoCardSaid : Prop := Claim7.holds Tryd.pinned (.plain (OpenSpec.upto capPermitsSpec)) capPermitsUptoCard

/-- THE SECOND FORM's CARD OF 'hackamorelaw07.CapBeside'. -/
def capBesideUptoCard : Claim7 := { stood := { row := capBesideUptoRow, standIns := [], harness := (true, "c97cf40239f11365b1dbc8fab3d57bbf2ec16165932f1613296bc8dfee456d83"), looks := false }, kinds := [], alts := [], laidByText := true, laidKinds := [.data, .data, .data, .data], laidTests := true, laidLooks := .later }
def CapBesideUptoCardSaid : Prop := Claim7.holds Tryd.pinned (.plain (OpenSpec.upto capBesideSpec)) capBesideUptoCard

/-- THE SECOND FORM's CARD OF 'hackamorelaw07.CapSets'. -/
def capSetsUptoCard : Claim7 := { stood := { row := capSetsUptoRow, standIns := [], harness := (true, "c97cf40239f11365b1dbc8fab3d57bbf2ec16165932f1613296bc8dfee456d83"), looks := false }, kinds := [], alts := [], laidByText := true, laidKinds := [.data, .data, .data, .data, .data], laidTests := true, laidLooks := .later }
def CapSetsUptoCardSaid : Prop := Claim7.holds Tryd.pinned (.plain (OpenSpec.upto capSetsSpec)) capSetsUptoCard
end Rows
end Go.Proofs.YtblklbmolfddpaaDoor
