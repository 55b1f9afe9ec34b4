/-
  DERIVED. GIVEN WITH THE SEED: THE PROGRAM's TIES (one call each: nine closed facts by the kernel) AND EACH ROW's TIE, after the 31st guide's Derived/Test/Toyas{Tie, Card}.lean. No idea stands in it: it is a product of the set-up. Laid BY PROGRAM, IN A SANDBOX (cutbox-door.mjs). By AI agents, Wed Nov 11 2026. No macro, syntax, notation, axiom, sorry.
-/
import Derived.Test.YtblklbmolfddpaaDoorRows
import Derived.LaidByTextLater
import Derived.SevenTiedAt
import Derived.LaidSub
import Derived.LaidOnce
namespace Go.Proofs.YtblklbmolfddpaaDoor
open Go
set_option maxRecDepth 100000
theorem seatTie1 : Tryd.prog.laidByTextLater [("hackamore/cap.names", Rows.laid_hackamore_cap_names), ("hackamore/cap.members", Rows.laid_hackamore_cap_members), ("hackamore/cap.locals", Rows.laid_hackamore_cap_locals), ("hackamore/cap.globals", Rows.laid_hackamore_cap_globals), ("hackamore/cap.stores", Rows.laid_hackamore_cap_stores), ("hackamore/cap.views", Rows.laid_hackamore_cap_views), ("hackamore/cap.fits", Rows.laid_hackamore_cap_fits)] [.data, .data, .data, .data, .data, .data, .data] true :=
  Program.laidByTextLater_by_one 49 8 50 (by kernel_rfl) (by kernel_rfl) (by kernel_rfl) (by kernel_rfl) (by kernel_rfl) (by kernel_rfl) (fun _ _ => by kernel_rfl)
theorem noOwnUnsafe : Tryd.pinned.checked.prog.headLifts.contains "ownunsafe" = false := by kernel_rfl
theorem tie : Tryd.prog.laidByTextLater [("hackamore/cap.names", Rows.laid_hackamore_cap_names), ("hackamore/cap.members", Rows.laid_hackamore_cap_members), ("hackamore/cap.views", Rows.laid_hackamore_cap_views), ("hackamore/cap.fits", Rows.laid_hackamore_cap_fits)] [.data, .data, .data, .data] true :=
  Program.laidByTextLater.sub seatTie1 ["hackamore/cap.names", "hackamore/cap.members", "hackamore/cap.views", "hackamore/cap.fits"] (by kernel_rfl) (by kernel_rfl)
theorem capTables_row_tie : Rows.capTablesRow.laidByTextAt .later Tryd.pinned [.data, .data, .data, .data] true :=
  OpenClaim.laidByTextAt_later rfl rfl tie noOwnUnsafe
theorem tie2 : Tryd.prog.laidByTextLater [("hackamore/cap.locals", Rows.laid_hackamore_cap_locals), ("hackamore/cap.globals", Rows.laid_hackamore_cap_globals), ("hackamore/cap.stores", Rows.laid_hackamore_cap_stores), ("hackamore/cap.views", Rows.laid_hackamore_cap_views), ("hackamore/cap.fits", Rows.laid_hackamore_cap_fits)] [.data, .data, .data, .data, .data] true :=
  Program.laidByTextLater.sub seatTie1 ["hackamore/cap.locals", "hackamore/cap.globals", "hackamore/cap.stores", "hackamore/cap.views", "hackamore/cap.fits"] (by kernel_rfl) (by kernel_rfl)
theorem capViews_row_tie : Rows.capViewsRow.laidByTextAt .later Tryd.pinned [.data, .data, .data, .data, .data] true :=
  OpenClaim.laidByTextAt_later rfl rfl tie2 noOwnUnsafe
theorem tie3 : Tryd.prog.laidByTextLater [("hackamore/cap.views", Rows.laid_hackamore_cap_views), ("hackamore/cap.fits", Rows.laid_hackamore_cap_fits)] [.data, .data] true :=
  Program.laidByTextLater.sub seatTie1 ["hackamore/cap.views", "hackamore/cap.fits"] (by kernel_rfl) (by kernel_rfl)
theorem capOrder_row_tie : Rows.capOrderRow.laidByTextAt .later Tryd.pinned [.data, .data] true :=
  OpenClaim.laidByTextAt_later rfl rfl tie3 noOwnUnsafe
theorem capPermits_row_tie : Rows.capPermitsRow.laidByTextAt .later Tryd.pinned [.data, .data] true :=
  OpenClaim.laidByTextAt_later rfl rfl tie3 noOwnUnsafe
theorem tie4 : Tryd.prog.laidByTextLater [("hackamore/cap.locals", Rows.laid_hackamore_cap_locals), ("hackamore/cap.globals", Rows.laid_hackamore_cap_globals), ("hackamore/cap.views", Rows.laid_hackamore_cap_views), ("hackamore/cap.fits", Rows.laid_hackamore_cap_fits)] [.data, .data, .data, .data] true :=
  Program.laidByTextLater.sub seatTie1 ["hackamore/cap.locals", "hackamore/cap.globals", "hackamore/cap.views", "hackamore/cap.fits"] (by kernel_rfl) (by kernel_rfl)
theorem capBeside_row_tie : Rows.capBesideRow.laidByTextAt .later Tryd.pinned [.data, .data, .data, .data] true :=
  OpenClaim.laidByTextAt_later rfl rfl tie4 noOwnUnsafe
theorem tie5 : Tryd.prog.laidByTextLater [("hackamore/cap.names", Rows.laid_hackamore_cap_names), ("hackamore/cap.members", Rows.laid_hackamore_cap_members), ("hackamore/cap.globals", Rows.laid_hackamore_cap_globals), ("hackamore/cap.views", Rows.laid_hackamore_cap_views), ("hackamore/cap.fits", Rows.laid_hackamore_cap_fits)] [.data, .data, .data, .data, .data] true :=
  Program.laidByTextLater.sub seatTie1 ["hackamore/cap.names", "hackamore/cap.members", "hackamore/cap.globals", "hackamore/cap.views", "hackamore/cap.fits"] (by kernel_rfl) (by kernel_rfl)
theorem capSets_row_tie : Rows.capSetsRow.laidByTextAt .later Tryd.pinned [.data, .data, .data, .data, .data] true :=
  OpenClaim.laidByTextAt_later rfl rfl tie5 noOwnUnsafe
theorem capTablesUpto_row_tie : Rows.capTablesUptoRow.laidByTextAt .later Tryd.pinned [.data, .data, .data, .data] true :=
  OpenClaim.laidByTextAt_later rfl rfl tie noOwnUnsafe
theorem capViewsUpto_row_tie : Rows.capViewsUptoRow.laidByTextAt .later Tryd.pinned [.data, .data, .data, .data, .data] true :=
  OpenClaim.laidByTextAt_later rfl rfl tie2 noOwnUnsafe
theorem capOrderUpto_row_tie : Rows.capOrderUptoRow.laidByTextAt .later Tryd.pinned [.data, .data] true :=
  OpenClaim.laidByTextAt_later rfl rfl tie3 noOwnUnsafe
theorem capPermitsUpto_row_tie : Rows.capPermitsUptoRow.laidByTextAt .later Tryd.pinned [.data, .data] true :=
  OpenClaim.laidByTextAt_later rfl rfl tie3 noOwnUnsafe
theorem capBesideUpto_row_tie : Rows.capBesideUptoRow.laidByTextAt .later Tryd.pinned [.data, .data, .data, .data] true :=
  OpenClaim.laidByTextAt_later rfl rfl tie4 noOwnUnsafe
theorem capSetsUpto_row_tie : Rows.capSetsUptoRow.laidByTextAt .later Tryd.pinned [.data, .data, .data, .data, .data] true :=
  OpenClaim.laidByTextAt_later rfl rfl tie5 noOwnUnsafe
end Go.Proofs.YtblklbmolfddpaaDoor
