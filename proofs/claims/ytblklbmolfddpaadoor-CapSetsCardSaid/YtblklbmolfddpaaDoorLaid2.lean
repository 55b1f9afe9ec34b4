/- What the listed tables of Local, Global, Store, the names and the members hold gives what the contracts ask of the world. -/
import Derived.Test.YtblklbmolfddpaaDoorLaid
import Derived.Test.YtblklbmolfddpaaDoorLoc
namespace Go.Proofs.YtblklbmolfddpaaDoor
open Go.RowKit Go.Lib

set_option maxRecDepth 1000000 in
theorem locals_data : (Rows.laid_hackamore_cap_locals : DataW Unit) = tabData .u64 localsT := by kernel_rfl
set_option maxRecDepth 1000000 in
theorem globals_data : (Rows.laid_hackamore_cap_globals : DataW Unit) = tabData .u64 globalsT := by kernel_rfl
set_option maxRecDepth 1000000 in
theorem stores_data : (Rows.laid_hackamore_cap_stores : DataW Unit) = tabData .u64 storesT := by kernel_rfl
theorem locals_of_reads {w : World} (h : VarReads Tryd.prog w "hackamore/cap.locals" (tabData .u64 localsT)) : GLoc w :=
  ⟨fun k hk => tab_of_reads (g := 5) (t := 59) (n := 7) (by kernel_rfl) (by kernel_rfl) Tryd.underlying59 Tryd.underlying53 (by kernel_rfl) (by kernel_rfl) h k hk⟩
theorem globals_of_reads {w : World} (h : VarReads Tryd.prog w "hackamore/cap.globals" (tabData .u64 globalsT)) : GGlo w :=
  ⟨fun k hk => tab_of_reads (g := 6) (t := 59) (n := 7) (by kernel_rfl) (by kernel_rfl) Tryd.underlying59 Tryd.underlying53 (by kernel_rfl) (by kernel_rfl) h k hk⟩
theorem stores_of_reads {w : World} (h : VarReads Tryd.prog w "hackamore/cap.stores" (tabData .u64 storesT)) : GSto w :=
  ⟨fun k hk => tab_of_reads (g := 4) (t := 59) (n := 7) (by kernel_rfl) (by kernel_rfl) Tryd.underlying59 Tryd.underlying53 (by kernel_rfl) (by kernel_rfl) h k hk⟩
end Go.Proofs.YtblklbmolfddpaaDoor
