/- Contract of the statement's own function CapSets, over all numbers. -/
import Derived.Test.YtblklbmolfddpaaDoorSetB
import Derived.Test.YtblklbmolfddpaaDoorSetC
namespace Go.Proofs.YtblklbmolfddpaaDoor
open Go.RowKit

theorem sets_any (n : Int) (w : World) (hV : GViews w) (hF : GFits w) (hN : GNam w) (hM : GMem w) (hG : GGlo w) (hn : 0 ≤ n ∧ n ≤ 255) :
    Calls Tryd.prog 8 #[.int .u8 n] w fun e w' => e = .returned (.bool true) ∧ Bel w w' := by
  obtain ⟨h0, h1⟩ := hn
  have h : n % 11 = 0 ∨ n % 11 = 1 ∨ n % 11 = 2 ∨ n % 11 = 3 ∨ n % 11 = 4 ∨ n % 11 = 5 ∨ n % 11 = 6 ∨ n % 11 = 7 ∨ n % 11 = 8 ∨ n % 11 = 9 ∨ n % 11 = 10 := by omega
  rcases h with h | h | h | h | h | h | h | h | h | h | h
  · exact sets_1 n w hV hF hN hM hG h0 h1 h
  · exact sets_2 n w hV hF hN hM hG h0 h1 h
  · exact sets_3 n w hV hF hN hM hG h0 h1 h
  · exact sets_4 n w hV hF hN hM hG h0 h1 h
  · exact sets_5 n w hV hF hN hM hG h0 h1 h
  · exact sets_6 n w hV hF hN hM hG h0 h1 h
  · exact sets_7 n w hV hF hN hM hG h0 h1 h
  · exact sets_8 n w hV hF hN hM hG h0 h1 h
  · exact sets_9 n w hV hF hN hM hG h0 h1 h
  · exact sets_10 n w hV hF hN hM hG h0 h1 h
  · exact sets_11 n w hV hF hN hM hG h0 h1 h
end Go.Proofs.YtblklbmolfddpaaDoor
