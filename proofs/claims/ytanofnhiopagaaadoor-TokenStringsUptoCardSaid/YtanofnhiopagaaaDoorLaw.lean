/- Contracts: Quote, slices.Equal over two tables, and the statement's own function. -/
import Derived.Test.YtanofnhiopagaaaDoorShelf
import Derived.Test.YtanofnhiopagaaaDoorAwk
import Derived.Test.YtanofnhiopagaaaDoorRefQ
import Derived.Test.YtanofnhiopagaaaDoorKw
import Derived.Test.YtanofnhiopagaaaDoorId
import Derived.Test.YtanofnhiopagaaaDoorRef3
import Derived.Shelf.Slices.Equal
namespace Go.Proofs.YtanofnhiopagaaaDoor
open Go.RowKit Go.Maps Go.WideMaps

set_option maxRecDepth 100000 in
set_option maxHeartbeats 400000 in
theorem quote_bad (s : ByteArray) (w : World) (hs : s.size ≤ 4000) (hT : Lib.Utf8Tabs 2 3 w) (hv : Lib.validD s.data.toList = false) :
    Calls Tryd.prog 9 #[.string s] w fun e w' => e = .returned (.tuple #[.string ⟨#[]⟩, .int .i64 2]) ∧ w.grownBy w' none := by
  have V0 := Tryd.utf8_ValidString s w (by omega) hT
  rw [hv] at V0
  have V := Lib.hid V0
  clear V0 hv
  go_enter Tryd.func9, Tryd.ntmps9
  go_wp2_with fail
  refine V.out.mono ?_
  rintro e w0 ⟨rfl, hb0⟩
  go_wp2_with fail
  go_ret2
  exact ⟨rfl, grown_of_below hb0 none⟩

set_option maxRecDepth 100000 in
set_option maxHeartbeats 400000 in
theorem quote_ok (s : ByteArray) (w : World) (hs : s.size ≤ 4000) (hT : Lib.Utf8Tabs 2 3 w) (hv : Lib.validD s.data.toList = true) :
    Calls Tryd.prog 9 #[.string s] w fun e w' => e = .returned (.tuple #[.string ⟨(qs s.data.toList ++ [34]).toArray⟩, .int .i64 0]) ∧ w.grownBy w' none := by
  have V0 := Tryd.utf8_ValidString s w (by omega) hT
  rw [hv] at V0
  have V := Lib.hid V0
  have Q := Lib.hid (fun W => quoted_any s W (by omega))
  clear V0 hv
  go_enter Tryd.func9, Tryd.ntmps9
  go_wp2_with fail
  refine V.out.mono ?_
  rintro e w0 ⟨rfl, hb0⟩
  go_wp2_with fail
  refine (Q.out _).mono ?_
  rintro e w1 ⟨rfl, hg⟩
  go_wp2_with fail
  go_ret2
  exact ⟨rfl, (grown_of_below hb0 none).trans hg⟩

theorem equal_rows (l : List (List UInt8)) (n g c g2 d : Nat) (w : World) (hn : l.length = n) (hl : n ≤ 1000)
    (h1 : ∀ j, j < l.length → w.cell? ⟨g, j, none⟩ = some (.string (str (l.getD j [])))) (h2 : ∀ j, j < l.length → w.cell? ⟨g2, j, none⟩ = some (.string (str (l.getD j [])))) :
    Calls Tryd.prog 13 #[.slice (some ⟨g, 0, none⟩) n c, .slice (some ⟨g2, 0, none⟩) n d] w fun e w' => e = .returned (.bool true) ∧ ∃ q, w' = w.drewN q := by
  subst hn
  have hx : ∀ j, j < (l.map str).length → (l.map str).getD j ByteArray.empty = str (l.getD j []) := fun j hj => by
    simp at hj; simp [List.getD, List.getElem?_eq_getElem hj]
  have h := Any.slices_Equal_string Tryd.laysEqual g 0 l.length c g2 0 l.length d (l.map str) (l.map str) w (by simp) (by simp) (by omega) (by omega)
    (fun j hj => by rw [hx j hj, Nat.zero_add]; exact h1 j (by simpa using hj)) (fun j hj => by rw [hx j hj, Nat.zero_add]; exact h2 j (by simpa using hj))
  rw [decide_eq_true rfl] at h
  exact h

theorem cell_new (w : World) (l : List (List UInt8)) (j : Nat) (hj : j < l.length) : (w.alloc (.cells (cellsOfL l) 9)).cell? ⟨w.heap.size, j, none⟩ = some (.string (str (l.getD j []))) := by
  simp only [World.cell?, heap_new]
  exact cells_at l j hj
theorem strsV_at (l : List (List UInt8)) (j : Nat) (hj : j < l.length) : (strsV l)[j]? = some (.string (str (l.getD j []))) := by
  simp [strsV, List.getD, List.getElem?_eq_getElem hj]
theorem strs_row {W : World} {B : Nat} {l : List (List UInt8)} {v : Value} {n : Nat} (hn : l.length = n) (h : W.ownsRow B 9 1 v n (strsV l)) (hl : l ≠ []) : ∃ g cap, v = .slice (some ⟨g, 0, none⟩) n cap ∧ ∀ j, j < l.length → W.cell? ⟨g, j, none⟩ = some (.string (str (l.getD j []))) := by
  subst hn
  rcases h.2 with ⟨_, h0⟩ | ⟨g, cap, cur, rfl, hb, hg, _⟩
  · exact absurd (List.eq_nil_of_length_eq_zero h0) hl
  · exact ⟨g, cap, rfl, fun j hj => by
      have := h.cells (g := g) rfl j _ (strsV_at l j hj)
      rw [show (⟨g, 0, none⟩ : Addr).add j = ⟨g, j, none⟩ from by unfold Addr.add; split <;> simp_all] at this
      exact this⟩

set_option maxRecDepth 100000 in
set_option maxHeartbeats 1600000 in
theorem law_any (s : ByteArray) (w : World) (hG : Glob w) : Calls Tryd.prog 3 #[.string s] w fun e w' => e = .returned (.bool true) ∧ w.grownBy w' none := by
  have AW := Lib.hid (fun W hG => awake_any W hG)
  have HG := Lib.hid hG
  by_cases h500 : s.size > 500
  · have i1 : (500 : Int) < s.size := by omega
    clear hG
    go_enter Tryd.func3, Tryd.ntmps3
    go_wp2_with fail
    refine (AW.out _ HG.out).mono ?_
    rintro e w' ⟨rfl, hg⟩
    go_wp2_with fail
    go_ret
    exact ⟨rfl, hg⟩
  · have i1 : ¬ (500 : Int) < s.size := by omega
    have hm : s.size ≤ maxLen := by unfold maxLen; omega
    have I1 := Lib.hid (fun W (hG : GKw W) => isIdent_any s W hm hG)
    have I2 := Lib.hid (fun W => r_isIdent s W hm)
    have K1 := Lib.hid (fun W (hG : GKw W) => keywords_any W hG)
    have K2 := Lib.hid (fun W => r_keywords W)
    have S1 := Lib.hid (fun W (hG : GSym W) => symbols_any W hG)
    have S2 := Lib.hid (fun W => r_symbols W)
    have EQ := Lib.hid (fun l n g c g2 d W hn hl h1 h2 => equal_rows l n g c g2 d W hn hl h1 h2)
    obtain ⟨q, k, Q1, Q2⟩ : ∃ q k, Hid (Calls Tryd.prog 9 #[.string s] w fun e w' => e = .returned (.tuple #[.string q, .int .i64 k]) ∧ w.grownBy w' none) ∧
        Hid (∀ W, Lib.Utf8Tabs 2 3 W → Calls Tryd.prog 10 #[.string s] W fun e w' => e = .returned (.tuple #[.string q, .int .i64 k]) ∧ Below W.heap.size W w') := by
      cases hv : Lib.validD s.data.toList with
      | false => exact ⟨_, _, Lib.hid (quote_bad s w (by omega) hG.u8 hv), Lib.hid (fun W hT => refQuote_bad s W (by omega) hT hv)⟩
      | true => exact ⟨_, _, Lib.hid (quote_ok s w (by omega) hG.u8 hv), Lib.hid (fun W hT => refQuote_ok s W (by omega) hT hv)⟩
    clear hG
    go_enter Tryd.func3, Tryd.ntmps3
    go_wp2_with fail
    refine Q1.out.mono ?_
    rintro e w1 ⟨rfl, g1⟩
    have G1 := HG.out.grown g1 (fun k h => by cases h)
    have HG1 := Lib.hid G1
    clear G1
    go_wp2_with fail
    refine (Q2.out _ HG1.out.u8).mono ?_
    rintro e w2 ⟨rfl, b2⟩
    have g2 : w.grownBy w2 none := g1.trans (grown_of_below b2 none)
    have HG2 := Lib.hid (HG1.out.grown (grown_of_below b2 none) (fun k h => by cases h))
    go_wp2_with fail
    refine (I1.out _ HG2.out.kw).mono ?_
    rintro e w2' ⟨rfl, rfl⟩
    go_wp2_with fail
    refine (I2.out _).mono ?_
    rintro e w3 ⟨rfl, g3⟩
    have g3' := g2.trans g3
    have HG3 := Lib.hid (HG2.out.grown g3 (fun k h => by cases h))
    go_wp2_with fail
    refine (K1.out _ HG3.out.kw).mono ?_
    rintro e w4 ⟨v4, rfl, ho4, g4⟩
    obtain ⟨ka, kc, rfl, hka⟩ := strs_row kw_len ho4 (by decide)
    have g4' := g3'.trans g4
    have HG4 := Lib.hid (HG3.out.grown g4 (fun k h => by cases h))
    clear ho4
    go_wp2_with fail
    refine (K2.out _).mono ?_
    rintro e w5 ⟨rfl, e5⟩
    have E1 := Lib.hid (EQ.out kwBytes 51 ka kc w4.heap.size 51 w5 kw_len (by omega) (fun j hj => by rw [e5]; exact (grown_alloc w4 _ none).cell (hka j hj) (by simp)) (fun j hj => by rw [e5]; exact cell_new w4 kwBytes j hj))
    have g45 : w4.grownBy w5 none := by rw [e5]; exact grown_alloc w4 _ none
    have g5' := g4'.trans g45
    have HG5 := Lib.hid (HG4.out.grown g45 (fun k h => by cases h))
    clear e5 hka g45
    go_wp2_with fail
    refine E1.out.mono ?_
    rintro e w6 ⟨rfl, q1, e6⟩
    have g56 : w5.grownBy w6 none := by rw [e6]; exact grown_drewN w5 q1 none
    have g6' := g5'.trans g56
    have HG6 := Lib.hid (HG5.out.grown g56 (fun k h => by cases h))
    clear e6 g56 E1
    go_wp2_with fail
    refine (S1.out _ HG6.out.sym).mono ?_
    rintro e w7 ⟨v7, rfl, ho7, g7⟩
    obtain ⟨sa, sc, rfl, hsa⟩ := strs_row sym_len ho7 (by decide)
    have g7' := g6'.trans g7
    have HG7 := Lib.hid (HG6.out.grown g7 (fun k h => by cases h))
    clear ho7
    go_wp2_with fail
    refine (S2.out _).mono ?_
    rintro e w8 ⟨rfl, e8⟩
    have E2 := Lib.hid (EQ.out symBytes 43 sa sc w7.heap.size 43 w8 sym_len (by omega) (fun j hj => by rw [e8]; exact (grown_alloc w7 _ none).cell (hsa j hj) (by simp)) (fun j hj => by rw [e8]; exact cell_new w7 symBytes j hj))
    have g78 : w7.grownBy w8 none := by rw [e8]; exact grown_alloc w7 _ none
    have g8' := g7'.trans g78
    have HG8 := Lib.hid (HG7.out.grown g78 (fun k h => by cases h))
    clear e8 hsa g78
    go_wp2_with fail
    refine E2.out.mono ?_
    rintro e w9 ⟨rfl, q2, e9⟩
    have g89 : w8.grownBy w9 none := by rw [e9]; exact grown_drewN w8 q2 none
    have g9' := g8'.trans g89
    have HG9 := Lib.hid (HG8.out.grown g89 (fun k h => by cases h))
    clear e9 g89 E2
    go_wp2_with fail
    refine (AW.out _ HG9.out).mono ?_
    rintro e w10 ⟨rfl, g10⟩
    have g10' := g9'.trans g10
    go_wp2_with fail
    go_ret
    exact ⟨rfl, g10'⟩
end Go.Proofs.YtanofnhiopagaaaDoor
