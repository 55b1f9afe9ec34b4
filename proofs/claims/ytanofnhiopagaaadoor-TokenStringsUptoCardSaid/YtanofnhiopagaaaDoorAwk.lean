/- Contracts: Scan over the two texts of awake; awake. -/
import Derived.Test.YtanofnhiopagaaaDoorCha
namespace Go.Proofs.YtanofnhiopagaaaDoor
open Go.RowKit Go.Maps Go.WideMaps

set_option maxRecDepth 100000 in
set_option maxHeartbeats 400000 in
theorem Scan_chain (s : ByteArray) (w : World) (hs : s.size ≤ 20000) (hG : Glob w) (toks : List Tok) (hlen : toks.length ≤ 20000) (hch : Chain s 0 true toks) :
    Calls Tryd.prog 18 #[.string s] w fun e w' => ∃ v, e = .returned (.tuple #[v, .int .i64 0, .int .i64 0]) ∧ w'.ownsRow w.heap.size 36 4 v toks.length (tokCells toks) ∧ w.grownBy w' none := by
  have H := Lib.hid (scan_chain s w hs hG toks hlen hch)
  have i1 : ¬ (20000 : Int) < s.size := by omega
  clear hch
  go_enter Tryd.func18, Tryd.ntmps18
  go_wp2_with fail
  refine H.out.mono ?_
  rintro e w' ⟨v, rfl, h1, h2⟩
  go_wp2_with fail
  go_ret3
  exact ⟨v, rfl, h1, h2⟩

theorem row_at {W : World} {B : Nat} {l : List Tok} {v : Value} (h : W.ownsRow B 36 4 v l.length (tokCells l)) (hl : l ≠ []) : ∃ g cap, v = .slice (some ⟨g, 0, none⟩) l.length cap ∧ B ≤ g ∧ g < W.heap.size ∧ ∀ j u, (tokCells l)[j]? = some u → W.cell? ⟨g, j, none⟩ = some u := by
  rcases h.2 with ⟨_, h0⟩ | ⟨g, cap, cur, rfl, hb, hg, _⟩
  · exact absurd (List.eq_nil_of_length_eq_zero h0) hl
  · exact ⟨g, cap, rfl, hb, (Array.getElem?_eq_some_iff.1 hg).1, fun j u hj => by
      have := h.cells (g := g) rfl j u hj
      rw [show (⟨g, 0, none⟩ : Addr).add j = ⟨g, j, none⟩ from by unfold Addr.add; split <;> simp_all] at this
      exact this⟩

set_option maxRecDepth 100000 in
set_option maxHeartbeats 1600000 in
theorem awake_any (w : World) (hG : Glob w) : Calls Tryd.prog 8 #[] w fun e w' => e = .returned (.bool true) ∧ w.grownBy w' none := by
  have A := Lib.hid (Scan_chain tA w (by decide) hG toksA (by decide) chainA)
  have Bf := Lib.hid (fun W hG => Scan_chain tB W (by decide) hG toksB (by decide) chainB)
  have HG := Lib.hid hG
  go_enter Tryd.func8, Tryd.ntmps8
  go_wp2_with fail
  refine A.out.mono ?_
  rintro e w1 ⟨va, rfl, ha, ga⟩
  obtain ⟨g, cap, rfl, hb, hl, hc⟩ := row_at ha (by decide)
  go_wp2_with fail
  refine (Bf.out w1 (HG.out.grown ga (fun k h => by cases h))).mono ?_
  rintro e w2 ⟨vb, rfl, h2, gb⟩
  obtain ⟨g2, cap2, rfl, hb2, hl2, hc2⟩ := row_at h2 (by decide)
  have hc1 : ∀ j u, (tokCells toksA)[j]? = some u → w2.cell? ⟨g, j, none⟩ = some u := fun j u hj => gb.cell (hc j u hj) (by simp)
  have a0 := hc1 0 _ rfl
  have a1 := hc1 1 _ rfl
  have a2 := hc1 2 _ rfl
  have a3 := hc1 3 _ rfl
  have a5 := hc1 5 _ rfl
  have a13 := hc1 13 _ rfl
  have b5 : w2.cell? ⟨g2, 5, none⟩ = some (.string ⟨#[46]⟩) := hc2 5 _ rfl
  have b17 : w2.cell? ⟨g2, 17, none⟩ = some (.string ⟨#[46, 62]⟩) := hc2 17 _ rfl
  have b24 := hc2 24 _ rfl
  have b25 := hc2 25 _ rfl
  have b26 := hc2 26 _ rfl
  have b27 := hc2 27 _ rfl
  have l1 : toksA.length = 4 := rfl
  have l2 : toksB.length = 7 := rfl
  rw [l1, l2]
  have gw := ga.trans gb
  clear hc hc1 hc2 ha h2 ga gb A Bf HG hG hb hb2 hl hl2
  go_wp2_with fail
  go_ret
  exact ⟨rfl, gw⟩
end Go.Proofs.YtanofnhiopagaaaDoor
