/- Contract: scan over a text whose tokens are read one behind the other. -/
import Derived.Test.YtanofnhiopagaaaDoorRd2
import Derived.Test.YtanofnhiopagaaaDoorRec
import Derived.Test.YtanofnhiopagaaaDoorScan4
import Derived.BigQuiet
import Derived.OwnWalk
import Derived.Deep.Cut
namespace Go.Proofs.YtanofnhiopagaaaDoor
open Go.RowKit Go.Maps Go.WideMaps

structure Tok where
  kind : Int
  text : ByteArray
  pos : Nat
  line : Bool
def Tok.cells (t : Tok) : List Value := [.int .i64 t.kind, .string t.text, .int .i64 t.pos, .bool t.line]
def tokCells (l : List Tok) : List Value := l.flatMap Tok.cells
theorem tokCells_snoc (l : List Tok) (t : Tok) : tokCells (l ++ [t]) = tokCells l ++ t.cells := by simp [tokCells, List.flatMap_append]

/-- What the scanner's memory holds: its block b, the boxes of its closures, its keywords m. -/
structure SM (W : World) (b m : Nat) (s : ByteArray) (k : Nat) (ln : Bool) (T : Value) : Prop where
  scn : Scn W b s k ln (.map (some m)) T
  box : RBox W b (b + 1)
  map : W.ownsMap Tryd.prog 9 (plainElem (H := Unit) Tryd.prog 4) m 51 (kwSet 51)
  glob : Glob W
  big : b + 4 ≤ W.heap.size

/-- The token that begins at k is read: its kind, its text, and where it ends. -/
def Reads (s : ByteArray) (k k2 : Nat) (kind : Int) (text : ByteArray) : Prop :=
  ∀ (W : World) (b m : Nat) (T : Value) (c : UInt8), 4 ≤ b → m < b → (∀ h : k < s.size, s[k]'h = c) → SM W b m s k false T →
    Calls Tryd.prog 50 #[.int .u8 c.toNat, .pointer (some ⟨b + 1, 0, none⟩), .pointer (some ⟨b + 2, 0, none⟩), .pointer (some ⟨b + 3, 0, none⟩)] W fun e w' =>
      e = .returned (.tuple #[.int .i64 kind, .string text]) ∧ (Scn w' b s k2 false (.map (some m)) T ∧ W.grownBy w' (some b))

def Chain (s : ByteArray) : Nat → Bool → List Tok → Prop
  | k, ln, [] => k ≤ s.size ∧ ∃ n ln', blanksF n s.data.toList k ln = some (s.size, ln')
  | k, ln, t :: ts => k ≤ s.size ∧ ∃ n k2, blanksF n s.data.toList k ln = some (t.pos, t.line) ∧ t.pos < s.size ∧ Reads s t.pos k2 t.kind t.text ∧ Chain s k2 false ts
/-- Behind the blanks. -/
def Head (s : ByteArray) (k : Nat) (ln : Bool) : List Tok → Prop
  | [] => k = s.size
  | t :: ts => k = t.pos ∧ ln = t.line ∧ t.pos < s.size ∧ ∃ k2, Reads s t.pos k2 t.kind t.text ∧ Chain s k2 false ts
theorem Chain.blanks {s : ByteArray} {k : Nat} {ln : Bool} {l : List Tok} (h : Chain s k ln l) : k ≤ s.size ∧ ∃ n k' ln', blanksF n s.data.toList k ln = some (k', ln') ∧ Head s k' ln' l := by
  cases l with
  | nil => obtain ⟨hk, n, ln', h⟩ := h; exact ⟨hk, n, s.size, ln', h, rfl⟩
  | cons t ts => obtain ⟨hk, n, k2, h, h1, h2, h3⟩ := h; exact ⟨hk, n, t.pos, t.line, h, rfl, rfl, h1, k2, h2, h3⟩

theorem SM.next {W W' : World} {b m : Nat} {s : ByteArray} {k k' : Nat} {ln ln' : Bool} {T T' : Value} (h : SM W b m s k ln T) (hm : m < b) (hb : 4 ≤ b) (hg : W.grownBy W' (some b)) (hs : Scn W' b s k' ln' (.map (some m)) T') : SM W' b m s k' ln' T' :=
  ⟨hs, h.box.grown hg (fun q e => by cases e; omega), h.map.kept hg (fun e => by cases e; omega), h.glob.grown hg (fun q e => by cases e; omega), Nat.le_trans h.big hg.size⟩

theorem SM.append {W W' : World} {b m : Nat} {s : ByteArray} {k : Nat} {ln : Bool} {T : Value} {row : Option Nat} (h : SM W b m s k ln T) (hg : W.grownBy W' row) (hr : ∀ q, row = some q → b + 4 ≤ q) (hm : m < b) (hb : 4 ≤ b) : SM W' b m s k ln T :=
  ⟨h.scn.grown hg (fun e => by have := hr b e.symm; omega), h.box.grown hg (fun q e => by have := hr q e; omega), h.map.kept hg (fun e => by have := hr m e.symm; omega), h.glob.grown hg (fun q e => by have := hr q e; omega), Nat.le_trans h.big hg.size⟩
theorem grown_app {w W W' : World} {row : Option Nat} (h : w.grownBy W none) (hg : W.grownBy W' row) (hr : ∀ q, row = some q → w.heap.size ≤ q) : w.grownBy W' none :=
  ⟨hg.os.trans h.os, hg.tape.trans h.tape, hg.output.trans h.output, Nat.le_trans h.size hg.size, fun k hk hb => (hg.block k (Nat.lt_of_lt_of_le hk h.size) (fun e => by have := hr k e.symm; omega)).trans (h.block k hk hb)⟩

theorem row_slice {W : World} {B : Nat} {e : TypeId} {size : Nat} {v : Value} {n : Nat} {xs : List Value} (h : W.ownsRow B e size v n xs) : ∃ a n c, v = .slice a n c := by
  rcases h.2 with ⟨rfl, _⟩ | ⟨g, cap, cur, rfl, _⟩ <;> exact ⟨_, _, _, rfl⟩

theorem row_base {W : World} {B B' : Nat} {e : TypeId} {size : Nat} {v : Value} {n : Nat} {xs : List Value} (h : W.ownsRow B e size v n xs) (hb : B' ≤ B) : W.ownsRow B' e size v n xs := by
  refine ⟨h.1, ?_⟩
  rcases h.2 with hn | ⟨g, cap, cur, rfl, h1, rest⟩
  · exact .inl hn
  · exact .inr ⟨g, cap, cur, rfl, by omega, rest⟩

theorem grown_over {w W W' : World} (h : w.grownBy W none) (hg : W.grownBy W' (some w.heap.size)) : w.grownBy W' none :=
  ⟨hg.os.trans h.os, hg.tape.trans h.tape, hg.output.trans h.output, Nat.le_trans h.size hg.size, fun k hk hb => (hg.block k (Nat.lt_of_lt_of_le hk h.size) (fun e => by cases e; omega)).trans (h.block k hk hb)⟩

set_option maxRecDepth 100000 in
set_option maxHeartbeats 800000 in
theorem scan_chain (s : ByteArray) (w : World) (hs : s.size ≤ 20000) (hG : Glob w) (toks : List Tok) (hlen : toks.length ≤ 20000) (hch : Chain s 0 true toks) :
    Calls Tryd.prog 28 #[.string s] w fun e w' => ∃ v, e = .returned (.tuple #[v, .int .i64 0, .int .i64 0]) ∧ w'.ownsRow w.heap.size 36 4 v toks.length (tokCells toks) ∧ w.grownBy w' none := by
  have hmf : ∀ (fn : Fn) (first cap : Array Value) (w : World), (Instr.makeFunc fn first cap).run Tryd.prog w = .ok (.func fn first cap) w := fun _ _ _ _ => rfl
  have K := Lib.hid (fun W (h : GKw W) => keywordSet_any W h)
  have RD := Lib.hid (fun b W => readers_any b W)
  have hG4 := hG.size
  have g0 : w.grownBy (((w.alloc (.cells #[.slice none 0 0] 30)).alloc (.cells #[.int .i64 0] 3)).alloc (.cells #[.int .i64 0] 23)) none := ((grown_alloc w _ none).trans (grown_alloc _ _ none)).trans (grown_alloc _ _ none)
  have gk := (hG.grown g0 (fun k h => by cases h)).kw
  go_enter_defers Tryd.func28, Tryd.ntmps28
  go_wp2_with fail
  refine (K.out _ gk).mono ?_
  rintro e w1 ⟨rfl, hM, hg1⟩
  have H0 : ∀ k, k < w.heap.size + 3 → w1.heap[k]? = (((w.alloc (.cells #[.slice none 0 0] 30)).alloc (.cells #[.int .i64 0] 3)).alloc (.cells #[.int .i64 0] 23)).heap[k]? := fun k hk => hg1.block k (by simp; omega) (by simp)
  have C0 : w1.heap[w.heap.size]? = some (.cells #[.slice none 0 0] 30 (0, 0)) := by
    rw [H0 _ (by omega)]; simp only [heap_alloc_if, World.size_alloc]; rw [if_neg (by omega), if_neg (by omega)]; simp
  have C1 : w1.heap[w.heap.size + 1]? = some (.cells #[.int .i64 0] 3 (0, 0)) := by
    rw [H0 _ (by omega)]; simp only [heap_alloc_if, World.size_alloc]; rw [if_neg (by omega)]; simp
  have C2 : w1.heap[w.heap.size + 2]? = some (.cells #[.int .i64 0] 23 (0, 0)) := by
    rw [H0 _ (by omega)]; simp only [heap_alloc_if, World.size_alloc]; simp
  have gw1 : w.grownBy w1 none := g0.trans hg1
  have hs1 := hg1.size
  simp only [World.size_alloc] at hs1 hM
  have hm1 := hM.lt
  simp only [World.size_alloc]
  clear H0 hg1 g0 K gk
  have hG1 := hG.grown gw1 (fun k h => by cases h)
  go_wp2_with fail
  refine (RD.out w1.heap.size _).mono ?_
  rintro e w2 ⟨rfl, hB, hb2⟩
  simp only [World.size_alloc] at hB hb2 ⊢
  have hs2 := hb2.size
  have g2 : w1.grownBy w2 none := (grown_alloc w1 _ none).trans (grown_of_below (by simpa using hb2) none)
  have S2 : Scn w2 w1.heap.size s 0 true (.map (some (w.heap.size + 1 + 1 + 1))) (.slice none 0 0) := by
    unfold Scn
    rw [hb2.block _ (by omega)]
    simp only [heap_alloc_if, if_true]
  have M2 : SM w2 w1.heap.size (w.heap.size + 1 + 1 + 1) s (0 : Nat) true (.slice none 0 0) :=
    ⟨S2, hB, hM.kept g2 (by simp), hG1.grown g2 (fun k h => by cases h), by have := (Array.getElem?_eq_some_iff.1 hB.sy).1; omega⟩
  clear hb2 RD hB S2 hM
  obtain ⟨hk0, n0, k0, ln0, hF0, hh0⟩ := hch.blanks
  have BL := Lib.hid (fun k ln T W hk (h : SM W w1.heap.size (w.heap.size + 1 + 1 + 1) s k ln T) n k' ln' hF => blanks_any w1.heap.size (by omega) s k ln (.map (some (w.heap.size + 1 + 1 + 1))) T W (by omega) hk h.scn h.glob n k' ln' hF)
  go_wp2_with fail
  refine (BL.out 0 true _ w2 hk0 M2 n0 k0 ln0 hF0).mono ?_
  rintro e w3 ⟨rfl, h3, g3, hk3⟩
  have M3 := M2.next (by omega) (by omega) g3 h3
  have G3 : w1.grownBy w3 none := grown_over g2 g3
  clear M2 g2 g3 h3 hF0
  obtain ⟨i0, hi, hz0, hz1, hz2⟩ := info_parts (P := Tryd.prog) (e := 36) (z := .agg #[.int .i64 0, .string ⟨#[]⟩, .int .i64 0, .bool false]) (size := 4) (bytes := 40) (by kernel_rfl)
  go_wp2_with fail
  go_loopg [7] toks.length (fun g _ wr => ∃ don rest k ln T, toks = don ++ rest ∧ rest.length = g ∧ Head s k ln rest ∧ k ≤ s.size ∧ SM wr w1.heap.size (w.heap.size + 1 + 1 + 1) s k ln T ∧ w1.grownBy wr none ∧ wr.ownsRow (w1.heap.size + 4) 36 4 T don.length (tokCells don))
  case atStart => exact ⟨[], toks, k0, ln0, _, rfl, rfl, hh0, hk3, M3, G3, World.ownsRow_nil _ _ _ _⟩
  case round =>
    obtain ⟨don, rest, k, ln, T, rfl, rfl, hh, hk, hM, hg, hrow⟩ := hrel
    have hgs := hg.size
    cases rest with
    | nil =>
      have e1 : k = s.size := hh
      subst e1
      have c1 := hM.scn.c1
      obtain ⟨va, vn, vc, rfl⟩ := row_slice hrow
      have c4 := hM.scn.c4
      have i1 : ¬ (s.size : Int) < s.size := by omega
      have i2 : (s.size : Int) ≤ 20000 := by omega
      have D0 : wr.heap[w.heap.size]? = some (.cells #[.slice none 0 0] 30 (0, 0)) := (hg.block _ (by omega) (by simp)).trans C0
      have D1 : wr.heap[w.heap.size + 1]? = some (.cells #[.int .i64 0] 3 (0, 0)) := (hg.block _ (by omega) (by simp)).trans C1
      have D2 : wr.heap[w.heap.size + 2]? = some (.cells #[.int .i64 0] 23 (0, 0)) := (hg.block _ (by omega) (by simp)).trans C2
      have e0 : wr.cell? ⟨w.heap.size, 0, none⟩ = some (.slice none 0 0) := by simp [World.cell?, D0]
      have e1 : wr.cell? ⟨w.heap.size + 1, 0, none⟩ = some (.int .i64 0) := by simp [World.cell?, D1]
      have e2 : wr.cell? ⟨w.heap.size + 1 + 1, 0, none⟩ = some (.int .i64 0) := by simp [World.cell?, D2]
      have f0 : wr.frozen? ⟨w.heap.size, 0, none⟩ = false := by simp [World.frozen?, D0]
      have f1 : wr.frozen? ⟨w.heap.size + 1, 0, none⟩ = false := by simp [World.frozen?, D1]
      have f2 : wr.frozen? ⟨w.heap.size + 1 + 1, 0, none⟩ = false := by simp [World.frozen?, D2]
      have X1 : w.grownBy wr none := gw1.trans hg
      have kp : ∀ (W : World) (q i : Nat) (v : Value), q < w1.heap.size → W.ownsRow (w1.heap.size + 4) 36 4 (.slice va vn vc) don.length (tokCells don) → (W.setCell ⟨q, i, none⟩ v).ownsRow (w1.heap.size + 4) 36 4 (.slice va vn vc) don.length (tokCells don) := fun W q i v hq h =>
        h.kept (grown_set q i v) (by
          cases hv : (Value.ownBlock (.slice va vn vc)) with
          | none => exact .inl rfl
          | some j => exact .inr (fun e => by have := (h.lt j hv).1; cases e; omega))
      have gp : ∀ (W : World) (q i : Nat) (v : Value), w.heap.size ≤ q → w.grownBy W none → w.grownBy (W.setCell ⟨q, i, none⟩ v) none := fun W q i v hq h => grown_app h (grown_set q i v) (fun j e => by cases e; exact hq)
      go_wp2_with fail
      refine leaves_cons (f := 40) (args := #[.pointer (some ⟨w.heap.size, 0, none⟩), .pointer (some ⟨w.heap.size + 1, 0, none⟩), .pointer (some ⟨w.heap.size + 1 + 1, 0, none⟩)]) (by simp) (by simp [go_sem]) ?_
      refine (catch_idle _ _ _ _).mono ?_
      rintro e u' w'' ⟨rfl, rfl, rfl⟩
      simp [Leaves, settle, results, Tryd.results28, go_sem, e0, e1, e2]
      exact ⟨row_base (kp _ _ _ _ (by omega) (kp _ _ _ _ (by omega) (kp _ _ _ _ (by omega) hrow))) (by omega), gp _ _ _ _ (by omega) (gp _ _ _ _ (by omega) (gp _ _ _ _ (by omega) X1))⟩
    | cons t ts =>
      obtain ⟨rfl, rfl, hlt, k2, hR, hC⟩ := hh
      have c1 := hM.scn.c1
      have c2 := hM.scn.c2
      have f2 := hM.scn.fz 2
      have i1 : (t.pos : Int) < s.size := by omega
      have i2 : (s.size : Int) ≤ 20000 := by omega
      obtain ⟨c, hc⟩ : ∃ c, s[t.pos] = c := ⟨_, rfl⟩
      have hc' : ∀ h : t.pos < s.size, s[t.pos]'h = c := fun _ => hc
      have hM1 : ∀ n, SM ((wr.drewN n).setCell ⟨w1.heap.size, 2, none⟩ (.bool false)) w1.heap.size (w.heap.size + 1 + 1 + 1) s t.pos false T := fun n =>
        hM.next (by omega) (by omega) ((grown_drewN wr n _).trans (grown_set _ _ _)) ((hM.scn.drewN n).set2 false)
      have R := Lib.hid (fun n => hR _ w1.heap.size (w.heap.size + 1 + 1 + 1) T c (by omega) (by omega) hc' (hM1 n))
      have HM1 := Lib.hid hM1
      have HM := Lib.hid hM
      clear hR hc' hM1 hM
      go_wp2_with fail
      go_quiet (fail)
      go_wp2_with fail
      refine (R.out _).mono ?_
      rintro e w4 ⟨rfl, h4, g4⟩
      have M4 := (HM1.out nq).next (by omega) (by omega) g4 h4
      have gw4 : wr.grownBy w4 (some w1.heap.size) := ((grown_drewN wr nq _).trans (grown_set _ _ _)).trans g4
      have G4 := grown_over hg gw4
      have row4 := hrow.kept gw4 (by
        cases hv : (Value.ownBlock T) with
        | none => exact .inl rfl
        | some q => exact .inr (fun e => by have := (hrow.lt q hv).1; cases e; omega))
      have c4 := h4.c4
      have f4 := h4.fz 4
      have big4 := M4.big
      have hbl := M4.scn.lt
      clear g4 h4 R HM1 c1 c2 f2 hrow
      go_wp2_with (refine wpList_append_own _ rfl _ _ 30 rfl (w1.heap.size + 4) 36 i0 (.agg #[.int .i64 0, .string ⟨#[]⟩, .int .i64 0, .bool false]) 4 40 Tryd.underlying30 hi hz0 hz1 hz2 rfl (by decide) T don.length _ rfl (row4.alloc _) ⟨w4.heap.size, 0, none⟩ 1 1 t.cells rfl rfl ?_ ?_ ?_ ?_ ?_ ?_)
      · intro j u hj
        match j, hj with
        | 0, hj => simp [Tok.cells] at hj; subst hj; simp [Addr.add]
        | 1, hj => simp [Tok.cells] at hj; subst hj; simp [Addr.add]
        | 2, hj => simp [Tok.cells] at hj; subst hj; simp [Addr.add]
        | 3, hj => simp [Tok.cells] at hj; subst hj; simp [Addr.add]
        | (j + 4), hj => simp [Tok.cells] at hj
      · intro u hu; simp [Tok.cells] at hu; rcases hu with rfl | rfl | rfl | rfl <;> rfl
      · simp at hlen; unfold maxLen; omega
      · simp at hlen; omega
      · simp; omega
      · intro v' w5 ho5 hg5 _
        have hL := row4.lt
        have M5 := M4.append ((grown_alloc w4 _ _).trans hg5) (fun q e => (hL q e).1) (by omega) (by omega)
        have G5 : w1.grownBy w5 none := grown_app G4 ((grown_alloc w4 _ _).trans hg5) (fun q e => by have := (hL q e).1; omega)
        have hs5 := M5.big
        have c5 := M5.scn.c4
        have f5 := M5.scn.fz 4
        have M6 := M5.next (T' := v') (by omega) (by omega) (grown_set w1.heap.size 4 v') (M5.scn.set4 v')
        have G6 := grown_over G5 (grown_set w1.heap.size 4 v')
        have ho6 := ho5.kept (grown_set w1.heap.size 4 v') (by
          cases hv : (Value.ownBlock v') with
          | none => exact .inl rfl
          | some q => exact .inr (fun e => by have := (ho5.lt q hv).1; cases e; omega))
        obtain ⟨hk2, n', k', ln', hF', hh'⟩ := hC.blanks
        obtain ⟨va, vn, vc, rfl⟩ := row_slice ho5
        have B6 := Lib.hid (BL.out k2 false _ _ hk2 M6 n' k' ln' hF')
        have M6' := Lib.hid M6
        clear hg5 row4 c4 f4 hL M5 G5 M4 G4 M6 ho5 BL
        go_wp2_with fail
        refine B6.out.mono ?_
        rintro e w7 ⟨rfl, h7, g7, hk7⟩
        have M7 := M6'.out.next (by omega) (by omega) g7 h7
        have G7 := grown_over G6 g7
        have ho7 := ho6.kept g7 (by
          cases hv : (Value.ownBlock (.slice va vn vc)) with
          | none => exact .inl rfl
          | some q => exact .inr (fun e => by have := (ho6.lt q hv).1; cases e; omega))
        go_wp2_with fail
        go_roundg ts.length
        case rel => exact ⟨don ++ [t], ts, k', ln', _, by simp, rfl, hh', hk7, M7, G7, by rw [tokCells_snoc, List.length_append]; exact ho7⟩
        case measure => simp
end Go.Proofs.YtanofnhiopagaaaDoor
