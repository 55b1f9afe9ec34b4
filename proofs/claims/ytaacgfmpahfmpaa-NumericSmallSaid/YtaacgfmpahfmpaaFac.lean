/- factors: the map of all factors within a transform. -/
import Derived.Test.YtaacgfmpahfmpaaTwj
import Derived.Maps.OwnIn
import Derived.Maps.Views
import Derived.OwnWalk
namespace Go.Proofs.Ytaacgfmpahfmpaa
open Go.RowKit Go.Shelf Go.Maps

def slC (b o n c : Nat) : DataW Unit := .agg [.lit (.int .i64 b), .lit (.int .i64 o), .lit (.int .i64 n), .lit (.int .i64 c)]
/-- How a slice reads as an element of a map: its header. -/
def slR : Value → Option (DataW Unit × List MemPlace)
  | .slice (some ⟨b, o, none⟩) n c => some (slC b o n c, [])
  | _ => none
theorem slR_inv {v : Value} {b o n c : Nat} {ps : List MemPlace} (h : slR v = some (slC b o n c, ps)) : v = .slice (some ⟨b, o, none⟩) n c := by
  unfold slR at h
  split at h
  · simp [slC] at h
    obtain ⟨⟨h1, h2, h3, h4⟩, _⟩ := h
    have h1' := Int.ofNat.inj h1
    have h2' := Int.ofNat.inj h2
    have h3' := Int.ofNat.inj h3
    have h4' := Int.ofNat.inj h4
    subst h1' h2' h3' h4'
    rfl
  · cases h
theorem key3 : Keyed Try.prog 3 := int_keyed Try.underlying3
theorem fac_found {W : World} {m k : Nat} {D : DataW Unit} (h : W.ownsMap Try.prog 3 slR m k D) (key : Int) (hk : (Lit.int .i64 key).wf = true) (b o n c : Nat) (hat : ∀ z, D.atKey (.int .i64 key) z = slC b o n c) :
    (Instr.lookup 92 (.map (some m)) (.int .i64 key) false).run Try.prog W = .ok (.slice (some ⟨b, o, none⟩) n c) W := by
  obtain ⟨es, clock, hb, F, _, hD⟩ := h
  have hz := Try.zeroValue24 W
  rcases fit_look false key3 Try.underlying92 hz hb F (keyOf_int_mk Try.underlying3 hk) with ⟨hrun, _, ha⟩ | ⟨e0, y, _, _, hrun, hRv, ha, _⟩
  · rw [← hD] at ha
    have a1 := (ha (.map [])).symm.trans (hat (.map []))
    cases a1
  · rw [← hD] at ha
    have a1 := (ha (.map [])).symm.trans (hat (.map []))
    obtain ⟨y1, y2⟩ := y
    simp only at a1
    subst a1
    rw [slR_inv hRv] at hrun
    exact hrun

theorem own_below {W W' : World} {m k : Nat} {D : DataW Unit} (h : W.ownsMap Try.prog 3 slR m k D) (hb : Below W.heap.size W W') : W'.ownsMap Try.prog 3 slR m k D := by
  obtain ⟨es, clock, h1, F, h2, h3⟩ := h
  exact ⟨es, clock, (hb.block m (Array.getElem?_eq_some_iff.1 h1).1).trans h1, F, h2, h3⟩
theorem own_lt {W : World} {m k : Nat} {D : DataW Unit} (h : W.ownsMap Try.prog 3 slR m k D) : m < W.heap.size := by
  obtain ⟨es, clock, h1, _⟩ := h
  exact (Array.getElem?_eq_some_iff.1 h1).1
theorem own_blk {W W' : World} {m k : Nat} {D : DataW Unit} (h : W.ownsMap Try.prog 3 slR m k D) (hb : W'.heap[m]? = W.heap[m]?) : W'.ownsMap Try.prog 3 slR m k D := by
  obtain ⟨es, clock, h1, F, h2, h3⟩ := h
  exact ⟨es, clock, hb.trans h1, F, h2, h3⟩
/-- An entry of the map. -/
def Ent (lo : Nat) (W : World) (D : DataW Unit) (n : Nat) (tw : List P2) : Prop :=
  ∃ b o c, Nums W.heap.size W (.slice (some ⟨b, o, none⟩) tw.length c) tw ∧ lo < b ∧ ∀ z, D.atKey (.int .i64 n) z = slC b o tw.length c
/-- The factors as a map has them. -/
theorem fac_of {W : World} {m k lo : Nat} {D : DataW Unit} (h : W.ownsMap Try.prog 3 slR m k D) (n : Nat) (hn : (Lit.int .i64 (n : Int)).wf = true) {tw : List P2} (hE : Ent lo W D n tw) :
    Fac W.heap.size W (.map (some m)) n tw := by
  obtain ⟨b, o, c, hN, _, hat⟩ := hE
  exact ⟨_, fun W' hb => fac_found (own_below h hb) n hn b o tw.length c hat, hN⟩
theorem nums_blk {n0 m : Nat} {W W' : World} {b o n c : Nat} {xs : List P2} (h : Nums n0 W (.slice (some ⟨b, o, none⟩) n c) xs) (hm : n0 ≤ m) (hb : W'.heap[b]? = W.heap[b]?) : Nums m W' (.slice (some ⟨b, o, none⟩) n c) xs := by
  obtain ⟨b', o', c', e, h1, h2, h3, h4, h5⟩ := h
  simp only [Value.slice.injEq, Option.some.injEq, Addr.mk.injEq, and_true] at e
  obtain ⟨⟨rfl, rfl⟩, rfl, rfl⟩ := e
  exact ⟨b, o, c, rfl, by omega, h2, h3, fun j hj => (World.cell?_of_block (a := ⟨b, o + j * 2, none⟩) hb).trans (h4 j hj), fun j hj => (World.cell?_of_block (a := ⟨b, o + j * 2 + 1, none⟩) hb).trans (h5 j hj)⟩
theorem Nums.blk_lt {n0 : Nat} {W : World} {b o n c : Nat} {xs : List P2} (h : Nums n0 W (.slice (some ⟨b, o, none⟩) n c) xs) : b < n0 := by
  obtain ⟨b', o', c', e, h1, _⟩ := h
  simp only [Value.slice.injEq, Option.some.injEq, Addr.mk.injEq, and_true] at e
  obtain ⟨⟨rfl, rfl⟩, -, -⟩ := e
  exact h1
theorem own_isMap {W : World} {m k : Nat} {D : DataW Unit} (h : W.ownsMap Try.prog 3 slR m k D) : IsMap D := by
  obtain ⟨es, clock, h1, F, h2, rfl⟩ := h
  exact ⟨_, rfl⟩

/-- What factors leaves. -/
def FAp (n : Nat) (t4 t2 : List P2) (W : World) (e : Ending) (w' : World) : Prop :=
  ∃ mv, e = .returned mv ∧ (n = 4 → Fac w'.heap.size w' mv 4 t4) ∧ (n = 4 ∨ n = 2 → Fac w'.heap.size w' mv 2 t2) ∧ Below W.heap.size W w'

/-- Behind the call and the store of one round. -/
theorem ent_step {lo : Nat} {wr w1 w2 : World} {m k n : Nat} {D : DataW Unit} {tw : List P2} {b o c : Nat} (hmlo : m = lo) (hown : wr.ownsMap Try.prog 3 slR m k D) (hb1 : Below wr.heap.size wr w1)
    (hN : Nums w1.heap.size w1 (.slice (some ⟨b, o, none⟩) tw.length c) tw) (hF : wr.heap.size ≤ b) (hk : WideAt.IsKeyLit (.int .i64 (n : Int))) (hg : w1.grownBy w2 (some m)) :
    Ent lo w2 (D.put (.int .i64 n) (slC b o tw.length c)) n tw ∧ (∀ n' tw', n' ≠ n → Ent lo wr D n' tw' → Ent lo w2 (D.put (.int .i64 n) (slC b o tw.length c)) n' tw') := by
  subst hmlo
  have hlt := own_lt hown
  have hb := hN.blk_lt
  refine ⟨⟨b, o, c, nums_blk hN hg.size (hg.block b hb (fun e => by cases e; omega)), by omega, fun z => atKey_put_same (own_isMap hown) hk _ _⟩, ?_⟩
  rintro n' tw' hne ⟨b', o', c', hN', hlo, hat⟩
  have hb' := hN'.blk_lt
  refine ⟨b', o', c', nums_blk hN' (by have := hb1.size; have := hg.size; omega) ((hg.block b' (by have := hb1.size; omega) (fun e => by cases e; omega)).trans (hb1.block b' hb')), hlo, fun z => ?_⟩
  rw [atKey_put_other (by intro e; apply hne; have := Lit.int.inj e; omega)]
  exact hat z

set_option maxRecDepth 20000 in
set_option maxHeartbeats 2000000 in
theorem fac_any (n : Nat) (hn : sml n) (t4 t2 : List P2) (T4 : ∀ W, Calls Try.prog 32 #[.int .i64 4] W (TWp W t4)) (T2 : ∀ W, Calls Try.prog 32 #[.int .i64 2] W (TWp W t2)) (w : World) :
    Calls Try.prog 60 #[.int .i64 n] w (FAp n t4 t2 w) := by
  have hmm := @run_makeMap Try.prog
  have h0 : (w.alloc (.map #[] 0)).ownsMap Try.prog 3 slR w.heap.size 0 (.map []) := World.ownsMap_made _ _ _ _
  have b0 : Below w.heap.size w (w.alloc (.map #[] 0)) := (Below.refl _ w).alloc (Nat.le_refl _) _
  replace T4 := Lib.hid T4
  replace T2 := Lib.hid T2
  go_enter Try.func60, Try.ntmps60
  go_wp2_with fail
  generalize w.alloc (.map #[] 0) = W0 at *
  clear hmm
  go_loopw [0] (fun i wr => ∃ j : Nat, i = .int .i64 (j : Int) ∧ sml j ∧ j ≤ n ∧ Below w.heap.size w wr ∧ ∃ k D, k + j ≤ n + k ∧ k ≤ 4 - j ∧ wr.ownsMap Try.prog 3 slR w.heap.size k D ∧
      (n = 4 → j < 4 → Ent w.heap.size wr D 4 t4) ∧ (n = 4 ∨ n = 2 → j < 2 → Ent w.heap.size wr D 2 t2))
    (fun i _ => (intOf i).toNat)
  case atStart => exact ⟨n, rfl, hn, Nat.le_refl _, b0, 0, _, by omega, by omega, h0, fun _ h => by omega, fun _ h => by omega⟩
  case round =>
    obtain ⟨j, rfl, hj, hjn, hb, k, D, hkj, hk, hD, hA, hB⟩ := hrel
    rcases hj with rfl | rfl | rfl
    · clear T4 T2
      go_wp2_with fail
      go_ret
      exact ⟨_, rfl, fun h => fac_of hD 4 (by decide) (hA h (by omega)), fun h => fac_of hD 2 (by decide) (hB h (by omega)), hb⟩
    · go_wp2_with (first
        | (go_at_call 32; (with_reducible refine (T2.out _).mono ?_); rintro e w1 ⟨v, rfl, hN, hF, hb1⟩; obtain ⟨b2, o2, c2, rfl, _⟩ := id hN; have hFF := hF b2 rfl; have hD1 := own_below hD hb1)
        | (refine wpList_mapUpdate_own _ rfl (.tmp 10) (.tmp 11) (.tmp 14) 92 rfl 3 24 key3 Try.underlying92 slR w.heap.size k D rfl (by assumption) (by unfold maxLen; omega) (.int .i64 2) (.slice (some ⟨b2, o2, none⟩) t2.length c2) (.int .i64 2) rfl rfl (keyOf_int_mk Try.underlying3 (by decide)) (slC b2 o2 t2.length c2) [] rfl ?_; intro w2 hown2 hg2))
      obtain ⟨E1, E2⟩ := ent_step (n := 2) rfl hD hb1 hN hFF (by trivial) hg2
      go_roundw
      case rel => exact ⟨1, by simp, .inl rfl, by omega, ((hb.trans (hb1.mono hb.size)).grown hg2 (by have := hb.size; have := hb1.size; omega) (fun _ e => by cases e; exact Nat.le_refl _)), k + 1, _, by omega, by omega, hown2, fun h _ => E2 4 t4 (by omega) (hA h (by omega)), fun _ _ => E1⟩
      case measure => simp [intOf]
    · have hn4 : n = 4 := by rcases hn with rfl | rfl | rfl <;> omega
      go_wp2_with (first
        | (go_at_call 32; (with_reducible refine (T4.out _).mono ?_); rintro e w1 ⟨v, rfl, hN, hF, hb1⟩; obtain ⟨b2, o2, c2, rfl, _⟩ := id hN; have hFF := hF b2 rfl; have hD1 := own_below hD hb1)
        | (refine wpList_mapUpdate_own _ rfl (.tmp 10) (.tmp 11) (.tmp 14) 92 rfl 3 24 key3 Try.underlying92 slR w.heap.size k D rfl (by assumption) (by unfold maxLen; omega) (.int .i64 4) (.slice (some ⟨b2, o2, none⟩) t4.length c2) (.int .i64 4) rfl rfl (keyOf_int_mk Try.underlying3 (by decide)) (slC b2 o2 t4.length c2) [] rfl ?_; intro w2 hown2 hg2))
      obtain ⟨E1, E2⟩ := ent_step (n := 4) rfl hD hb1 hN hFF (by trivial) hg2
      go_roundw
      case rel => exact ⟨2, by simp, .inr (.inl rfl), by omega, ((hb.trans (hb1.mono hb.size)).grown hg2 (by have := hb.size; have := hb1.size; omega) (fun _ e => by cases e; exact Nat.le_refl _)), k + 1, _, by omega, by omega, hown2, fun _ _ => E1, fun _ h => by omega⟩
      case measure => simp [intOf]
end Go.Proofs.Ytaacgfmpahfmpaa
