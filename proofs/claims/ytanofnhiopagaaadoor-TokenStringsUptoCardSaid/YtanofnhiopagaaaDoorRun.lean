/- Contracts: run (decimal digits). -/
import Derived.Test.YtanofnhiopagaaaDoorInt2
namespace Go.Proofs.YtanofnhiopagaaaDoor
open Go.RowKit

def runL (ds : List Int) : List UInt8 := ds.map fun x => UInt8.ofNat (48 + x.toNat)

/-- The blocks of 'run' behind a row of digits: the box of 'out', what it holds. Row blocks lie from B on. -/
structure RunI (w W : World) (b B : Nat) (pre : List Int) : Prop where
  g : w.grownBy W (some b)
  o : ∃ v, W.heap[w.heap.size]? = some (.cells #[v] 46 (0, 0)) ∧ W.ownsRow B 5 1 v pre.length (u8s (runL pre))

theorem u8s_snoc (pre : List Int) (d : Nat) (hd : d < 10) : u8s (runL (pre ++ [(d : Int)])) = u8s (runL pre) ++ [.int .u8 (48 + (d : Int))] := by
  unfold u8s runL
  rw [List.map_append, List.map_append]
  simp only [List.map_cons, List.map_nil, Int.toNat_natCast, u8_of d hd]
theorem addr_block (a : Addr) (n : Nat) : (a.add n).block = a.block := by unfold Addr.add; split <;> rfl
theorem owns_kept {A C : World} {B : Nat} {v : Value} {n : Nat} {xs : List Value} (h : A.ownsRow B 5 1 v n xs) (hs : ∀ k, k < A.heap.size → B ≤ k → C.heap[k]? = A.heap[k]?) : C.ownsRow B 5 1 v n xs := by
  refine ⟨h.1, ?_⟩
  rcases h.2 with hn | ⟨g, cap, cur, hv, hb, hg, rest⟩
  · exact .inl hn
  · exact .inr ⟨g, cap, cur, hv, hb, (hs g (Array.getElem?_eq_some_iff.1 hg).1 hb).trans hg, rest⟩

set_option maxRecDepth 100000 in
set_option maxHeartbeats 400000 in
theorem run_any (b : Nat) (s : ByteArray) (k : Nat) (ln : Bool) (M T : Value) (w : World) (hs : s.size ≤ 4000000000) (hk : k ≤ s.size) (h : Scn w b s k ln M T)
    (fuel k' : Nat) (ds : List Int) (hF : digF fuel s.data.toList 10 k false = some (ds, k')) (hlen : ds.length ≤ 4000000000) :
    Calls Tryd.prog 74 #[.pointer (some ⟨b, 0, none⟩)] w fun e w' =>
      e = .returned (.string ⟨(runL ds).toArray⟩) ∧ Scn w' b s k' ln M T ∧ k' ≤ s.size ∧ w.grownBy w' (some b) := by
  have hbl := h.lt
  have D72 := Lib.hid (fun W => digits_any b 10 W)
  refine (callsIn_wide (n := 3)).1 ?_
  refine callsIn_of_wp_marks Tryd.func74 rfl trivial ?_ rfl
  refine (wpIn_wide (n := 3)).2 (wp_retOnly ?_)
  simp only [Tryd.ntmps74, List.size_toArray, List.length_cons, List.length_nil, Nat.reduceAdd, Nat.reduceSub, Array.replicate_succ, Array.replicate_zero, List.push_toArray, List.append_toArray, List.nil_append, List.cons_append]
  go_wp2_with (fail)
  refine (D72.out _).mono ?_
  rintro e W1 ⟨rfl, hbx, hbel⟩
  obtain ⟨W0, hW0⟩ : ∃ W0, (w.alloc (.cells #[.slice none 0 0] 46 (0, 0))) = W0 := ⟨_, rfl⟩
  rw [hW0] at hbx hbel
  have hz0 : W0.heap.size = w.heap.size + 1 := by rw [← hW0]; simp
  have hB0 : Below w.heap.size w W0 := by
    rw [← hW0]
    exact (Below.refl _ w).alloc (Nat.le_refl _) _
  have hB1 : Below w.heap.size w W1 := hB0.trans (hbel.mono (by omega))
  have ho0 : W0.heap[w.heap.size]? = some (.cells #[.slice none 0 0] 46 (0, 0)) := by rw [← hW0]; exact World.alloc_heap_new w _
  clear hW0
  have hz1 : w.heap.size + 2 < W1.heap.size := by
    have := (Array.getElem?_eq_some_iff.1 hbx.n).1; omega
  have hI1 : RunI w W1 b (W1.heap.size + 2) [] := ⟨grown_of_below hB1 _, _, (hbel.block _ (by omega)).trans ho0, World.ownsRow_nil _ _ _ _⟩
  have hsc : Scn W1 b s k ln M T := (hB1.block b hbl).trans h
  rw [hz0] at hbx
  clear hbel hz0 ho0 hB0
  go_wp2_with fail
  refine (wpIn_wide (n := 3)).1 ?_
  refine range_own rfl (by omega) rfl trivial in_enters (digits_in 2 b (w.heap.size + 1) (w.heap.size + 1 + 1) (by omega) (by omega) s k 10 (by omega) (by omega) ln M T hs hk fuel k' ds hF W1.heap.size) ?_ ?_ ?_ ?_ ?_ ⟨hsc, hbx⟩ (fun pre W => RunI w W b (W1.heap.size + 2) pre) ?_ ?_ hI1 ?_ ?_ ?_ ?_
  · intro A C ho k hk
    exact ho.2.2.2.2 k (by omega)
  · rintro A B C ⟨h1, h2, h3⟩ ⟨g1, g2, g3⟩
    exact ⟨g1.trans h1, g2.trans h2, g3.trans h3⟩
  · rintro A C hs
    exact ⟨hs.at (by omega), hs.at (by omega), hs.at (by omega)⟩
  · rintro A C hs ⟨h1, h2⟩
    exact ⟨(hs.at (by omega)).trans h1, ⟨(hs.at (by omega)).trans h2.s, (hs.at (by omega)).trans h2.n⟩⟩
  · rintro A C hs ⟨h1, h2⟩
    exact ⟨(hs.at (by omega)).trans h1, h2⟩
  · rintro pre A C hs hz ⟨g, v, h1, h2⟩
    exact ⟨⟨hs.1.1.trans g.os, hs.1.2.1.trans g.tape, hs.1.2.2.trans g.output, Nat.le_trans g.size hz, fun k hk hb => (hs.at (by omega)).trans (g.block k hk hb)⟩, v, (hs.at (by omega)).trans h1, owns_kept h2 fun k hk hb => hs.2.2.2 k hk (by omega) (by omega)⟩
  · rintro pre A C ⟨e1, e2, e3, e4, hs⟩ ⟨g, v, h1, h2⟩
    exact ⟨g.trans ⟨e1, e2, e3, by omega, fun k hk hb => hs k (fun e => hb (by rw [e]))⟩, v, (hs _ (by omega)).trans h1, owns_kept h2 fun k hk hb => hs k (by omega)⟩
  · exact fun x => { tmps := #[.pointer (some ⟨b, 0, none⟩), undef, .string ⟨#[]⟩, .pointer (some ⟨w.heap.size, 0, none⟩), .int .i64 x, .pointer (some ⟨b, 0, none⟩), .func (.func 79) #[] #[.pointer (some ⟨w.heap.size + 1, 0, none⟩), .pointer (some ⟨w.heap.size + 1 + 1, 0, none⟩)], .int .i64 x, undef, undef, undef, undef, undef, undef, undef, undef], defers := [] }
  · intro l x W K hK
    gi_wp2_with (rw [Oper.semAt_some _ _ _ (by intro c h; cases h)]; go_simp)
    exact hK
  · intro l pre x W hp hz hI
    obtain ⟨rest, hr⟩ := hp
    have hx := digF_range fuel _ _ _ _ _ _ hF x (by rw [hr]; simp)
    obtain ⟨d, rfl⟩ : ∃ d : Nat, x = (d : Int) := ⟨x.toNat, by omega⟩
    have i1 : (d : Int) < 10 := hx.2
    have hlp : pre.length + 1 ≤ ds.length := by rw [hr]; simp
    obtain ⟨g, v, ho, hw⟩ := hI
    obtain ⟨i0, hi, hz0, hz1', hz2⟩ := info_parts (P := Tryd.prog) (e := 5) (z := .int .u8 0) (size := 1) (bytes := 1) (by kernel_rfl)
    have co : W.cell? ⟨w.heap.size, 0, none⟩ = some v := by simp [World.cell?, ho]
    have HZ2 := Lib.hid hz
    have HG := Lib.hid g
    have HO := Lib.hid ho
    clear hz g ho hF hx hr
    gi_wp2_with (first | (refine wpListIn_append_own _ rfl _ _ 46 rfl (W1.heap.size + 2) 5 i0 (.int .u8 0) 1 1 Tryd.underlying46 hi hz0 hz1' hz2 rfl (by decide) v pre.length _ rfl (hw.alloc _) ⟨W.heap.size, 0, none⟩ 1 1 [.int .u8 (48 + (d : Int))] rfl rfl ?_ ?_ ?_ ?_ ?_ ?_) | ((rw [Oper.semAt_some _ _ _ (by intro c h; cases h)]; go_simp); try go_bits))
    · intro j u hj
      match j, hj with
      | 0, hj => simp at hj; subst hj; simp [Addr.add]
      | (j + 1), hj => simp at hj
    · intro u hu; simp at hu; subst hu; rfl
    · unfold maxLen; omega
    · omega
    · have := HZ2.out; simp; omega
    · intro v' w' hw' hg' _
      have hz := HZ2.out
      have hgg := HG.out
      have hbo : ∀ q, q < W1.heap.size + 2 → q < W.heap.size → w'.heap[q]? = W.heap[q]? := fun q h1 h2 =>
        (hg'.block q (by simp; omega) (fun e => by have := (hw.lt q e.symm).1; omega)).trans (Below.heap_alloc _ _ _ h2)
      have hgs := hgg.size
      have ho' : w'.heap[w.heap.size]? = some (.cells #[v] 46 (0, 0)) := (hbo _ (by omega) (by omega)).trans HO.out
      have co' : w'.cell? ⟨w.heap.size, 0, none⟩ = some v := by simp [World.cell?, ho']
      have fo' : w'.frozen? ⟨w.heap.size, 0, none⟩ = false := by simp [World.frozen?, ho']
      have HB := Lib.hid hbo
      have HG' := Lib.hid hg'
      have HZ := Lib.hid hz
      clear hbo hg' hz hgg hgs
      obtain ⟨gq, cap, cur, hv', hb2⟩ : ∃ gq cap cur, v' = .slice (some ⟨gq, 0, none⟩) (pre.length + 1) cap ∧ W1.heap.size + 2 ≤ gq ∧ w'.heap[gq]? = some (.cells cur 5 (0, 0)) := by
        rcases hw'.2 with ⟨_, h0⟩ | ⟨gq, cap, cur, h1, h2, h3, _⟩
        · omega
        · exact ⟨gq, cap, cur, h1, h2, h3⟩
      subst hv'
      have HW' := Lib.hid hw'
      clear hw'
      gi_wp2_with ((rw [Oper.semAt_some _ _ _ (by intro c h; cases h)]; go_simp); try go_bits)
      have hset : ∀ q, q ≠ w.heap.size → (w'.setCell ⟨w.heap.size, 0, none⟩ (.slice (some ⟨gq, 0, none⟩) (pre.length + 1) cap)).heap[q]? = w'.heap[q]? := fun q hq => Below.heap_setCell _ _ _ _ (by simpa using hq)
      have hz := HZ.out
      have hgg := HG.out
      have hgs := hgg.size
      have hs' := HG'.out.size
      have e1 : u8s (runL (pre ++ [(d : Int)])) = u8s (runL pre) ++ [.int .u8 (48 + (d : Int))] := u8s_snoc pre d (by omega)
      have e2 : (pre ++ [(d : Int)]).length = pre.length + 1 := by simp
      refine ⟨⟨⟨HG'.out.os.trans hgg.os, HG'.out.tape.trans hgg.tape, HG'.out.output.trans hgg.output, ?_, ?_⟩, .slice (some ⟨gq, 0, none⟩) (pre.length + 1) cap, ?_, ?_⟩, ⟨?_, ?_, ?_⟩, ?_, ?_⟩
      · simp at hs' ⊢; omega
      · intro q hq hne
        exact (hset q (by omega)).trans ((HB.out q (by omega) (by omega)).trans (hgg.block q hq hne))
      · simp [World.setCell, Array.getElem?_modify, ho']
      · rw [e1, e2]
        exact owns_kept HW'.out fun q _ hq => hset q (by omega)
      · exact (hset _ (by omega)).trans (HB.out _ (by omega) (by omega))
      · exact (hset _ (by omega)).trans (HB.out _ (by omega) (by omega))
      · exact (hset _ (by omega)).trans (HB.out _ (by omega) (by omega))
      · exact (hset W1.heap.size (by omega)).trans (HB.out W1.heap.size (by omega) (by omega))
      · exact (hset (W1.heap.size + 1) (by omega)).trans (HB.out (W1.heap.size + 1) (by omega) (by omega))
  · intro D W hD hI hZ hd
    obtain ⟨g, v, ho, hw⟩ := hI
    have hDl : D < W.heap.size := (Array.getElem?_eq_some_iff.1 hd).1
    have co : W.cell? ⟨w.heap.size, 0, none⟩ = some v := by simp [World.cell?, ho]
    have cv : ∀ W', (∀ q, q < W.heap.size → W'.heap[q]? = W.heap[q]?) → (convert 46 9 v).run Tryd.prog W' = .ok (.string ⟨(runL ds).toArray⟩) W' := by
      intro W' hW
      rcases hw.2 with ⟨hv, h0⟩ | ⟨gq, cap, cur, hv, h2, h3, _⟩
      · have : ds = [] := List.eq_nil_of_length_eq_zero h0
        subst this
        rw [hv, run_convert_bytes_string W' 46 9 5 none 0 0 Tryd.underlying46 Tryd.underlying5 Tryd.underlying9]
        rfl
      · subst hv
        have hcells := hw.cells (g := gq) rfl
        have := run_convert_bytes_back (P := Tryd.prog) W' 46 9 5 ⟨gq, 0, none⟩ cap (runL ds) Tryd.underlying46 Tryd.underlying5 Tryd.underlying9 (fun j hj => by
          have h := hcells j (.int .u8 ((runL ds)[j].toNat : Int)) (by simp [u8s, hj])
          rw [← h]
          refine World.cell?_of_block ?_
          rw [addr_block]
          exact hW gq (Array.getElem?_eq_some_iff.1 h3).1)
        rwa [show (runL ds).length = ds.length by simp [runL]] at this
    have CV := cv W (fun _ _ => rfl)
    have G := Lib.hid g
    have HZ := Lib.hid hZ
    have HD := Lib.hid hd
    clear g hZ hd ho hw cv hI1 hsc hbx D72
    go_wp2
    refine ⟨by simp, .inl ⟨_, _, rfl, run_takeDeferred HD.out, ?_⟩⟩
    refine ⟨_, results_tmp rfl _ _ _, ?_⟩
    have hgs := G.out.size
    refine ⟨rfl, (World.putObj_heap_other (by omega)).trans HZ.out.1, HZ.out.2, G.out.os, G.out.tape, G.out.output, ?_, ?_⟩
    · simp; omega
    · intro j hj hne
      exact (World.putObj_heap_other (by omega)).trans (G.out.block j hj hne)
end Go.Proofs.YtanofnhiopagaaaDoor
