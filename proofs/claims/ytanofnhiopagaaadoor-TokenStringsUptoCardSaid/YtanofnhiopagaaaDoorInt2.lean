/- Contracts: integer (numbers below 2^64). -/
import Derived.Test.YtanofnhiopagaaaDoorInt
namespace Go.Proofs.YtanofnhiopagaaaDoor
open Go.RowKit

/-- An operation in a round of a loop over a function: as outside of it. -/

theorem valD_snoc (base : Nat) : ∀ (pre : List Int) (x : Int) (a : Nat), valD base (pre ++ [x]) a = valD base pre a * base + x.toNat
  | [], _, _ => rfl
  | d :: pre, x, a => by simp only [List.cons_append, valD]; exact valD_snoc base pre x _
theorem valD_le (base : Nat) (hb : 1 ≤ base) : ∀ (ds : List Int) (a : Nat), a ≤ valD base ds a
  | [], a => Nat.le_refl a
  | d :: ds, a => by
    refine Nat.le_trans ?_ (valD_le base hb ds _)
    have : a * 1 ≤ a * base := Nat.mul_le_mul_left a hb
    omega
theorem valD_append (base : Nat) : ∀ (pre rest : List Int) (a : Nat), valD base (pre ++ rest) a = valD base rest (valD base pre a)
  | [], _, _ => rfl
  | d :: pre, rest, a => by simp only [List.cons_append, valD]; exact valD_append base pre rest _
theorem digF_range : ∀ (fuel : Nat) (l : List UInt8) (base : Int) (k : Nat) (bw : Bool) (ds : List Int) (k' : Nat), digF fuel l base k bw = some (ds, k') → ∀ x ∈ ds, 0 ≤ x ∧ x < base
  | 0, _, _, _, _, _, _, h => by simp [digF] at h
  | n + 1, l, base, k, bw, ds, k', h => by
    unfold digF at h
    split at h
    · rename_i hd
      split at h
      · rename_i ds' k2 hr
        simp only [Option.some.injEq, Prod.mk.injEq] at h
        obtain ⟨rfl, rfl⟩ := h
        intro x hx
        rcases List.mem_cons.1 hx with rfl | hx
        · have := byteV_range l k
          exact ⟨(digitV_range _ this.1 this.2).1, hd⟩
        · exact digF_range n l base (k + 1) true ds' k2 hr x hx
      · cases h
    · split at h
      · exact digF_range n l base (k + 1) false ds k' h
      · simp only [Option.some.injEq, Prod.mk.injEq] at h
        obtain ⟨rfl, rfl⟩ := h
        intro x hx; cases hx

/-- The blocks of 'integer' behind a row of digits. -/
structure IntI (w W : World) (b base : Nat) (pre : List Int) : Prop where
  g : w.grownBy W (some b)
  hb : W.heap[w.heap.size]? = some (.cells #[.int .i64 base] 3 (0, 0))
  hn : W.heap[w.heap.size + 1]? = some (.cells #[.int .u64 0, .int .u64 (valD base pre 0 : Nat)] 85 (0, 0))
  hm : W.heap[w.heap.size + 2]? = some (.cells #[.bool (!pre.isEmpty)] 4 (0, 0))
  hf : W.heap[w.heap.size + 3]? = some (.cells #[.bool true] 4 (0, 0))

/-- An end that is a return alone. -/
def retOnly (Q : Exit → Act → World → Prop) : Exit → Act → World → Prop
  | .ret, a, w => Q .ret a w
  | _, _, _ => False
theorem wp_retOnly {P : Program} {c : Code} {Q : Exit → Act → World → Prop} {a : Act} {w : World} (h : c.wp P (retOnly Q) a w) : c.wp P Q a w :=
  Code.wp_mono (fun e a w q => by cases e <;> first | exact q | exact q.elim) h

theorem in_enters (args : Array Value) (w : World) : (callFunc 79 args).run Tryd.prog w = .ok (.enter 79 args) w := by
  exact (enters_of Tryd.func79 (by kernel_rfl) rfl : Enters Tryd.prog 79) args w
theorem heap_alloc_if (w : World) (o : Obj) (k : Nat) : (w.alloc o).heap[k]? = if k = w.heap.size then some o else w.heap[k]? := by
  by_cases h : k = w.heap.size
  · subst h; rw [if_pos rfl]; exact World.alloc_heap_new w o
  · rw [if_neg h]
    rcases Nat.lt_or_ge k w.heap.size with h2 | h2
    · exact Below.heap_alloc _ _ _ h2
    · rw [Array.getElem?_eq_none h2, Array.getElem?_eq_none (by simp; omega)]
theorem intI0 (w : World) (b base : Nat) : IntI w ((((w.alloc (.cells #[.int .i64 base] 3 (0, 0))).alloc (.cells #[.int .u64 0, .int .u64 0] 85 (0, 0))).alloc (.cells #[.bool false] 4 (0, 0))).alloc (.cells #[.bool true] 4 (0, 0))) b base [] := by
  refine ⟨⟨rfl, rfl, rfl, by simp; omega, fun k hk _ => ?_⟩, ?_, ?_, ?_, ?_⟩
  all_goals
    simp only [heap_alloc_if, World.size_alloc]
    repeat' split
  all_goals (first | rfl | omega | (exfalso; simp_all))
set_option maxRecDepth 100000 in
set_option maxHeartbeats 400000 in
theorem integer_small (b : Nat) (s : ByteArray) (k base : Nat) (hb0 : 1 ≤ base) (hb1 : base ≤ 16) (ln : Bool) (M T : Value) (w : World) (hs : s.size ≤ 4000000000) (hk : k ≤ s.size) (h : Scn w b s k ln M T)
    (fuel k' : Nat) (ds : List Int) (hF : digF fuel s.data.toList base k false = some (ds, k')) (hv : valD base ds 0 < 18446744073709551616) :
    Calls Tryd.prog 62 #[.pointer (some ⟨b, 0, none⟩), .int .i64 base] w fun e w' =>
      e = .returned (.tuple #[.string ⟨(decL 40 (valD base ds 0) []).toArray⟩, .bool (!ds.isEmpty)]) ∧ Scn w' b s k' ln M T ∧ k' ≤ s.size ∧ w.grownBy w' (some b) := by
  have hbl := h.lt
  have D72 := Lib.hid (fun W => digits_any b base W)
  refine (callsIn_wide (n := 3)).1 ?_
  refine callsIn_of_wp_marks Tryd.func62 rfl trivial ?_ rfl
  refine (wpIn_wide (n := 3)).2 (wp_retOnly ?_)
  simp only [Tryd.ntmps62, List.size_toArray, List.length_cons, List.length_nil, Nat.reduceAdd, Nat.reduceSub, Array.replicate_succ, Array.replicate_zero, List.push_toArray, List.append_toArray, List.nil_append, List.cons_append]
  go_wp2_with (fail)
  refine (D72.out _).mono ?_
  rintro e W1 ⟨rfl, hbx, hbel⟩
  obtain ⟨W0, hW0⟩ : ∃ W0, ((((w.alloc (.cells #[.int .i64 base] 3 (0, 0))).alloc (.cells #[.int .u64 0, .int .u64 0] 85 (0, 0))).alloc (.cells #[.bool false] 4 (0, 0))).alloc (.cells #[.bool true] 4 (0, 0))) = W0 := ⟨_, rfl⟩
  rw [hW0] at hbx hbel
  have hI0 : IntI w W0 b base [] := hW0 ▸ intI0 w b base
  have hz0 : W0.heap.size = w.heap.size + 4 := by rw [← hW0]; simp
  have hB0 : Below w.heap.size w W0 := by
    rw [← hW0]
    exact ((((Below.refl _ w).alloc (Nat.le_refl _) _).alloc (by simp) _).alloc (by simp; omega) _).alloc (by simp; omega) _
  have hB1 : Below w.heap.size w W1 := hB0.trans (hbel.mono (by omega))
  clear hW0
  have hI1 : IntI w W1 b base [] := ⟨hI0.g.trans (grown_of_below hbel _), (hbel.block _ (by omega)).trans hI0.hb, (hbel.block _ (by omega)).trans hI0.hn, (hbel.block _ (by omega)).trans hI0.hm, (hbel.block _ (by omega)).trans hI0.hf⟩
  have hsc : Scn W1 b s k ln M T := (hB1.block b hbl).trans h
  have hz1 : w.heap.size + 5 < W1.heap.size := by
    have := (Array.getElem?_eq_some_iff.1 hbx.n).1; omega
  rw [hz0] at hbx
  clear hbel hI0 hz0
  go_wp2_with fail
  refine (wpIn_wide (n := 3)).1 ?_
  refine range_own rfl (by omega) rfl trivial in_enters (digits_in 2 b (w.heap.size + 4) (w.heap.size + 4 + 1) (by omega) (by omega) s k base (by omega) (by omega) ln M T hs hk fuel k' ds hF W1.heap.size) ?_ ?_ ?_ ?_ ?_ ⟨hsc, hbx⟩ (fun pre W => IntI w W b base pre) ?_ ?_ hI1 ?_ ?_ ?_ ?_
  · intro A C ho k hk
    exact ho.2.2.2.2 k (by omega)
  · rintro A B C ⟨h1, h2, h3⟩ ⟨g1, g2, g3⟩
    exact ⟨g1.trans h1, g2.trans h2, g3.trans h3⟩
  · rintro A C hs
    exact ⟨hs.at (by omega), hs.at (by omega), hs.at (by omega)⟩
  · rintro A C hs ⟨h1, h2⟩
    exact ⟨(hs.at (by omega)).trans h1, ⟨(hs.at (by omega)).trans h2.s, (hs.at (by omega)).trans h2.n⟩⟩
  · rintro A C hs ⟨h1, h2⟩
    exact ⟨(hs.at (by omega)).trans h1, h2⟩
  · rintro pre A C hs hz ⟨g, h1, h2, h3, h4⟩
    exact ⟨⟨hs.1.1.trans g.os, hs.1.2.1.trans g.tape, hs.1.2.2.trans g.output, Nat.le_trans g.size hz, fun k hk hb => (hs.at (by omega)).trans (g.block k hk hb)⟩, (hs.at (by omega)).trans h1, (hs.at (by omega)).trans h2, (hs.at (by omega)).trans h3, (hs.at (by omega)).trans h4⟩
  · rintro pre A C ⟨e1, e2, e3, e4, hs⟩ ⟨g, h1, h2, h3, h4⟩
    exact ⟨g.trans ⟨e1, e2, e3, by omega, fun k hk hb => hs k (fun e => hb (by rw [e]))⟩, (hs _ (by omega)).trans h1, (hs _ (by omega)).trans h2, (hs _ (by omega)).trans h3, (hs _ (by omega)).trans h4⟩
  · exact fun x => { tmps := #[.pointer (some ⟨b, 0, none⟩), .int .i64 base, undef, .pointer (some ⟨w.heap.size, 0, none⟩), .string ⟨#[]⟩, .bool false, .pointer (some ⟨w.heap.size + 1, 0, none⟩), .pointer (some ⟨w.heap.size + 1 + 1, 0, none⟩), .pointer (some ⟨w.heap.size + 1 + 1 + 1, 0, none⟩), .int .i64 x, .pointer (some ⟨b, 0, none⟩), .int .i64 base, .func (.func 79) #[] #[.pointer (some ⟨w.heap.size + 1 + 1 + 1 + 1, 0, none⟩), .pointer (some ⟨w.heap.size + 1 + 1 + 1 + 1 + 1, 0, none⟩)], .int .i64 x, undef, undef, undef, undef, undef, undef, undef, undef, undef, undef, undef, undef], defers := [] }
  · intro l x W K hK
    gi_wp2_with (rw [Oper.semAt_some _ _ _ (by intro c h; cases h)]; go_simp)
    exact hK
  · intro l pre x W hp hz hI
    obtain ⟨rest, hr⟩ := hp
    have hx := digF_range fuel _ _ _ _ _ _ hF x (by rw [hr]; simp)
    obtain ⟨d, rfl⟩ : ∃ d : Nat, x = (d : Int) := ⟨x.toNat, by omega⟩
    have hval : valD base pre 0 * base + d < 18446744073709551616 := by
      have h1 := valD_le base hb0 rest (valD base (pre ++ [(d : Int)]) 0)
      rw [← valD_append, List.append_assoc, List.singleton_append, ← hr] at h1
      have h2 := valD_snoc base pre (d : Int) 0
      simp only [Int.toNat_natCast] at h2
      omega
    have hsn := valD_snoc base pre (d : Int) 0
    simp only [Int.toNat_natCast] at hsn
    have P73 := Lib.hid (fun (W' : World) (h : W'.heap[w.heap.size + 1]? = some (.cells #[.int .u64 0, .int .u64 (valD base pre 0 : Nat)] 85 (0, 0))) => push_small (w.heap.size + 1) (valD base pre 0) base d W' hb1 (by omega) hval hb0 h)
    have cb : W.cell? ⟨w.heap.size, 0, none⟩ = some (.int .i64 base) := by simp [World.cell?, hI.hb]
    have cm : W.cell? ⟨w.heap.size + 1 + 1, 0, none⟩ = some (.bool (!pre.isEmpty)) := by simp [World.cell?, hI.hm]
    have fm : W.frozen? ⟨w.heap.size + 1 + 1, 0, none⟩ = false := by simp [World.frozen?, hI.hm]
    have cf : W.cell? ⟨w.heap.size + 1 + 1 + 1, 0, none⟩ = some (.bool true) := by simp [World.cell?, hI.hf]
    have ff : W.frozen? ⟨w.heap.size + 1 + 1 + 1, 0, none⟩ = false := by simp [World.frozen?, hI.hf]
    have HI := Lib.hid hI
    have hzW : w.heap.size + 5 < W.heap.size := by omega
    have HZ2 := Lib.hid hz
    clear hz
    gi_wp2_with (rw [Oper.semAt_some _ _ _ (by intro c h; cases h)]; go_simp)
    refine ⟨trivial, (CallsIn.inRound l (in_wide rfl (P73.out _ ?_))).mono ?_⟩
    · rw [Below.heap_setCell _ _ _ _ (by simp)]; exact HI.out.hn
    rintro e W3 ⟨rfl, hn3, hg3⟩
    have hk3 : ∀ k, k < W.heap.size → k ≠ w.heap.size + 1 → k ≠ w.heap.size + 2 → W3.heap[k]? = W.heap[k]? := fun k h1 h2 h3 =>
      (hg3.block k (by simpa using h1) (fun e => h2 (by cases e; rfl))).trans (Below.heap_setCell _ _ _ _ (by simpa using h3))
    have hm3 : W3.heap[w.heap.size + 2]? = some (.cells #[.bool true] 4 (0, 0)) := by
      refine (hg3.block _ (by simp; omega) (by simp)).trans ?_
      simp [World.setCell, Array.getElem?_modify, HI.out.hm]
    have hf3 : W3.heap[w.heap.size + 3]? = some (.cells #[.bool true] 4 (0, 0)) := (hk3 _ (by omega) (by omega) (by omega)).trans HI.out.hf
    have hb3 : W3.heap[w.heap.size]? = some (.cells #[.int .i64 base] 3 (0, 0)) := (hk3 _ (by omega) (by omega) (by omega)).trans HI.out.hb
    have cf3 : W3.cell? ⟨w.heap.size + 1 + 1 + 1, 0, none⟩ = some (.bool true) := by simp [World.cell?, hf3]
    have ff3 : W3.frozen? ⟨w.heap.size + 1 + 1 + 1, 0, none⟩ = false := by simp [World.frozen?, hf3]
    have HK3 := Lib.hid hk3
    clear hk3
    gi_wp2_with (rw [Oper.semAt_some _ _ _ (by intro c h; cases h)]; go_simp)
    have hz := HZ2.out
    have hset : ∀ k, k ≠ w.heap.size + 3 → (W3.setCell ⟨w.heap.size + 1 + 1 + 1, 0, none⟩ (.bool true)).heap[k]? = W3.heap[k]? := fun k hk => Below.heap_setCell _ _ _ _ (by simpa using hk)
    have hgs := HI.out.g.size
    have hs3 := hg3.size
    refine ⟨⟨⟨hg3.os.trans HI.out.g.os, hg3.tape.trans HI.out.g.tape, hg3.output.trans HI.out.g.output, ?_, ?_⟩, (hset _ (by omega)).trans hb3, (hset _ (by omega)).trans (by rw [hsn]; exact hn3), ?_, ?_⟩, ⟨?_, ?_, ?_⟩, ?_⟩
    · simp at hs3 ⊢; omega
    · intro k hk hne
      exact (hset k (by omega)).trans ((HK3.out k (by omega) (by omega) (by omega)).trans (HI.out.g.block k hk hne))
    · refine (hset _ (by omega)).trans ?_
      rw [hm3]; simp
    · simp [World.setCell, Array.getElem?_modify, hf3]
    · exact (hset _ (by omega)).trans (HK3.out _ (by omega) (by omega) (by omega))
    · exact (hset _ (by omega)).trans (HK3.out _ (by omega) (by omega) (by omega))
    · exact (hset _ (by omega)).trans (HK3.out _ (by omega) (by omega) (by omega))
    · exact ⟨(hset W1.heap.size (by omega)).trans (HK3.out W1.heap.size (by omega) (by omega) (by omega)), (hset (W1.heap.size + 1) (by omega)).trans (HK3.out (W1.heap.size + 1) (by omega) (by omega) (by omega))⟩
  · intro D W hD hI hZ hd
    have D67 := Lib.hid (fun W => decimal_small (valD base ds 0) W hv)
    have hDl : D < W.heap.size := (Array.getElem?_eq_some_iff.1 hd).1
    have HI := Lib.hid hI
    have HZ := Lib.hid hZ
    have HD := Lib.hid hd
    have c0 : W.cell? ⟨w.heap.size + 1, 0, none⟩ = some (.int .u64 0) := by simp [World.cell?, hI.hn]
    have c1 : W.cell? ⟨w.heap.size + 1, 1, none⟩ = some (.int .u64 (valD base ds 0 : Nat)) := by simp [World.cell?, hI.hn]
    have cm : W.cell? ⟨w.heap.size + 1 + 1, 0, none⟩ = some (.bool (!ds.isEmpty)) := by simp [World.cell?, hI.hm]
    have cf : W.cell? ⟨w.heap.size + 1 + 1 + 1, 0, none⟩ = some (.bool true) := by simp [World.cell?, hI.hf]
    clear hI hZ hd hI1 hsc hbx D72
    cases hds : !ds.isEmpty with
    | true =>
      rw [hds] at cm
      go_wp2
      go_region_with (go_at_call 67; refine (D67.out _).mono ?_; rintro e w' ⟨rfl, hb⟩; have cm' := (hb.cell (p := ⟨w.heap.size + 1 + 1, 0, none⟩) (by simp; omega)).trans cm; have cf' := (hb.cell (p := ⟨w.heap.size + 1 + 1 + 1, 0, none⟩) (by simp; omega)).trans cf)
      all_goals
        go_wp2
        refine ⟨by simp, .inl ⟨_, _, rfl, run_takeDeferred ((hb.block D (by simpa using hDl)).trans HD.out), ?_⟩⟩
        refine ⟨_, results_tmp2 rfl _ _ _, ?_⟩
        have hgs := HI.out.g.size
        have hbs := hb.size
        refine ⟨by rw [hds]; rfl, (World.putObj_heap_other (by omega)).trans ((hb.block b (by simp; omega)).trans HZ.out.1), HZ.out.2, hb.os.trans HI.out.g.os, hb.tape.trans HI.out.g.tape, hb.output.trans HI.out.g.output, ?_, ?_⟩
        · simp at hbs ⊢; omega
        · intro j hj hne
          exact (World.putObj_heap_other (by omega)).trans ((hb.block j (by simp; omega)).trans (HI.out.g.block j hj hne))
    | false =>
      rw [hds] at cm
      go_wp2
      go_region_with (go_at_call 67; refine (D67.out _).mono ?_; rintro e w' ⟨rfl, hb⟩; have cm' := (hb.cell (p := ⟨w.heap.size + 1 + 1, 0, none⟩) (by simp; omega)).trans cm)
      all_goals
        go_wp2
        refine ⟨by simp, .inl ⟨_, _, rfl, run_takeDeferred ((hb.block D (by simpa using hDl)).trans HD.out), ?_⟩⟩
        refine ⟨_, results_tmp2 rfl _ _ _, ?_⟩
        have hgs := HI.out.g.size
        have hbs := hb.size
        refine ⟨by rw [hds]; rfl, (World.putObj_heap_other (by omega)).trans ((hb.block b (by simp; omega)).trans HZ.out.1), HZ.out.2, hb.os.trans HI.out.g.os, hb.tape.trans HI.out.g.tape, hb.output.trans HI.out.g.output, ?_, ?_⟩
        · simp at hbs ⊢; omega
        · intro j hj hne
          exact (World.putObj_heap_other (by omega)).trans ((hb.block j (by simp; omega)).trans (HI.out.g.block j hj hne))
end Go.Proofs.YtanofnhiopagaaaDoor
