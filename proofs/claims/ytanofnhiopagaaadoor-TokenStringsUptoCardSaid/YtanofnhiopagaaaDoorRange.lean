/- A loop over an iterator that writes memory of its own between two rounds, every round of which says 'go on'. -/
import Derived.RangeFuncIn
import Derived.RangeFuncRecord
import Derived.RangeFuncSeq
import Derived.WalkKit
import Derived.Test.YtanofnhiopagaaaDoorMem
namespace Go.Proofs.YtanofnhiopagaaaDoor
open Go.RowKit
variable {F : Fence} {n : Nat} {P : Program}

/-- But for two blocks all lies as it lay. -/
def SameTo (B : Nat) (W W' : World) : Prop := (W'.os = W.os ∧ W'.tape = W.tape ∧ W'.output = W.output) ∧ B ≤ W.heap.size ∧ W.heap.size ≤ W'.heap.size ∧ ∀ k, k < W.heap.size → k ≠ B → k ≠ B + 1 → W'.heap[k]? = W.heap[k]?
theorem SameTo.put {B : Nat} (W : World) (o : Obj) (h : B ≤ W.heap.size) : SameTo B W (W.putObj (B + 1) o) := ⟨⟨rfl, rfl, rfl⟩, h, by simp, fun _ _ _ hk => World.putObj_heap_other hk⟩
theorem SameTo.at {B k : Nat} {W W' : World} (h : SameTo B W W') (hk : k < B) : W'.heap[k]? = W.heap[k]? := h.2.2.2 k (by have := h.2.1; omega) (by omega) (by omega)

/-- What the iterator is: at each invariant J that its own steps leave alone, and rounds that hand J on and keep what it reads, it comes to its end with all of ds handed over. Own: its own step on the world. Kp: what a round must keep. Z0, Z: what it finds, and leaves, of its own. -/
def Iter (F : Fence) (n : Nat) (P : Program) (gf : Nat) (lb : Array Value) (ds : List Int) (B : Nat) (Own : World → World → Prop) (Kp : World → World → Prop) (Z0 Z : World → Prop) : Prop :=
  ∀ (l : Nat) (J : List Int → World → Prop) (W : World), B ≤ l → (∀ pre A C, J pre A → Own A C → J pre C) →
    (∀ pre x W1, (∃ rest, ds = pre ++ x :: rest) → J pre W1 → YieldAt F (n - 1) P l #[.int .i64 x] W1 fun e W' => e = .returned (.bool true) ∧ J (pre ++ [x]) W' ∧ Kp W1 W') →
    J [] W → Z0 W →
    CallsIn F n P gf (#[.func (.yield l) #[] #[]] ++ lb) W fun e W' => (∃ v, e = .returned v) ∧ J ds W' ∧ Z W'

theorem range_own {g : Operand} {p : Tmp} {assign body : Code} {Q : Exit → Act → World → Prop} {a : Act} {w : World}
    (hro : F.round = none) (h1 : 1 ≤ n) {gf : Nat} {lb : Array Value} (hg : a.eval g = .func (.func gf) #[] lb) (hFg : F.fn gf) (eg : ∀ args w, (callFunc gf args).run P w = .ok (.enter gf args) w)
    {ds : List Int} {Own Kp : World → World → Prop} {Z0 Z : World → Prop} (hseq : Iter F (n - 1) P gf lb ds w.heap.size Own Kp Z0 Z)
    (hOwn : ∀ A C, Own A C → ∀ k, w.heap.size ≤ k → C.heap[k]? = A.heap[k]?)
    (hKt : ∀ {A B C : World}, Kp A B → Kp B C → Kp A C) (hKb : ∀ A C, SameTo w.heap.size A C → Kp A C)
    (hZ0 : ∀ A C, SameTo w.heap.size A C → Z0 A → Z0 C) (hZ : ∀ A C, SameTo w.heap.size A C → Z A → Z C) (z0 : Z0 w)
    (I : List Int → World → Prop) (hI : ∀ pre A C, SameTo w.heap.size A C → A.heap.size ≤ C.heap.size → I pre A → I pre C) (hIo : ∀ pre A C, Own A C → I pre A → I pre C) (h0 : I [] w) (a₁ : Int → Act)
    (hassign : ∀ (l : Nat) (x : Int) (W : World) (K : Act → World → Prop), K (a₁ x) W →
      assign.wpIn (F.inRound l) (n - 1 - 1) P (Exit.then K (fun _ _ _ => False)) { tmps := a.tmps.setIfInBounds p (.int .i64 x), defers := [] } W)
    (hbody : ∀ (l : Nat) (pre : List Int) (x : Int) (W : World), (∃ rest, ds = pre ++ x :: rest) → w.heap.size + 1 < W.heap.size → I pre W → body.wpIn (F.inRound l) (n - 1 - 1) P
      (fun e _ W' => e = .normal ∧ I (pre ++ [x]) W' ∧ Kp W W' ∧ W'.heap[w.heap.size]? = W.heap[w.heap.size]? ∧ W'.heap[w.heap.size + 1]? = W.heap[w.heap.size + 1]?) (a₁ x) W)
    (hdone : ∀ (D : Nat) (W : World), w.heap.size ≤ D → I ds W → Z W → W.heap[D]? = some (.deferred (some [])) → Q .normal { a with defers := { target := .collected D, args := #[] } :: a.defers } W) :
    (Code.rangeFunc g #[p] assign body).wpIn F n P Q a w := by
  unfold Iter at hseq
  refine wpIn_rangeFunc ?_
  intro fn hfn
  rw [hro]
  obtain ⟨rec, hrec⟩ : ∃ rec : LoopState → Option Code → Loop, rec = fun st pe => { state := st, pending := pe, fn, tmps := a.tmps, params := #[p], assign, body, defers := w.heap.size } := ⟨_, rfl⟩
  obtain ⟨W1, hW1⟩ : ∃ W1, (w.alloc (.deferred (some []))).alloc (.loop (rec .ready none)) = W1 := ⟨_, rfl⟩
  have hsz : W1.heap.size = w.heap.size + 2 := by rw [← hW1]; simp
  have hL1 : W1.heap[w.heap.size + 1]? = some (.loop (rec .ready none)) := by
    rw [← hW1]; have := World.alloc_heap_new (w.alloc (.deferred (some []))) (.loop (rec .ready none)); rwa [World.size_alloc] at this
  have hK1 : W1.heap[w.heap.size]? = some (.deferred (some [])) := by
    rw [← hW1]; exact (Below.heap_alloc _ _ _ (by simp)).trans (World.alloc_heap_new w _)
  have hs1 : SameTo w.heap.size w W1 := ⟨by rw [← hW1]; exact ⟨rfl, rfl, rfl⟩, Nat.le_refl _, by omega, fun k hk _ _ => by rw [← hW1]; exact (Below.heap_alloc _ _ _ (by simp; omega)).trans (Below.heap_alloc _ _ _ hk)⟩
  refine ⟨w.heap.size + 1, [{ target := .collected w.heap.size, args := #[] }], W1, { target := .fn (.func gf) lb, args := #[.func (.yield (w.heap.size + 1)) #[] #[]] }, W1, gf,
    #[.func (.yield (w.heap.size + 1)) #[] #[]] ++ lb, W1, ?_, ?_, ?_, ?_, fun _ => h1, ?_⟩
  · rw [← hW1, hrec]; exact run_enterLoop_outer _ _ _ _ _
  · simp only [resolve, hg]
    simp [go_sem]
  · intro f' hf'; simp [Target.leads] at hf'; subst hf'; exact hFg
  · simp [invoke, go_sem, eg]
  · have hfin := hseq (w.heap.size + 1)
      (fun pre W => I pre W ∧ W.heap[w.heap.size + 1]? = some (.loop (rec .ready none)) ∧ W.heap[w.heap.size]? = some (.deferred (some [])))
      W1 (by omega) (fun pre A C h ho => ⟨hIo pre A C ho h.1, (hOwn A C ho _ (by omega)).trans h.2.1, (hOwn A C ho _ (by omega)).trans h.2.2⟩)

    refine (hfin ?_ ⟨hI _ _ _ hs1 (by omega) h0, hL1, hK1⟩ (hZ0 _ _ hs1 z0)).mono ?_
    · rintro pre x W hp ⟨hi, hl, hk⟩
      have hlt : w.heap.size + 1 < W.heap.size := (Array.getElem?_eq_some_iff.1 hl).1
      have hy := run_yield (P := P) (args := #[.int .i64 x]) hl (by rw [hrec]; rfl)
      rw [hrec] at hy
      refine ⟨fn, a.tmps.setIfInBounds p (.int .i64 x), assign, body, by simpa using hy, roundIn_of_wpIn hfn (hassign _ x W _ ⟨_, run_beginRound hl (by rw [hrec]), ?_⟩)⟩
      obtain ⟨W2, hW2⟩ : ∃ W2, W.putObj (w.heap.size + 1) (.loop { rec .ready none with state := .busy }) = W2 := ⟨_, rfl⟩
      have hl2 : W2.heap[w.heap.size + 1]? = some (.loop { rec .ready none with state := .busy }) := by rw [← hW2]; exact World.putObj_heap_same hlt
      have hk2 : W2.heap[w.heap.size]? = some (.deferred (some [])) := by rw [← hW2]; exact (World.putObj_heap_other (by omega)).trans hk
      have hs2 : SameTo w.heap.size W W2 := by rw [← hW2]; exact SameTo.put _ _ (by omega)
      have hz2 : W2.heap.size = W.heap.size := by rw [← hW2]; simp
      rw [hW2]
      refine wpIn_mono (hbody _ pre x _ hp (by omega) (hI _ _ _ hs2 (by omega) hi)) ?_
      rintro e a3 W3 ⟨rfl, hi3, hkp3, hkD, hkL⟩
      have hl3 : W3.heap[w.heap.size + 1]? = some (.loop { rec .ready none with state := .busy }) := hkL.trans hl2
      have hk3 : W3.heap[w.heap.size]? = some (.deferred (some [])) := hkD.trans hk2
      have hlt3 : w.heap.size + 1 < W3.heap.size := (Array.getElem?_eq_some_iff.1 hl3).1
      have he := run_endRound (P := P) none hl3
      refine ⟨_, _, he, rfl, ⟨hI _ _ _ (SameTo.put _ _ (by omega)) (by simp) hi3, ?_, ?_⟩, hKt (hKt (hKb _ _ hs2) hkp3) (hKb _ _ (SameTo.put _ _ (by omega)))⟩
      · rw [World.putObj_heap_same hlt3, hrec]; rfl
      · exact (World.putObj_heap_other (by omega)).trans hk3
    · rintro e W2 ⟨⟨v, rfl⟩, ⟨hi, hl, hk⟩, hz⟩
      refine ⟨none, _, by have := run_endLoop (P := P) hl (by rw [hrec]; simp); rw [hrec] at this; exact this, ?_⟩
      have hlt2 : w.heap.size + 1 < W2.heap.size := (Array.getElem?_eq_some_iff.1 hl).1
      have hs := SameTo.put (B := w.heap.size) W2 (.loop { rec .ready none with state := .exhausted }) (by omega)
      rw [hrec] at hs
      exact hdone w.heap.size _ (Nat.le_refl _) (hI _ _ _ hs (by simp) hi) (hZ _ _ hs hz) ((World.putObj_heap_other (by omega)).trans hk)
end Go.Proofs.YtanofnhiopagaaaDoor
