/- A region that draws its order, by an invariant over what has been carried out: one obligation for each operation. No program. -/
import Derived.WalkKit
import Derived.RegionTactic
namespace Go.Proofs.Ytaacgfmpahfmpaa.Dag
open Go

section
variable {P : Program} {ops : Array Oper} {Q : Exit → Act → World → Prop} {md : Region.Mode}

/-- What must have been carried out ahead of an operation. -/
def wants (md : Region.Mode) (o : Oper) : List Nat := (o.after.toList.filter (Region.binds md)).map (·.on)

theorem all_wants {o : Oper} {l : Array Bool} : (o.after.all fun e => !Region.binds md e || l.getD e.on false) = true ↔ ∀ d ∈ wants md o, l.getD d false = true := by
  rw [← Array.all_toList, List.all_eq_true]
  constructor
  · intro h d hd
    obtain ⟨e, he, rfl⟩ := List.mem_map.1 hd
    rw [List.mem_filter] at he
    have := h e he.1
    rw [he.2] at this
    simpa using this
  · intro h e he
    cases hb : Region.binds md e
    · rfl
    · have := h e.on (List.mem_map.2 ⟨e, List.mem_filter.2 ⟨he, hb⟩, rfl⟩)
      rw [this]; rfl

theorem ready_iff {l : Array Bool} {i : Nat} : i ∈ Region.ready md ops l ↔ i < ops.size ∧ l.getD i true = false ∧ ∃ o, ops[i]? = some o ∧ ∀ d ∈ wants md o, l.getD d false = true := by
  unfold Region.ready
  rw [List.mem_filter, List.mem_range]
  constructor
  · rintro ⟨h1, h2⟩
    rw [Bool.and_eq_true, Bool.not_eq_true'] at h2
    refine ⟨h1, h2.1, ops[i], Array.getElem?_eq_getElem h1, ?_⟩
    have h3 := h2.2
    rw [Array.getElem?_eq_getElem h1] at h3
    exact all_wants.1 h3
  · rintro ⟨h1, h2, o, ho, h3⟩
    refine ⟨h1, ?_⟩
    rw [Bool.and_eq_true, Bool.not_eq_true']
    refine ⟨h2, ?_⟩
    rw [ho]
    exact all_wants.2 h3

/-- i has been carried out too. -/
def upd (l : Nat → Bool) (i j : Nat) : Bool := Nat.beq j i || l j

theorem getD_lt {l : Array Bool} {i : Nat} (h : i < l.size) (x y : Bool) : l.getD i x = l.getD i y := by
  simp [Array.getD, h]
theorem upd_eq {l : Array Bool} {i : Nat} (h : i < l.size) : (fun j => (l.setIfInBounds i true).getD j false) = upd (fun j => l.getD j false) i := by
  funext j
  unfold upd
  by_cases hj : j = i
  · subst hj
    have : Nat.beq j j = true := Nat.beq_refl j
    rw [this, Bool.true_or]
    show (l.setIfInBounds j true).getD j false = true
    rw [Array.getD_eq_getD_getElem?, Array.getElem?_setIfInBounds_self_of_lt h]
    rfl
  · have : Nat.beq j i = false := by
      cases hc : Nat.beq j i
      · rfl
      · exact absurd (Nat.eq_of_beq_eq_true hc) hj
    rw [this, Bool.false_or]
    show (l.setIfInBounds i true).getD j false = l.getD j false
    rw [Array.getD_eq_getD_getElem?, Array.getD_eq_getD_getElem?, Array.getElem?_setIfInBounds_ne (Ne.symm hj)]

theorem count_upd {l : Array Bool} {i : Nat} (h : i < l.size) (hf : l.getD i true = false) : (l.setIfInBounds i true).toList.countP (fun b => !b) < l.toList.countP (fun b => !b) := by
  have hi : i < l.toList.length := by simpa using h
  have hg : l.toList[i] = false := by
    have : l.getD i true = l[i] := by simp [Array.getD, h]
    rw [this] at hf
    simpa using hf
  rw [Array.toList_setIfInBounds, List.countP_set hi, hg]
  have : 0 < l.toList.countP (fun b => !b) := List.countP_pos_iff.2 ⟨false, by rw [← hg]; exact List.getElem_mem hi, rfl⟩
  show l.toList.countP (fun b => !b) - (if (!false) = true then 1 else 0) + (if (!true) = true then 1 else 0) < _
  have e1 : (if (!false) = true then 1 else 0) = 1 := rfl
  have e2 : (if (!true) = true then 1 else 0) = 0 := rfl
  rw [e1, e2]
  omega

theorem wpAny_dag (need : List (List Nat)) (hneed : (List.range ops.size).map (fun i => (ops[i]?).map (wants md)) = need.map some)
    (hacyc : (List.range ops.size).all (fun i => (need.getD i []).all (fun d => Nat.blt d i)) = true)
    (I : (Nat → Bool) → Act → World → Prop)
    (hd : ∀ l a w, I l a w → (∀ i, i < ops.size → l i = true) → Q .normal a w)
    (hs : ∀ i, i < ops.size → ∀ l a w, I l a w → l i = false → (∀ d ∈ need.getD i [], l d = true) → wpOp P ops Q i (I (upd l i)) a w) :
    ∀ (fuel : Nat) (l : Array Bool) (a : Act) (w : World), l.size = ops.size → l.toList.countP (fun b => !b) ≤ fuel → I (fun i => l.getD i false) a w → wpAny P md ops Q fuel l a w := by
  have hN : ∀ i, i < ops.size → ∀ o, ops[i]? = some o → wants md o = need.getD i [] := by
    intro i hi o ho
    have h := congrArg (fun x => x[i]?) hneed
    simp only [List.getElem?_map, List.getElem?_range hi, Option.map_some] at h
    rw [ho] at h
    cases hx : need[i]? with
    | none => rw [hx] at h; cases h
    | some x =>
      rw [hx] at h
      simp only [Option.map_some, Option.some.injEq] at h
      rw [List.getD_eq_getElem?_getD, hx]
      exact h
  have hA : ∀ i, i < ops.size → ∀ d ∈ need.getD i [], d < i := by
    intro i hi d hdm
    have := List.all_eq_true.1 (List.all_eq_true.1 hacyc i (List.mem_range.2 hi)) d hdm
    simpa [Nat.blt_eq] using this
  have hE : ∀ (l : Array Bool), l.size = ops.size → Region.ready md ops l = [] → ∀ i, i < ops.size → l.getD i false = true := by
    intro l hl hr i
    induction i using Nat.strongRecOn with
    | ind i ih =>
      intro hi
      cases hb : l.getD i false
      · exfalso
        have : i ∈ Region.ready md ops l := ready_iff.2 ⟨hi, by rw [getD_lt (by omega) true false]; exact hb, ops[i], Array.getElem?_eq_getElem hi, fun d hdm => by
          rw [hN i hi _ (Array.getElem?_eq_getElem hi)] at hdm
          have hdi := hA i hi d hdm
          exact ih d hdi (by omega)⟩
        rw [hr] at this
        cases this
      · rfl
  have hS : ∀ (l : Array Bool) (a : Act) (w : World), l.size = ops.size → I (fun i => l.getD i false) a w → ∀ i ∈ Region.ready md ops l,
      wpOp P ops Q i (I (fun j => (l.setIfInBounds i true).getD j false)) a w := by
    intro l a w hl hI i hi
    obtain ⟨h1, h2, o, ho, h3⟩ := ready_iff.1 hi
    rw [upd_eq (by omega)]
    refine hs i h1 _ a w hI ?_ ?_
    · show l.getD i false = false
      rw [getD_lt (by omega) false true]; exact h2
    · intro d hdm
      exact h3 d (by rw [hN i h1 o ho]; exact hdm)
  intro fuel
  induction fuel with
  | zero =>
    intro l a w hl hc hI
    have hr : Region.ready md ops l = [] := by
      cases hr : Region.ready md ops l with
      | nil => rfl
      | cons i is =>
        obtain ⟨h1, h2, _⟩ := ready_iff.1 (show i ∈ Region.ready md ops l by rw [hr]; exact List.mem_cons_self)
        have := count_upd (l := l) (i := i) (by omega) h2
        omega
    exact ⟨hr, hd _ a w hI (hE l hl hr)⟩
  | succ fuel ih =>
    intro l a w hl hc hI
    refine ⟨fun hr => hd _ a w hI (hE l hl hr), fun i hi => ?_⟩
    obtain ⟨h1, h2, _⟩ := ready_iff.1 hi
    refine wpOp_mono (fun a' w' h => ih _ a' w' (by simpa using hl) ?_ h) (hS l a w hl hI i hi)
    have := count_upd (l := l) (i := i) (by omega) h2
    omega

/-- One obligation after the other. -/
def Steps (P : Program) (ops : Array Oper) (Q : Exit → Act → World → Prop) (need : List (List Nat)) (I : (Nat → Bool) → Act → World → Prop) (n : Nat) : Prop :=
  ∀ i, n ≤ i → i < ops.size → ∀ l a w, I l a w → l i = false → (∀ d ∈ need.getD i [], l d = true) → wpOp P ops Q i (I (upd l i)) a w
theorem Steps.nil {need : List (List Nat)} {I : (Nat → Bool) → Act → World → Prop} {n : Nat} (h : ops.size = n) : Steps P ops Q need I n := fun i h1 h2 => absurd h2 (by omega)
theorem Steps.cons {need : List (List Nat)} {I : (Nat → Bool) → Act → World → Prop} {n : Nat} {o : Oper} (ho : ops[n]? = some o)
    (h : ∀ l a w, I l a w → l n = false → (∀ d ∈ need.getD n [], l d = true) → ∀ K : Act → World → Prop, (∀ a' w', I (upd l n) a' w' → K a' w') →
      if Region.wanted o (yielded ops a.tmps) = true then Oper.wp P o a w K Q else K (a.put o.dst undef) w)
    (hr : Steps P ops Q need I (n + 1)) : Steps P ops Q need I n := fun i h1 h2 l a w hI hi hd => by
  by_cases he : i = n
  · subst he
    exact wpOp_step ho (fun K hK => h l a w hI hi hd K hK)
  · exact hr i (by omega) h2 l a w hI hi hd

theorem wp_region_dag {id : Nat} {a : Act} {w : World} (hm : P.follows .mixedOrders = true) (need : List (List Nat)) (I : (Nat → Bool) → Act → World → Prop)
    (hneed : (List.range ops.size).map (fun i => (ops[i]?).map (wants .any)) = need.map some)
    (hacyc : (List.range ops.size).all (fun i => (need.getD i []).all (fun d => Nat.blt d i)) = true)
    (h0 : I (fun _ => false) a w.drew)
    (hs : Steps P ops Q need I 0)
    (hd : ∀ l a w, I l a w → (∀ i, i < ops.size → l i = true) → Q .normal a w) : (Code.region id ops true).wp P Q a w := by
  refine wp_region_any hm (wpAny_dag need hneed hacyc I hd (fun i hi => hs i (Nat.zero_le _) hi) ops.size _ a _ (by simp) ?_ ?_)
  · have := List.countP_le_length (p := fun b : Bool => !b) (l := (Array.replicate ops.size false).toList)
    simpa using this
  · have : (fun i => (Array.replicate ops.size false).getD i false) = fun _ => false := by
      funext i
      by_cases hi : i < ops.size <;> simp [Array.getD, hi]
    rw [this]
    exact h0
end
end Go.Proofs.Ytaacgfmpahfmpaa.Dag
