/- Facts of the tables of package cap, by going through all capabilities and marks. No program stands in it. -/
import Derived.Test.YtblklbmolfddpaaDoorSpec
import Derived.KernelRfl
namespace Go.Proofs.YtblklbmolfddpaaDoor

def caps : List Int := [1, 2, 3, 4, 5, 6]
def marks : List Int := [0, 1, 2]
theorem mem_caps {c : Int} (h : capB c = true) : c ∈ caps := by rcases cap_cases h with rfl | rfl | rfl | rfl | rfl | rfl <;> decide
theorem mem_marks {c : Int} (h : markB c = true) : c ∈ marks := by rcases mark_cases h with rfl | rfl | rfl <;> decide

def reflAll : Bool := caps.all fun x => marks.all fun i => fitsB x i x i && fitsB 1 1 x i
def transAll : Bool := caps.all fun x => marks.all fun i => caps.all fun y => marks.all fun j => !fitsB x i y j || ((!readsB y || readsB x) && (!writesB y || writesB x) && caps.all fun z => marks.all fun k => !fitsB y j z k || fitsB x i z k)
set_option maxRecDepth 100000 in
theorem reflAll_true : reflAll = true := by kernel_rfl
set_option maxRecDepth 100000 in
theorem transAll_true : transAll = true := by kernel_rfl

theorem fits_refl {x i : Int} (hx : capB x = true) (hi : markB i = true) : fitsB x i x i = true ∧ fitsB 1 1 x i = true := by
  have h := reflAll_true
  unfold reflAll at h
  have h1 := List.all_eq_true.1 (List.all_eq_true.1 h x (mem_caps hx)) i (mem_marks hi)
  simpa using h1
theorem fits_more {x i y j : Int} (hx : capB x = true) (hi : markB i = true) (hy : capB y = true) (hj : markB j = true) (h : fitsB x i y j = true) :
    (readsB y = true → readsB x = true) ∧ (writesB y = true → writesB x = true) ∧ ∀ z k, capB z = true → markB k = true → fitsB y j z k = true → fitsB x i z k = true := by
  have h0 := transAll_true
  unfold transAll at h0
  have h1 := List.all_eq_true.1 (List.all_eq_true.1 (List.all_eq_true.1 (List.all_eq_true.1 h0 x (mem_caps hx)) i (mem_marks hi)) y (mem_caps hy)) j (mem_marks hj)
  rw [h] at h1
  simp only [Bool.not_true, Bool.false_or, Bool.and_eq_true] at h1
  obtain ⟨⟨h2, h3⟩, h4⟩ := h1
  refine ⟨fun a => by rw [a] at h2; simpa using h2, fun a => by rw [a] at h3; simpa using h3, fun z k hz hk a => ?_⟩
  have h5 := List.all_eq_true.1 (List.all_eq_true.1 h4 z (mem_caps hz)) k (mem_marks hk)
  rw [a] at h5
  simpa using h5
end Go.Proofs.YtblklbmolfddpaaDoor
