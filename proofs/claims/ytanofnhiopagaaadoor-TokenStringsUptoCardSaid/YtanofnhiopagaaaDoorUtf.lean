/- Plain lists: the decoding of a rune depends on its own bytes alone; the literal of a text, rune by rune. -/
import Derived.Test.YtanofnhiopagaaaDoorQuo
import Derived.Lib.MapLaws
import Derived.Lib.ValidLaws
namespace Go.Proofs.YtanofnhiopagaaaDoor
open Go.RowKit Go.Lib

theorem getD_take_app (l t : List UInt8) (n i : Nat) (hi : i < n) (hn : n ≤ l.length) : (l.take n ++ t).getD i 0 = l.getD i 0 := by
  have h1 : i < (l.take n).length := by simp; omega
  simp [List.getD, List.getElem?_append_left h1, List.getElem?_take, hi]

theorem decodeL_pre (l t : List UInt8) (hne : l ≠ []) (hv : ¬ ((decodeL l).1 = 65533 ∧ (decodeL l).2 = 1)) : decodeL (l.take (decodeL l).2 ++ t) = decodeL l := by
  have hle := decodeL_le l hne
  have hlen : (l.take (decodeL l).2 ++ t).length = (decodeL l).2 + t.length := by simp; omega
  rw [decodeL_N (l.take (decodeL l).2 ++ t), hlen]
  have G := fun i hi => getD_take_app l t (decodeL l).2 i hi hle
  rw [decodeL_N l] at hv hle G ⊢
  have k0 := (l.getD 0 0).toNat_lt
  have k1 := (l.getD 1 0).toNat_lt
  have k2 := (l.getD 2 0).toNat_lt
  have k3 := (l.getD 3 0).toNat_lt
  rcases decodeN_shape l.length (l.getD 0 0).toNat (l.getD 1 0).toNat (l.getD 2 0).toNat (l.getD 3 0).toNat with ⟨c, e⟩ | ⟨c1, c2, c3, cv, e⟩ | ⟨c1, c2, c3, c4, cv, cs, e⟩ | ⟨c1, c2, c3, c4, c5, cv, cw, e⟩ | e
  · rw [e] at G ⊢
    rw [G 0 (by dsimp only; omega)]
    unfold decodeN; rw [if_pos c]
  · rw [e] at G ⊢
    rw [G 0 (by dsimp only; omega), G 1 (by dsimp only; omega)]
    unfold decodeN; rw [if_neg (by omega), if_pos ⟨c1, by dsimp only; omega, c3⟩, if_pos cv]
  · rw [e] at G ⊢
    rw [G 0 (by dsimp only; omega), G 1 (by dsimp only; omega), G 2 (by dsimp only; omega)]
    unfold decodeN; rw [if_neg (by omega), if_neg (by omega), if_pos ⟨c1, ⟨by dsimp only; omega, c3⟩, by dsimp only; omega, c4⟩, if_pos ⟨cv, by omega⟩]
  · rw [e] at G ⊢
    rw [G 0 (by dsimp only; omega), G 1 (by dsimp only; omega), G 2 (by dsimp only; omega), G 3 (by dsimp only; omega)]
    unfold decodeN; rw [if_neg (by omega), if_neg (by omega), if_neg (by omega), if_pos ⟨c1, ⟨by dsimp only; omega, c3⟩, ⟨by dsimp only; omega, c4⟩, by dsimp only; omega, c5⟩, if_pos ⟨cv, by omega⟩]
  · rw [e] at hv; exact absurd ⟨rfl, rfl⟩ hv

theorem decodeL_high (l : List UInt8) (hv : ¬ ((decodeL l).1 = 65533 ∧ (decodeL l).2 = 1)) (h0 : 128 ≤ (l.getD 0 0).toNat) : ∀ i, i < (decodeL l).2 → 128 ≤ (l.getD i 0).toNat := by
  rw [decodeL_N l] at hv ⊢
  rcases decodeN_shape l.length (l.getD 0 0).toNat (l.getD 1 0).toNat (l.getD 2 0).toNat (l.getD 3 0).toNat with ⟨c, e⟩ | ⟨c1, c2, c3, cv, e⟩ | ⟨c1, c2, c3, c4, cv, cs, e⟩ | ⟨c1, c2, c3, c4, c5, cv, cw, e⟩ | e
  · omega
  · rw [e]; intro i hi; dsimp only at hi
    match i, hi with
    | 0, _ => omega
    | 1, _ => omega
  · rw [e]; intro i hi; dsimp only at hi
    match i, hi with
    | 0, _ => omega
    | 1, _ => omega
    | 2, _ => omega
  · rw [e]; intro i hi; dsimp only at hi
    match i, hi with
    | 0, _ => omega
    | 1, _ => omega
    | 2, _ => omega
    | 3, _ => omega
  · rw [e] at hv; exact absurd ⟨rfl, rfl⟩ hv

theorem qb_high (c : UInt8) (h : 128 ≤ c.toNat) : qb c = [c] := by
  unfold qb
  have n : ∀ x : UInt8, x.toNat < 128 → c ≠ x := fun x hx e => by subst e; omega
  rw [if_neg (n 10 (by decide)), if_neg (n 9 (by decide)), if_neg (n 13 (by decide)), if_neg (n 0 (by decide)), if_neg (n 34 (by decide)), if_neg (n 92 (by decide)), if_neg (by omega)]
theorem flat_high (l : List UInt8) (h : ∀ c ∈ l, 128 ≤ c.toNat) : l.flatMap qb = l := by
  induction l with
  | nil => rfl
  | cons c l ih =>
    rw [List.flatMap_cons, qb_high c (h c (by simp)), ih (fun x hx => h x (by simp [hx]))]
    rfl

/-- The body of the literal of l that is not empty: its first rune, and how it stands in the literal. -/
theorem body_high (l : List UInt8) (c : UInt8) (l' : List UInt8) (hl : l = c :: l') (hc : 128 ≤ c.toNat) (hv : validD l = true) :
    ¬ ((decodeL l).1 = 65533 ∧ (decodeL l).2 = 1) ∧ validD (l.drop (decodeL l).2) = true ∧ l.flatMap qb = l.take (decodeL l).2 ++ (l.drop (decodeL l).2).flatMap qb := by
  have hne : l ≠ [] := by rw [hl]; simp
  rw [validD_step l hne] at hv
  split at hv
  · cases hv
  · rename_i hv'
    refine ⟨hv', hv, ?_⟩
    have h1 : (l.take (decodeL l).2).flatMap qb = l.take (decodeL l).2 := flat_high _ (fun x hx => by
      obtain ⟨i, hi, rfl⟩ := List.mem_iff_getElem.1 hx
      simp only [List.length_take] at hi
      have := decodeL_high l hv' (by rw [hl]; simpa using hc) i (by omega)
      rw [List.getElem_take]
      simpa [List.getD, List.getElem?_eq_getElem (show i < l.length by omega)] using this)
    conv => lhs; rw [← List.take_append_drop (decodeL l).2 l, List.flatMap_append, h1]
theorem body_low (l : List UInt8) (c : UInt8) (l' : List UInt8) (hl : l = c :: l') (hc : c.toNat < 128) (hv : validD l = true) : validD l' = true := by
  subst hl
  rw [validD_step _ (by simp), decodeL_ascii c l' hc] at hv
  split at hv
  · cases hv
  · simpa using hv
end Go.Proofs.YtanofnhiopagaaaDoor
