/- More plain functions of the scanner. -/
import Derived.Test.YtanofnhiopagaaaDoorTables
import Derived.Test.YtanofnhiopagaaaDoorScan2
namespace Go.Proofs.YtanofnhiopagaaaDoor
open Go.Maps Go.WideMaps

/-- The longest symbol at a place. -/
def symOf (l : List UInt8) (k : Nat) : List UInt8 := bestAt l k 43
/-- Is it a keyword? -/
def isKw (l : List UInt8) : Bool := kwBytes.contains l
theorem kwSet_map (k : Nat) : IsMap (kwSet k) := by
  unfold kwSet
  exact (tidy_setOf _ _ (fun x hx => by
    obtain ⟨y, _, rfl⟩ := List.mem_map.1 hx
    exact trivial)).isMap
theorem kwSet_at (x : List UInt8) (k : Nat) (hk : k ≤ 51) : (kwSet k).atKey (.string x) (.lit (.bool false)) = .lit (.bool ((kwBytes.take k).contains x)) := by
  induction k with
  | zero => simp [kwSet, kwLits, setOf, DataW.atKey]
  | succ k ih =>
    have hlen : k < kwBytes.length := by rw [kw_len]; omega
    rw [kwSet_step k (by omega), List.take_add_one, List.getElem?_eq_getElem hlen]
    have e : kwAt k = kwBytes[k] := by simp [kwAt, List.getD, List.getElem?_eq_getElem hlen]
    by_cases hx : x = kwAt k
    · subst hx
      rw [atKey_put_same (kwSet_map k) (show WideAt.IsKeyLit (Lit.string (kwAt k)) from trivial)]
      have e2 : (kwBytes.take k ++ [kwBytes[k]]).contains (kwAt k) = true := by
        rw [List.contains_append, e]; simp only [List.contains_cons, beq_self_eq_true, Bool.true_or, Bool.or_true]
      simp only [Option.toList]
      rw [e2]
    · rw [atKey_put_other (by intro h; injection h with h; exact hx h), ih (by omega)]
      have h2 : (x == kwBytes[k]) = false := by rw [← e]; simpa using hx
      have e2 : (kwBytes.take k ++ [kwBytes[k]]).contains x = (kwBytes.take k).contains x := by
        rw [List.contains_append]; simp only [List.contains_cons, List.contains_nil, h2, Bool.or_false]
      simp only [Option.toList]
      rw [e2]
theorem kwSet_all (x : List UInt8) : (kwSet 51).atKey (.string x) (.lit (.bool false)) = .lit (.bool (isKw x)) := by
  rw [kwSet_at x 51 (by omega), List.take_of_length_le (by rw [kw_len]; omega)]
  rfl
theorem zero4 (w : World) : (zeroValue 4).run Tryd.prog w = .ok (.bool false) w := by kernel_rfl
theorem plainElem_bool_inv {P : Program} {t : TypeId} (he : P.underlying t = some .bool) {v : Value} {x : Bool} {ps : List MemPlace} (h : plainElem (H := Unit) P t v = some (.lit (.bool x), ps)) : v = .bool x := by
  unfold plainElem at h
  rw [he] at h
  cases v <;> simp at h
  rw [h.1]
/-- A look-up in the set of the keywords. -/
theorem kw_lookup {w : World} {m : Nat} (h : w.ownsMap Tryd.prog 9 (plainElem (H := Unit) Tryd.prog 4) m 51 (kwSet 51)) (x : ByteArray) (hx : x.size ≤ maxLen) :
    (Instr.lookup 63 (.map (some m)) (.string x) false).run Tryd.prog w = .ok (.bool (isKw x.data.toList)) w := by
  obtain ⟨v, ps, hrun, hv⟩ := h.lookup law9 Tryd.underlying63 (zero4 w) (plainElem_bool Tryd.underlying4 false) (keyOf_string_mk Tryd.underlying9 hx)
  rw [kwSet_all] at hv
  rw [hrun, plainElem_bool_inv Tryd.underlying4 hv]
end Go.Proofs.YtanofnhiopagaaaDoor
