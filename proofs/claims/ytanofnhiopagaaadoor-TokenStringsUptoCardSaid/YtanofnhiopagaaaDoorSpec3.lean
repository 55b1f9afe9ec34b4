/- The digits of a number: what the iterator hands over, and where it ends. -/
import Derived.Test.YtanofnhiopagaaaDoorSpec
namespace Go.Proofs.YtanofnhiopagaaaDoor
def digF : Nat → List UInt8 → Int → Nat → Bool → Option (List Int × Nat)
  | 0, _, _, _, _ => none
  | n + 1, l, base, k, between =>
    if digitV (byteV l k) < base then
      match digF n l base (k + 1) true with
      | some (ds, k') => some (digitV (byteV l k) :: ds, k')
      | none => none
    else if byteV l k = 95 ∧ between = true ∧ digitV (byteV l (k + 1)) < base then digF n l base (k + 1) false
    else some ([], k)
theorem byteV_range (l : List UInt8) (k : Nat) : 0 ≤ byteV l k ∧ byteV l k ≤ 255 := by
  unfold byteV
  split
  · rename_i h; have := (l[k]).toNat_lt; omega
  · omega
theorem digitV_range (c : Int) (h0 : 0 ≤ c) (h1 : c ≤ 255) : 0 ≤ digitV c ∧ digitV c ≤ 99 := by
  unfold digitV; split <;> (try split) <;> (try split) <;> omega
end Go.Proofs.YtanofnhiopagaaaDoor
