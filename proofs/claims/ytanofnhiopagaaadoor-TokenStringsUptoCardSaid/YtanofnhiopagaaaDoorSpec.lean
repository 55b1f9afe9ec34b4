/- The plain functions that the scanner of package token computes, over lists of bytes. No program stands in it. -/
import Derived.RowKit
import Derived.Lib.Bytealg
import Derived.Lib.ValidU
namespace Go.Proofs.YtanofnhiopagaaaDoor

def letterB (c : Int) : Bool := (decide (97 ≤ c) && decide (c ≤ 122)) || (decide (65 ≤ c) && decide (c ≤ 90))
def digitB (c : Int) : Bool := decide (48 ≤ c) && decide (c ≤ 57)
def wordB (c : Int) : Bool := letterB c || digitB c || (c == 95)
def primeB (c : Int) : Bool := c == 39

/-- The value of a digit, or 99. -/
def digitV (c : Int) : Int :=
  if 48 ≤ c ∧ c ≤ 57 then c - 48 else if 97 ≤ c ∧ c ≤ 102 then c - 87 else if 65 ≤ c ∧ c ≤ 70 then c - 55 else 99

/-- The byte at a place, 32 behind the end. -/
def byteV (l : List UInt8) (k : Nat) : Int := if h : k < l.length then (l[k].toNat : Int) else 32

/-- Where the run of bytes with p ends that begins at k. -/
def runEnd (p : Int → Bool) (l : List UInt8) (k : Nat) : Nat :=
  if h : k < l.length then (if p (l[k].toNat : Int) then runEnd p l (k + 1) else k) else k
  termination_by l.length - k

theorem runEnd_go {p : Int → Bool} {l : List UInt8} {k : Nat} (h : k < l.length) (hp : p (l[k].toNat : Int) = true) : runEnd p l k = runEnd p l (k + 1) := by
  rw [runEnd]; simp [h, hp]
theorem runEnd_stop {p : Int → Bool} {l : List UInt8} {k : Nat} (h : k < l.length) (hp : p (l[k].toNat : Int) = false) : runEnd p l k = k := by
  rw [runEnd]; simp [h, hp]
theorem runEnd_end {p : Int → Bool} {l : List UInt8} {k : Nat} (h : l.length ≤ k) : runEnd p l k = k := by
  rw [runEnd]; simp [Nat.not_lt.2 h]
theorem runEnd_ge (p : Int → Bool) (l : List UInt8) (k : Nat) : k ≤ runEnd p l k := by
  induction h : l.length - k generalizing k with
  | zero => rw [runEnd_end (by omega)]; exact Nat.le_refl _
  | succ n ih =>
    by_cases hp : p ((l[k]'(by omega)).toNat : Int) = true
    · rw [runEnd_go (by omega) hp]; have := ih (k + 1) (by omega); omega
    · rw [runEnd_stop (by omega) (by simpa using hp)]; exact Nat.le_refl _
theorem runEnd_le (p : Int → Bool) (l : List UInt8) (k : Nat) (hk : k ≤ l.length) : runEnd p l k ≤ l.length := by
  induction h : l.length - k generalizing k with
  | zero => rw [runEnd_end (by omega)]; exact hk
  | succ n ih =>
    by_cases hp : p ((l[k]'(by omega)).toNat : Int) = true
    · rw [runEnd_go (by omega) hp]; exact ih (k + 1) (by omega) (by omega)
    · rw [runEnd_stop (by omega) (by simpa using hp)]; exact hk

def wordEnd (l : List UInt8) (k : Nat) : Nat := runEnd primeB l (runEnd wordB l k)
theorem wordEnd_le (l : List UInt8) (k : Nat) (hk : k ≤ l.length) : wordEnd l k ≤ l.length := runEnd_le _ _ _ (runEnd_le _ _ _ hk)
theorem wordEnd_ge (l : List UInt8) (k : Nat) : k ≤ wordEnd l k := Nat.le_trans (runEnd_ge wordB l k) (runEnd_ge primeB l _)

theorem byteV_at (s : ByteArray) (k : Nat) (h : k < s.size) : byteV s.data.toList k = (s[k].toNat : Int) := by
  unfold byteV; rw [dif_pos (by simpa using h)]; rfl
theorem byteV_out (s : ByteArray) (k : Nat) (h : s.size ≤ k) : byteV s.data.toList k = 32 := by
  unfold byteV; rw [dif_neg (by simp; omega)]
theorem len_list (s : ByteArray) : s.data.toList.length = s.size := by simp

/-- Does a symbol that ends in a letter go on as a word? -/
def goesOnB (l : List UInt8) (k : Nat) (t : List UInt8) : Bool :=
  letterB (byteV t (t.length - 1)) && decide (k + t.length < l.length) && wordB (byteV l (k + t.length))

def hasPre (l t : List UInt8) : Bool := t.isPrefixOf l
/-- The step of the search for the longest symbol. -/
def symStep (l : List UInt8) (k : Nat) (best t : List UInt8) : List UInt8 :=
  if best.length < t.length ∧ hasPre (l.drop k) t = true ∧ goesOnB l k t = false then t else best
def longestIn (l : List UInt8) (k : Nat) (ts : List (List UInt8)) : List UInt8 := ts.foldl (symStep l k) []
theorem longestIn_snoc (l : List UInt8) (k : Nat) (ts : List (List UInt8)) (t : List UInt8) : longestIn l k (ts ++ [t]) = symStep l k (longestIn l k ts) t := by
  simp [longestIn, List.foldl_append]

/-- How long a line is. -/
def lineLen (l : List UInt8) : Nat := if 0 ≤ Lib.indexByte l 10 then (Lib.indexByte l 10).toNat else l.length

/-- Where blanks and comments of the first kind end, and whether a line feed was among them; none for a comment of the second kind, or one that is not valid. -/
def blanksF : Nat → List UInt8 → Nat → Bool → Option (Nat × Bool)
  | 0, _, _, _ => none
  | n + 1, l, k, ln =>
    if l.length ≤ k then some (k, ln)
    else if byteV l k = 10 then blanksF n l (k + 1) true
    else if byteV l k = 32 ∨ byteV l k = 9 ∨ byteV l k = 13 then blanksF n l (k + 1) ln
    else if hasPre (l.drop k) [47, 47] = true then
      (if Lib.validD ((l.drop k).take (lineLen (l.drop k))) = true then blanksF n l (k + lineLen (l.drop k)) ln else none)
    else if hasPre (l.drop k) [47, 42] = true then none
    else some (k, ln)
end Go.Proofs.YtanofnhiopagaaaDoor
