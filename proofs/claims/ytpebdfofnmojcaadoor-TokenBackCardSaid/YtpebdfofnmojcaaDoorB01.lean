/- Part 1 of the proof: Shelf, LibM, NumA, Spec, Leaf, Mem, Scan1, Tables, Scan2, Spec3, Range, Dig, Own, LibT, Scan3, Num, Dec, Dec2, Dvg, Dea, Pua, Int, Int2, Ing, Run, Flo, Deg, Deh, Dei, Dej, Dek, Del, Nbr, Cod, Scan4. -/
import Derived.Shelf.Bits.Mul64
import Derived.Shelf.Spec.BitsCarry
import Derived.Shelf.Small.Strs
import Derived.Shelf.Unicode.ValidAny
import Derived.Shelf.Slices.Equal
import Derived.Test.YtpebdfofnmojcaaDoorProg
import Derived.RowKit
import Derived.Lib.Bytealg
import Derived.Lib.ValidU
import Derived.Test.YtpebdfofnmojcaaDoorRows
import Derived.WalkKit
import Derived.WalkSpells
import Derived.WalkLawsBesides
import Derived.Lib.Hide
import Derived.Deep.Draws
import Derived.Deep.QuietTactic
import Derived.BigQuiet
import Derived.IntWalk
import Derived.Maps.Own
import Derived.Maps.Views
import Derived.Laws.Rows
import Derived.OwnWalk
import Derived.RangeFuncIn
import Derived.RangeFuncRecord
import Derived.RangeFuncSeq
import Derived.Deep.LoopGhost
import Derived.Deep.Cut
import Derived.OwnWalkIn
import Derived.TacticsInMore
import Derived.LoopNIn
import Derived.LoopIn
import Derived.RegionIn
import Derived.Sort.LoopGhostIn
import Derived.Sort.QuietIn
import Derived.RangeFuncCalls
import Derived.Laws.IdiomStrings
import Derived.Laws.Bits64b
/-
  DERIVED: THE SHELF's CONTRACTS AT THIS DUMP, IN PLAIN WORDS (tools/lay-plain.mjs out of 'YtpebdfofnmojcaaDoorShelf.lean', which tools/lay-shelf.mjs wrote): THE SAME DECLARATIONS UNDER THE SAME NAMES: 'import', 'namespace', 'open', 'def', 'theorem' AND NOTHING ELSE: no command of the shelf's: FOR A HAND-IN. Each laying: the table of numbers ('.._ren') and one theorem, a field a fact of the dump's own or the kernel's comparison; each contract: ONE APPLICATION.
-/
namespace Go.Proofs
open Go.Shelf
def Tryd.lays264_ren : Go.Shelf.Ren := ⟨fun | 264 => 81 | n => n, fun | 53 => 70 | 46 => 56 | n => n, fun | n => n⟩
theorem Tryd.lays264 : Go.Proofs.Lays.n264 Tryd.prog Tryd.lays264_ren := {
  mixed := by kernel_rfl
  f264 := Tryd.func81.trans (congrArg some (by kernel_rfl))
  t46 := Tryd.underlying56
  a46 := Tryd.isAgg56
  z46 := Tryd.sizeOf56
  v46 := Tryd.zeroValue56
  t53 := Tryd.underlying70
  a53 := Tryd.isAgg70
  z53 := Tryd.sizeOf70
  v53 := Tryd.zeroValue70 }
def Tryd.lays25_ren : Go.Shelf.Ren := ⟨fun | 25 => 82 | n => n, fun | 22 => 70 | n => n, fun | n => n⟩
theorem Tryd.lays25 : Go.Proofs.Lays7.n25 Tryd.prog Tryd.lays25_ren := {
  mixed := by kernel_rfl
  f25 := Tryd.func82.trans (congrArg some (by kernel_rfl))
  t22 := Tryd.underlying70
  a22 := Tryd.isAgg70
  z22 := Tryd.sizeOf70
  v22 := Tryd.zeroValue70
  i22 := by kernel_rfl }
def Tryd.lays137_ren : Go.Shelf.Ren := ⟨fun | 137 => 69 | 217 => 57 | 266 => 70 | n => n, fun | 9 => 9 | 5 => 5 | 3 => 3 | n => n, fun | n => n⟩
theorem Tryd.lays137 : Go.Proofs.Lays.n137 Tryd.prog Tryd.lays137_ren := {
  mixed := by kernel_rfl
  f137 := Tryd.func69.trans (congrArg some (by kernel_rfl))
  f217 := Tryd.func57.trans (congrArg some (by kernel_rfl))
  f266 := Tryd.func70.trans (congrArg some (by kernel_rfl))
  t3 := Tryd.underlying3
  a3 := Tryd.isAgg3
  z3 := Tryd.sizeOf3
  v3 := Tryd.zeroValue3
  t5 := Tryd.underlying5
  a5 := Tryd.isAgg5
  z5 := Tryd.sizeOf5
  v5 := Tryd.zeroValue5
  t9 := Tryd.underlying9
  a9 := Tryd.isAgg9
  z9 := Tryd.sizeOf9
  v9 := Tryd.zeroValue9 }
def Tryd.laysValid_ren : Go.Shelf.Ren := ⟨fun | 196 => 22 | 259 => 33 | n => n, fun | 9 => 9 | 4 => 4 | 3 => 3 | 5 => 5 | 12 => 12 | 119 => 52 | 0 => 0 | 46 => 56 | 139 => 55 | 138 => 54 | 53 => 70 | n => n, fun | 3 => 2 | 4 => 3 | n => n⟩
theorem Tryd.laysValid : Go.Proofs.Lays.n196 Tryd.prog Tryd.laysValid_ren := {
  mixed := by kernel_rfl
  f196 := Tryd.func22.trans (congrArg some (by kernel_rfl))
  f259 := Tryd.func33.trans (congrArg some (by kernel_rfl))
  t0 := Tryd.underlying0
  a0 := Tryd.isAgg0
  z0 := Tryd.sizeOf0
  v0 := Tryd.zeroValue0
  t3 := Tryd.underlying3
  a3 := Tryd.isAgg3
  z3 := Tryd.sizeOf3
  v3 := Tryd.zeroValue3
  t4 := Tryd.underlying4
  a4 := Tryd.isAgg4
  z4 := Tryd.sizeOf4
  v4 := Tryd.zeroValue4
  t5 := Tryd.underlying5
  a5 := Tryd.isAgg5
  z5 := Tryd.sizeOf5
  v5 := Tryd.zeroValue5
  t9 := Tryd.underlying9
  a9 := Tryd.isAgg9
  z9 := Tryd.sizeOf9
  v9 := Tryd.zeroValue9
  t12 := Tryd.underlying12
  a12 := Tryd.isAgg12
  z12 := Tryd.sizeOf12
  v12 := Tryd.zeroValue12
  t46 := Tryd.underlying56
  a46 := Tryd.isAgg56
  z46 := Tryd.sizeOf56
  v46 := Tryd.zeroValue56
  t53 := Tryd.underlying70
  a53 := Tryd.isAgg70
  z53 := Tryd.sizeOf70
  v53 := Tryd.zeroValue70
  t119 := Tryd.underlying52
  a119 := Tryd.isAgg52
  z119 := Tryd.sizeOf52
  t138 := Tryd.underlying54
  a138 := Tryd.isAgg54
  z138 := Tryd.sizeOf54
  v138 := Tryd.zeroValue54
  t139 := Tryd.underlying55
  a139 := Tryd.isAgg55
  z139 := Tryd.sizeOf55
  v139 := Tryd.zeroValue55
  g3 := by kernel_rfl
  g4 := by kernel_rfl }
def Tryd.laysEqual_ren : Go.Shelf.Ren := ⟨fun | 193 => 13 | n => n, fun | 31 => 28 | 9 => 9 | 4 => 4 | 3 => 3 | 0 => 0 | n => n, fun | n => n⟩
theorem Tryd.laysEqual : Go.Proofs.Lays.n193 Tryd.prog Tryd.laysEqual_ren := {
  mixed := by kernel_rfl
  f193 := Tryd.func13.trans (congrArg some (by kernel_rfl))
  t0 := Tryd.underlying0
  a0 := Tryd.isAgg0
  z0 := Tryd.sizeOf0
  v0 := Tryd.zeroValue0
  t3 := Tryd.underlying3
  a3 := Tryd.isAgg3
  z3 := Tryd.sizeOf3
  v3 := Tryd.zeroValue3
  t4 := Tryd.underlying4
  a4 := Tryd.isAgg4
  z4 := Tryd.sizeOf4
  v4 := Tryd.zeroValue4
  t9 := Tryd.underlying9
  a9 := Tryd.isAgg9
  z9 := Tryd.sizeOf9
  v9 := Tryd.zeroValue9
  t31 := Tryd.underlying28
  a31 := Tryd.isAgg28
  z31 := Tryd.sizeOf28
  v31 := Tryd.zeroValue28 }
end Go.Proofs

namespace Go.Proofs
open Go.Shelf
theorem Tryd.bits_Mul64 (x y : Nat) (hx : x < 18446744073709551616) (hy : y < 18446744073709551616) (w : World) :
    Calls Tryd.prog 81 #[.int .u64 x, .int .u64 y] w fun e w' => e = .returned (.tuple #[.int .u64 ((x * y / 18446744073709551616 : Nat) : Int), .int .u64 ((x * y % 18446744073709551616 : Nat) : Int)]) ∧ w' = w := Any.bits_Mul64 Tryd.lays264 x y hx hy w
end Go.Proofs

namespace Go.Proofs.YtpebdfofnmojcaaDoor
open Go.RowKit
theorem add64_small (x y c : Nat) (hc : c ≤ 1) (h : x + y + c < 18446744073709551616) (W : World) :
   (callFunc 82 #[.int .u64 x, .int .u64 y, .int .u64 c]).run Tryd.prog W = .ok (.value (.tuple #[.int .u64 (x + y + c : Nat), .int .u64 0])) W := by
  have := Any7.bits_Add64 Tryd.lays25 x y c hc W
  rw [Nat.div_eq_of_lt (by omega), Nat.mod_eq_of_lt (by omega)] at this
  exact this
end Go.Proofs.YtpebdfofnmojcaaDoor

/- The plain functions that the scanner of package token computes, over lists of bytes. No program stands in it. -/
namespace Go.Proofs.YtpebdfofnmojcaaDoor

def letterB (c : Int) : Bool := (decide (97 ≤ c) && decide (c ≤ 122)) || (decide (65 ≤ c) && decide (c ≤ 90))
def digitB (c : Int) : Bool := decide (48 ≤ c) && decide (c ≤ 57)
def wordB (c : Int) : Bool := letterB c || digitB c || (c == 95)
def primeB (c : Int) : Bool := c == 39

/-- The value of a digit, or 99. -/
def digitV (c : Int) : Int :=
  if 48 ≤ c ∧ c ≤ 57 then c - 48 else if 97 ≤ c ∧ c ≤ 102 then c - 87 else if 65 ≤ c ∧ c ≤ 70 then c - 55 else 99

/-- The byte at a place, 32 behind the end. -/
def byteV (l : List UInt8) (k : Nat) : Int := if h : k < l.length then (l[k].toNat : Int) else 32

/-- Where the run of bytes with p ends that begins at k. -/
def runEnd (p : Int → Bool) (l : List UInt8) (k : Nat) : Nat :=
  if h : k < l.length then (if p (l[k].toNat : Int) then runEnd p l (k + 1) else k) else k
  termination_by l.length - k

theorem runEnd_go {p : Int → Bool} {l : List UInt8} {k : Nat} (h : k < l.length) (hp : p (l[k].toNat : Int) = true) : runEnd p l k = runEnd p l (k + 1) := by
  rw [runEnd]; simp [h, hp]
theorem runEnd_stop {p : Int → Bool} {l : List UInt8} {k : Nat} (h : k < l.length) (hp : p (l[k].toNat : Int) = false) : runEnd p l k = k := by
  rw [runEnd]; simp [h, hp]
theorem runEnd_end {p : Int → Bool} {l : List UInt8} {k : Nat} (h : l.length ≤ k) : runEnd p l k = k := by
  rw [runEnd]; simp [Nat.not_lt.2 h]
theorem runEnd_ge (p : Int → Bool) (l : List UInt8) (k : Nat) : k ≤ runEnd p l k := by
  induction h : l.length - k generalizing k with
  | zero => rw [runEnd_end (by omega)]; exact Nat.le_refl _
  | succ n ih =>
    by_cases hp : p ((l[k]'(by omega)).toNat : Int) = true
    · rw [runEnd_go (by omega) hp]; have := ih (k + 1) (by omega); omega
    · rw [runEnd_stop (by omega) (by simpa using hp)]; exact Nat.le_refl _
theorem runEnd_le (p : Int → Bool) (l : List UInt8) (k : Nat) (hk : k ≤ l.length) : runEnd p l k ≤ l.length := by
  induction h : l.length - k generalizing k with
  | zero => rw [runEnd_end (by omega)]; exact hk
  | succ n ih =>
    by_cases hp : p ((l[k]'(by omega)).toNat : Int) = true
    · rw [runEnd_go (by omega) hp]; exact ih (k + 1) (by omega) (by omega)
    · rw [runEnd_stop (by omega) (by simpa using hp)]; exact hk

def wordEnd (l : List UInt8) (k : Nat) : Nat := runEnd primeB l (runEnd wordB l k)
theorem wordEnd_le (l : List UInt8) (k : Nat) (hk : k ≤ l.length) : wordEnd l k ≤ l.length := runEnd_le _ _ _ (runEnd_le _ _ _ hk)
theorem wordEnd_ge (l : List UInt8) (k : Nat) : k ≤ wordEnd l k := Nat.le_trans (runEnd_ge wordB l k) (runEnd_ge primeB l _)

theorem byteV_at (s : ByteArray) (k : Nat) (h : k < s.size) : byteV s.data.toList k = (s[k].toNat : Int) := by
  unfold byteV; rw [dif_pos (by simpa using h)]; rfl
theorem byteV_out (s : ByteArray) (k : Nat) (h : s.size ≤ k) : byteV s.data.toList k = 32 := by
  unfold byteV; rw [dif_neg (by simp; omega)]
theorem len_list (s : ByteArray) : s.data.toList.length = s.size := by simp

/-- Does a symbol that ends in a letter go on as a word? -/
def goesOnB (l : List UInt8) (k : Nat) (t : List UInt8) : Bool :=
  letterB (byteV t (t.length - 1)) && decide (k + t.length < l.length) && wordB (byteV l (k + t.length))

def hasPre (l t : List UInt8) : Bool := t.isPrefixOf l
/-- The step of the search for the longest symbol. -/
def symStep (l : List UInt8) (k : Nat) (best t : List UInt8) : List UInt8 :=
  if best.length < t.length ∧ hasPre (l.drop k) t = true ∧ goesOnB l k t = false then t else best
def longestIn (l : List UInt8) (k : Nat) (ts : List (List UInt8)) : List UInt8 := ts.foldl (symStep l k) []
theorem longestIn_snoc (l : List UInt8) (k : Nat) (ts : List (List UInt8)) (t : List UInt8) : longestIn l k (ts ++ [t]) = symStep l k (longestIn l k ts) t := by
  simp [longestIn, List.foldl_append]

/-- How long a line is. -/
def lineLen (l : List UInt8) : Nat := if 0 ≤ Lib.indexByte l 10 then (Lib.indexByte l 10).toNat else l.length

/-- Where blanks and comments of the first kind end, and whether a line feed was among them; none for a comment of the second kind, or one that is not valid. -/
def blanksF : Nat → List UInt8 → Nat → Bool → Option (Nat × Bool)
  | 0, _, _, _ => none
  | n + 1, l, k, ln =>
    if l.length ≤ k then some (k, ln)
    else if byteV l k = 10 then blanksF n l (k + 1) true
    else if byteV l k = 32 ∨ byteV l k = 9 ∨ byteV l k = 13 then blanksF n l (k + 1) ln
    else if hasPre (l.drop k) [47, 47] = true then
      (if Lib.validD ((l.drop k).take (lineLen (l.drop k))) = true then blanksF n l (k + lineLen (l.drop k)) ln else none)
    else if hasPre (l.drop k) [47, 42] = true then none
    else some (k, ln)
end Go.Proofs.YtpebdfofnmojcaaDoor

/- Contracts of the leaves of package token: isLetter, isDigit, inWord, digit, wordEnd, byteAt. -/
namespace Go.Proofs.YtpebdfofnmojcaaDoor
open Go.RowKit

theorem ret_bool {a b : Bool} (h : a = b) : Ending.returned (.bool a) = .returned (.bool b) := by rw [h]
theorem ret_int {k : IntKind} {a b : Int} (h : a = b) : Ending.returned (.int k a) = .returned (.int k b) := by rw [h]

set_option maxHeartbeats 400000 in
theorem isDigit_any (c : Int) (w : World) :
    Calls Tryd.prog 34 #[.int .u8 c] w fun e w' => e = .returned (.bool (digitB c)) ∧ w = w' := by
  go_enter Tryd.func34, Tryd.ntmps34
  go_wp2
  all_goals go_ret
  all_goals exact ⟨ret_bool (by simp only [digitB]; rw [Bool.eq_iff_iff]; simp; try omega), rfl⟩

set_option maxHeartbeats 400000 in
theorem isLetter_any (c : Int) (w : World) :
    Calls Tryd.prog 45 #[.int .u8 c] w fun e w' => e = .returned (.bool (letterB c)) ∧ w = w' := by
  go_enter Tryd.func45, Tryd.ntmps45
  go_wp2
  all_goals go_ret
  all_goals exact ⟨ret_bool (by simp only [letterB]; rw [Bool.eq_iff_iff]; simp; try omega), rfl⟩

set_option maxHeartbeats 400000 in
theorem inWord_any (c : Int) (w : World) :
    Calls Tryd.prog 35 #[.int .u8 c] w fun e w' => e = .returned (.bool (wordB c)) ∧ w = w' := by
  go_enter Tryd.func35, Tryd.ntmps35
  go_wp2_with (first | (go_at_call 45; refine (isLetter_any _ _).mono ?_; rintro e w' ⟨rfl, rfl⟩) | (go_at_call 34; refine (isDigit_any _ _).mono ?_; rintro e w' ⟨rfl, rfl⟩))
  all_goals go_ret
  all_goals exact ⟨ret_bool (by simp [wordB, *]), rfl⟩

set_option maxHeartbeats 400000 in
theorem digit_any (c : Int) (w : World) (h0 : 0 ≤ c) (h1 : c ≤ 255) :
    Calls Tryd.prog 80 #[.int .u8 c] w fun e w' => e = .returned (.int .i64 (digitV c)) ∧ w = w' := by
  go_enter Tryd.func80, Tryd.ntmps80
  go_wp2_with (first | (go_at_call 34; refine (isDigit_any _ _).mono ?_; rintro e w' ⟨rfl, rfl⟩))
  all_goals go_ret
  all_goals exact ⟨ret_int (by simp only [digitV, digitB, Bool.and_eq_true, Bool.and_eq_false_iff, decide_eq_true_eq, decide_eq_false_iff_not] at *; split <;> (try split) <;> (try split) <;> omega), rfl⟩

theorem byte_getD (s : ByteArray) (k : Nat) (h : k < s.size) : s.data.toList[k]'(by simpa using h) = s[k] := rfl

set_option maxHeartbeats 400000 in
theorem wordEnd_any (s : ByteArray) (a : Nat) (w : World) (hs : s.size ≤ maxLen) (ha : a ≤ s.size) :
    Calls Tryd.prog 36 #[.string s, .int .i64 a] w fun e w' => e = .returned (.int .i64 (wordEnd s.data.toList a)) ∧ w = w' := by
  unfold maxLen at hs
  have HR : Hid (wordEnd s.data.toList a = runEnd primeB s.data.toList (runEnd wordB s.data.toList a)) := rfl
  go_enter Tryd.func36, Tryd.ntmps36
  go_wp2
  go_loop [1] (fun i => ∃ k : Nat, k ≤ s.size ∧ i = .int .i64 k ∧ Hid (runEnd wordB s.data.toList a = runEnd wordB s.data.toList k)) (fun i => s.size - (intOf i).toNat)
  case atStart => exact ⟨a, ha, rfl, rfl⟩
  case round =>
    obtain ⟨k, hk, rfl, hr⟩ := hrel
    by_cases hc : ∃ h : k < s.size, wordB (s[k].toNat : Int) = true
    · obtain ⟨hlt, hp⟩ := hc
      have hg := Lib.hid (runEnd_go (p := wordB) (l := s.data.toList) (k := k) (by simpa using hlt) hp)
      go_wp2_with (first | (go_at_call 35; refine (inWord_any _ _).mono ?_; rintro e w' ⟨rfl, rfl⟩))
      go_round
      case rel => exact ⟨k + 1, by omega, by go_num, by rw [hr.out, hg.out]; exact rfl⟩
      case measure => simp [intOf]; omega
    · have HK : Hid (runEnd wordB s.data.toList a = k) := by
        rw [hr.out]
        by_cases hlt : k < s.size
        · exact runEnd_stop (by simpa using hlt) (by cases e : wordB (s[k].toNat : Int) with | false => exact e | true => exact absurd ⟨hlt, e⟩ hc)
        · exact runEnd_end (by simp; omega)
      clear hr
      have hp : ∀ h : k < s.size, wordB (s[k].toNat : Int) = false := fun h => by
        cases e : wordB (s[k].toNat : Int) with
        | false => rfl
        | true => exact absurd ⟨h, e⟩ hc
      clear hc
      by_cases hlt : k < s.size
      · have hp' := hp hlt
        clear hp
        go_wp2_with (first | (go_at_call 35; refine (inWord_any _ _).mono ?_; rintro e w' ⟨rfl, rfl⟩))
        (go_loop [1] (fun i => ∃ m : Nat, m ≤ s.size ∧ i = .int .i64 m ∧ Hid (runEnd primeB s.data.toList k = runEnd primeB s.data.toList m)) (fun i => s.size - (intOf i).toNat)
         case atStart => exact ⟨k, hk, rfl, rfl⟩
         case round =>
           obtain ⟨m, hm, rfl, hr⟩ := hrel
           by_cases hc : ∃ h : m < s.size, ((s[m].toNat : Int) == 39) = true
           · obtain ⟨hlt2, hp2⟩ := hc
             have hg := Lib.hid (runEnd_go (p := primeB) (l := s.data.toList) (k := m) (by simpa using hlt2) hp2)
             go_wp2
             go_round
             case rel => exact ⟨m + 1, by omega, by go_num, by rw [hr.out, hg.out]; exact rfl⟩
             case measure => simp [intOf]; omega
           · have HM : Hid (runEnd primeB s.data.toList k = m) := by
               rw [hr.out]
               by_cases hlt2 : m < s.size
               · exact runEnd_stop (by simpa using hlt2) (by cases e : primeB (s[m].toNat : Int) with | false => exact e | true => exact absurd ⟨hlt2, e⟩ hc)
               · exact runEnd_end (by simp; omega)
             clear hr
             have hp2 : ∀ h : m < s.size, ((s[m].toNat : Int) == 39) = false := fun h => by
               cases e : ((s[m].toNat : Int) == 39) with
               | false => rfl
               | true => exact absurd ⟨h, e⟩ hc
             clear hc
             by_cases hlt2 : m < s.size
             · have hp3 := hp2 hlt2
               clear hp2
               go_wp2
               go_ret
               exact ⟨ret_int (by rw [HR.out, HK.out, HM.out]), rfl⟩
             · clear hp2
               go_wp2
               go_ret
               exact ⟨ret_int (by rw [HR.out, HK.out, HM.out]), rfl⟩)
      · clear hp
        go_wp2_with (fail)
        (go_loop [1] (fun i => ∃ m : Nat, m ≤ s.size ∧ i = .int .i64 m ∧ Hid (runEnd primeB s.data.toList k = runEnd primeB s.data.toList m)) (fun i => s.size - (intOf i).toNat)
         case atStart => exact ⟨k, hk, rfl, rfl⟩
         case round =>
           obtain ⟨m, hm, rfl, hr⟩ := hrel
           by_cases hc : ∃ h : m < s.size, ((s[m].toNat : Int) == 39) = true
           · obtain ⟨hlt2, hp2⟩ := hc
             have hg := Lib.hid (runEnd_go (p := primeB) (l := s.data.toList) (k := m) (by simpa using hlt2) hp2)
             go_wp2
             go_round
             case rel => exact ⟨m + 1, by omega, by go_num, by rw [hr.out, hg.out]; exact rfl⟩
             case measure => simp [intOf]; omega
           · have HM : Hid (runEnd primeB s.data.toList k = m) := by
               rw [hr.out]
               by_cases hlt2 : m < s.size
               · exact runEnd_stop (by simpa using hlt2) (by cases e : primeB (s[m].toNat : Int) with | false => exact e | true => exact absurd ⟨hlt2, e⟩ hc)
               · exact runEnd_end (by simp; omega)
             clear hr
             have hp2 : ∀ h : m < s.size, ((s[m].toNat : Int) == 39) = false := fun h => by
               cases e : ((s[m].toNat : Int) == 39) with
               | false => rfl
               | true => exact absurd ⟨h, e⟩ hc
             clear hc
             by_cases hlt2 : m < s.size
             · have hp3 := hp2 hlt2
               clear hp2
               go_wp2
               go_ret
               exact ⟨ret_int (by rw [HR.out, HK.out, HM.out]), rfl⟩
             · clear hp2
               go_wp2
               go_ret
               exact ⟨ret_int (by rw [HR.out, HK.out, HM.out]), rfl⟩)
end Go.Proofs.YtpebdfofnmojcaaDoor

/- The scanner's block in memory, and what keeps it. -/
namespace Go.Proofs.YtpebdfofnmojcaaDoor
open Go.RowKit

/-- Block b is the scanner: its text, its place, its mark of a line, its keywords, its tokens. -/
def Scn (w : World) (b : Nat) (s : ByteArray) (k : Int) (ln : Bool) (M T : Value) : Prop :=
  w.heap[b]? = some (.cells #[.string s, .int .i64 k, .bool ln, M, T] 66 (0, 0))

section
variable {w w' : World} {b : Nat} {s : ByteArray} {k : Int} {ln : Bool} {M T : Value}
theorem Scn.lt (h : Scn w b s k ln M T) : b < w.heap.size := (Array.getElem?_eq_some_iff.1 h).1
theorem Scn.c0 (h : Scn w b s k ln M T) : w.cell? ⟨b, 0, none⟩ = some (.string s) := by unfold Scn at h; simp [World.cell?, h]
theorem Scn.c1 (h : Scn w b s k ln M T) : w.cell? ⟨b, 1, none⟩ = some (.int .i64 k) := by unfold Scn at h; simp [World.cell?, h]
theorem Scn.c2 (h : Scn w b s k ln M T) : w.cell? ⟨b, 2, none⟩ = some (.bool ln) := by unfold Scn at h; simp [World.cell?, h]
theorem Scn.c3 (h : Scn w b s k ln M T) : w.cell? ⟨b, 3, none⟩ = some M := by unfold Scn at h; simp [World.cell?, h]
theorem Scn.c4 (h : Scn w b s k ln M T) : w.cell? ⟨b, 4, none⟩ = some T := by unfold Scn at h; simp [World.cell?, h]
theorem Scn.fz (h : Scn w b s k ln M T) (i : Nat) : w.frozen? ⟨b, i, none⟩ = false := by unfold Scn at h; simp [World.frozen?, h]
theorem Scn.set1 (h : Scn w b s k ln M T) (k' : Int) : Scn (w.setCell ⟨b, 1, none⟩ (.int .i64 k')) b s k' ln M T := by
  unfold Scn at h ⊢; simp [World.setCell, Array.getElem?_modify, h]
theorem Scn.set2 (h : Scn w b s k ln M T) (l : Bool) : Scn (w.setCell ⟨b, 2, none⟩ (.bool l)) b s k l M T := by
  unfold Scn at h ⊢; simp [World.setCell, Array.getElem?_modify, h]
theorem Scn.set4 (h : Scn w b s k ln M T) (T' : Value) : Scn (w.setCell ⟨b, 4, none⟩ T') b s k ln M T' := by
  unfold Scn at h ⊢; simp [World.setCell, Array.getElem?_modify, h]
theorem Scn.drew (h : Scn w b s k ln M T) : Scn w.drew b s k ln M T := h
theorem Scn.drewN (h : Scn w b s k ln M T) (n : Nat) : Scn (w.drewN n) b s k ln M T := h
theorem Scn.alloc (h : Scn w b s k ln M T) (o : Obj) : Scn (w.alloc o) b s k ln M T := (Below.heap_alloc w o b h.lt).trans h
theorem Scn.setOther (h : Scn w b s k ln M T) (a : Addr) (v : Value) (hb : a.block ≠ b) : Scn (w.setCell a v) b s k ln M T := (Below.heap_setCell w a v b (Ne.symm hb)).trans h
theorem Scn.grown (h : Scn w b s k ln M T) {row : Option Nat} (hg : w.grownBy w' row) (hr : some b ≠ row) : Scn w' b s k ln M T := (hg.block b h.lt hr).trans h
end
end Go.Proofs.YtpebdfofnmojcaaDoor

/- Contracts: byteAt, goesOn. -/
namespace Go.Proofs.YtpebdfofnmojcaaDoor
open Go.RowKit

set_option maxHeartbeats 400000 in
theorem byteAt_any (b : Nat) (s : ByteArray) (j : Int) (ln : Bool) (M T : Value) (k : Nat) (w : World) (_hs : s.size ≤ maxLen) (h : Scn w b s j ln M T) :
    Calls Tryd.prog 64 #[.pointer (some ⟨b, 0, none⟩), .int .i64 k] w fun e w' => e = .returned (.int .u8 (byteV s.data.toList k)) ∧ w = w' := by
  unfold maxLen at _hs
  have h0 := h.c0
  have HV : Hid (byteV s.data.toList k = if h : k < s.size then (s[k].toNat : Int) else 32) := by unfold byteV; simp; rfl
  clear h
  go_enter Tryd.func64, Tryd.ntmps64
  by_cases hlt : k < s.size
  · go_wp2
    go_ret
    exact ⟨ret_int (by rw [HV.out]; simp [hlt]), rfl⟩
  · go_wp2
    go_ret
    exact ⟨ret_int (by rw [HV.out]; simp [hlt]), rfl⟩

set_option maxHeartbeats 400000 in
theorem goesOn_any (b : Nat) (s t : ByteArray) (k : Nat) (ln : Bool) (M T : Value) (w : World) (hs : s.size ≤ maxLen) (ht0 : 0 < t.size) (ht : t.size ≤ 1000) (hk : k ≤ s.size) (h : Scn w b s k ln M T) (hs2 : s.size ≤ 4000000000) :
    Calls Tryd.prog 61 #[.pointer (some ⟨b, 0, none⟩), .string t] w fun e w' => e = .returned (.bool (goesOnB s.data.toList k t.data.toList)) ∧ w = w' := by
  unfold maxLen at hs
  have h0 := h.c0
  have h1 := h.c1
  clear h
  have HV : Hid (goesOnB s.data.toList k t.data.toList = (letterB (t[t.size - 1]'(by omega)).toNat && decide (k + t.size < s.size) && wordB (byteV s.data.toList (k + t.size)))) := by
    refine Lib.hid ?_
    unfold goesOnB
    rw [len_list, len_list, byteV_at t (t.size - 1) (by omega)]
  have e1 : ((t.size : Int) - 1).toNat = t.size - 1 := by omega
  have e2 : IntKind.i64.wrap ((k : Int) + t.size) = (k : Int) + t.size := IntWalk.i64_in _ (by omega)
  go_enter Tryd.func61, Tryd.ntmps61
  go_wp2_with (first | (go_at_call 45; refine (isLetter_any _ _).mono ?_; rintro e w' ⟨rfl, rfl⟩) | (go_at_call 35; refine (inWord_any _ _).mono ?_; rintro e w' ⟨rfl, rfl⟩))
  all_goals go_ret
  · have hlt : k + t.size < s.size := by omega
    refine ⟨ret_bool ?_, rfl⟩
    have ea : ((k : Int) + t.size).toNat = k + t.size := by omega
    rw [HV.out, byteV_at s (k + t.size) hlt]
    simp [*]
  · have hlt : ¬ k + t.size < s.size := by omega
    exact ⟨ret_bool (by rw [HV.out]; simp [hlt]), rfl⟩
  · have hl : letterB (t[t.size - 1]'(by omega)).toNat = false := by simpa using ‹¬ letterB _ = true›
    exact ⟨ret_bool (by rw [HV.out, hl]; simp), rfl⟩
end Go.Proofs.YtpebdfofnmojcaaDoor

/- The two tables of package token: the keywords and the symbols. -/
namespace Go.Proofs.YtpebdfofnmojcaaDoor
open Go.RowKit Go.WideMaps Go.Maps

def kwBytes : List (List UInt8) := [[97, 99, 116, 111, 114],
  [97, 110, 100],
  [97, 115],
  [98, 101],
  [98, 111, 120],
  [98, 114, 101, 97, 107],
  [99, 108, 97, 115, 115],
  [99, 111, 110, 115, 117, 109, 101],
  [99, 111, 110, 116, 105, 110, 117, 101],
  [100, 111],
  [101, 108, 115, 101],
  [101, 108, 115, 101, 105, 102],
  [101, 110, 100],
  [101, 114, 114, 111, 114],
  [102, 97, 108, 115, 101],
  [102, 111, 114],
  [102, 117, 110],
  [105, 102],
  [105, 102, 100, 101, 102],
  [105, 110],
  [105, 110, 116, 101, 114, 102, 97, 99, 101],
  [105, 115],
  [105, 115, 110, 116],
  [105, 115, 111],
  [108, 101, 116],
  [109, 97, 116, 99, 104],
  [110, 101, 119],
  [110, 111, 116],
  [111, 98, 106, 101, 99, 116],
  [111, 114],
  [112, 114, 105, 109, 105, 116, 105, 118, 101],
  [114, 101, 99, 111, 118, 101, 114],
  [114, 101, 102],
  [114, 101, 112, 101, 97, 116],
  [114, 101, 116, 117, 114, 110],
  [116, 97, 103],
  [116, 104, 101, 110],
  [116, 104, 105, 115],
  [116, 114, 97, 105, 116],
  [116, 114, 110],
  [116, 114, 117, 101],
  [116, 114, 121],
  [116, 121, 112, 101],
  [117, 110, 116, 105, 108],
  [117, 115, 101],
  [118, 97, 108],
  [118, 97, 114],
  [119, 104, 101, 114, 101],
  [119, 104, 105, 108, 101],
  [119, 105, 116, 104],
  [120, 111, 114]]
def symBytes : List (List UInt8) := [[60, 60],
  [62, 62],
  [61, 61],
  [33, 61],
  [60, 61],
  [62, 61],
  [61, 62],
  [45, 62],
  [46, 62],
  [43, 63],
  [45, 63],
  [42, 63],
  [47, 63],
  [37, 63],
  [35, 114, 101, 97, 100],
  [35, 115, 101, 110, 100],
  [35, 115, 104, 97, 114, 101],
  [35, 97, 108, 105, 97, 115],
  [35, 97, 110, 121],
  [40],
  [41],
  [91],
  [93],
  [123],
  [125],
  [44],
  [46],
  [58],
  [59],
  [63],
  [61],
  [60],
  [62],
  [43],
  [45],
  [42],
  [47],
  [37],
  [124],
  [38],
  [94],
  [33],
  [126]]
def str (l : List UInt8) : ByteArray := ⟨l.toArray⟩
theorem str_list (l : List UInt8) : (str l).data.toList = l := rfl
theorem str_size (l : List UInt8) : (str l).size = l.length := by simp [str, ByteArray.size]
def cellsOfL (l : List (List UInt8)) : Array Value := (l.map fun x => Value.string (str x)).toArray
theorem kw_len : kwBytes.length = 51 := by decide +kernel
theorem sym_len : symBytes.length = 43 := by decide +kernel

theorem run_isAgg9 (w : World) : (isAgg 9).run Tryd.prog w = .ok false w := by kernel_rfl
theorem run_size9 (w : World) : (sizeOf 9).run Tryd.prog w = .ok 1 w := by kernel_rfl
theorem part_of (w : World) (l : List (List UInt8)) (k : Nat) (hk : k < l.length) : (part 9 (cellsOfL l) k).run Tryd.prog w = .ok (.string (str (l[k]))) w := by
  have hc : (cellsOfL l)[k]? = some (.string (str (l[k]))) := by simp [cellsOfL, hk]
  unfold part
  simp only [Sem.run_bind, run_isAgg9, Result.andThen_ok, hc]
  rfl

theorem idx44 (k : Nat) (hk : k < 51) (w : World) : (Instr.index 44 (.agg (cellsOfL kwBytes)) (.int .i64 k)).run Tryd.prog w = .ok (.string (str (kwBytes[k]'(by rw [kw_len]; exact hk)))) w := by
  have hc : (cellsOfL kwBytes)[k]? = some (.string (str (kwBytes[k]'(by rw [kw_len]; exact hk)))) := by simp [cellsOfL, kw_len, hk]
  simp [Instr.index, run_underlying Tryd.underlying44, go_sem, hc, hk]
theorem idx45 (k : Nat) (hk : k < 43) (w : World) : (Instr.index 45 (.agg (cellsOfL symBytes)) (.int .i64 k)).run Tryd.prog w = .ok (.string (str (symBytes[k]'(by rw [sym_len]; exact hk)))) w := by
  have hc : (cellsOfL symBytes)[k]? = some (.string (str (symBytes[k]'(by rw [sym_len]; exact hk)))) := by simp [cellsOfL, sym_len, hk]
  simp [Instr.index, run_underlying Tryd.underlying45, go_sem, hc, hk]

/-- The two tables lie in memory as their initialisers lay them. -/
def GKw (w : World) : Prop := ∃ t fr, w.heap[0]? = some (.cells (cellsOfL kwBytes) t fr)
def GSym (w : World) : Prop := ∃ t fr, w.heap[1]? = some (.cells (cellsOfL symBytes) t fr)
theorem info44 : (Tryd.prog.info? 44).map (·.size) = some 51 := by kernel_rfl
theorem info45 : (Tryd.prog.info? 45).map (·.size) = some 43 := by kernel_rfl
theorem size_kw : (cellsOfL kwBytes).size = 51 := by simp [cellsOfL, kw_len]
theorem size_sym : (cellsOfL symBytes).size = 43 := by simp [cellsOfL, sym_len]

/-- The k-th keyword. -/
def kwAt (k : Nat) : List UInt8 := kwBytes.getD k []
def symAt (k : Nat) : List UInt8 := symBytes.getD k []
theorem idx44' (k : Nat) (hk : k < 51) (w : World) : (Instr.index 44 (.agg (cellsOfL kwBytes)) (.int .i64 k)).run Tryd.prog w = .ok (.string (str (kwAt k))) w := by
  rw [idx44 k hk w]; congr 3; simp [kwAt, List.getD, List.getElem?_eq_getElem (show k < kwBytes.length by rw [kw_len]; exact hk)]
theorem idx45' (k : Nat) (hk : k < 43) (w : World) : (Instr.index 45 (.agg (cellsOfL symBytes)) (.int .i64 k)).run Tryd.prog w = .ok (.string (str (symAt k))) w := by
  rw [idx45 k hk w]; congr 3; simp [symAt, List.getD, List.getElem?_eq_getElem (show k < symBytes.length by rw [sym_len]; exact hk)]

/-- The set of the keywords. -/
def kwLits (k : Nat) : List Lit := (kwBytes.take k).map Lit.string
def kwSet (k : Nat) : DataW Unit := setOf (.lit (.bool true)) (kwLits k)
theorem kwSet_step (k : Nat) (hk : k < 51) : kwSet (k + 1) = (kwSet k).put (.string (kwAt k)) (.lit (.bool true)) := by
  unfold kwSet kwLits
  rw [List.take_add_one, List.getElem?_eq_getElem (show k < kwBytes.length by rw [kw_len]; exact hk)]
  simp only [Option.toList, List.map_append, List.map_cons, List.map_nil]
  rw [setOf_snoc]
  simp [kwAt, List.getD, List.getElem?_eq_getElem (show k < kwBytes.length by rw [kw_len]; exact hk)]
theorem law9 : Keyed Tryd.prog 9 := string_keyed Tryd.underlying9
theorem kw_small (k : Nat) : (str (kwAt k)).size ≤ 100 := by
  rw [str_size]
  by_cases hk : k < 51
  · have : ∀ j : Fin 51, (kwAt j.1).length ≤ 100 := by decide +kernel
    exact this ⟨k, hk⟩
  · simp [kwAt, List.getD, List.getElem?_eq_none (show kwBytes.length ≤ k by rw [kw_len]; omega)]
theorem kw_key (k : Nat) : keyOf Tryd.prog 9 (.string (str (kwAt k))) = some (.string (kwAt k)) :=
  keyOf_string_mk (s := str (kwAt k)) Tryd.underlying9 (by have := kw_small k; unfold maxLen; omega)

set_option maxRecDepth 100000 in
set_option maxHeartbeats 400000 in
theorem keywordSet_any (w : World) (hg : GKw w) :
    Calls Tryd.prog 41 #[] w fun e w' => e = .returned (.map (some w.heap.size)) ∧ w'.ownsMap Tryd.prog 9 (plainElem Tryd.prog 4) w.heap.size 51 (kwSet 51) ∧ w.grownBy w' none := by
  obtain ⟨t, fr, hg⟩ := hg
  have hmm := @run_makeMap Tryd.prog
  have hlt : 0 < w.heap.size := (Array.getElem?_eq_some_iff.1 hg).1
  have hg1 : (w.alloc (.map #[] 0)).heap[0]? = some (.cells (cellsOfL kwBytes) t fr) := (Below.heap_alloc w _ 0 hlt).trans hg
  go_enter Tryd.func41, Tryd.ntmps41
  go_wp2_with (first | (refine wpList_load_row rfl 44 _ rfl 0 rfl t (cellsOfL kwBytes) fr (.array 51 9) hg1 Tryd.underlying44 rfl (by rw [info44, size_kw]) ?_))
  clear hg1 hg
  go_outline
  go_loopw [6] (fun i wr => ∃ k : Nat, k ≤ 51 ∧ i = .int .i64 k ∧ wr.ownsMap Tryd.prog 9 (plainElem Tryd.prog 4) w.heap.size k (kwSet k) ∧ w.grownBy wr none) (fun i _ => 51 - (intOf i).toNat)
  case atStart => exact ⟨0, Nat.zero_le _, rfl, World.ownsMap_made _ _ _ _, World.grownBy_alloc _ _ _⟩
  case round =>
    obtain ⟨k, hk, rfl, hown, hgr⟩ := hrel
    by_cases hlt : k < 51
    · have hi := fun W => idx44' k hlt W
      have hkey := kw_key k
      go_wp2_with (first
        | (at_mapUpdate; refine wpList_mapUpdate_own _ rfl _ _ _ 63 rfl 9 4 law9 Tryd.underlying63 _ w.heap.size k _ rfl hown (by unfold maxLen; omega) _ _ _ rfl rfl hkey _ [] (plainElem_bool Tryd.underlying4 true) ?_)
        | go_in)
      intro w1 hown1 hgrow1
      rw [← kwSet_step k hlt] at hown1
      have R2 := World.grownBy.andThen hgr hgrow1 (fun j hj => by cases hj; exact .inl (Nat.le_refl _))
      clear hown hgr hgrow1
      go_wp2
      go_roundw
      case rel => exact ⟨k + 1, by omega, by go_num, hown1, R2⟩
      case measure => simp [intOf]; omega
    · obtain rfl : k = 51 := by omega
      go_wp2
      go_ret
      exact ⟨rfl, hown, hgr⟩
end Go.Proofs.YtpebdfofnmojcaaDoor

/- Contracts: strings.HasPrefix, longest. -/
namespace Go.Proofs.YtpebdfofnmojcaaDoor
open Go.RowKit

theorem prefix_spec (l t : List UInt8) (h : t.length ≤ l.length) : (l.take t.length == t) = t.isPrefixOf l := by
  induction t generalizing l with
  | nil => simp
  | cons x t ih =>
    cases l with
    | nil => simp at h
    | cons y l => simp [List.isPrefixOf, ← ih l (by simpa using h), Bool.beq_comm (a := x) (b := y)]
theorem prefix_long (l t : List UInt8) (h : l.length < t.length) : t.isPrefixOf l = false := by
  cases e : t.isPrefixOf l with
  | false => rfl
  | true => have := (List.isPrefixOf_iff_prefix.1 e).length_le; omega
theorem extract_list (s : ByteArray) (a b : Nat) : (s.extract a b).data.toList = (s.data.toList.drop a).take (b - a) := by
  simp [ByteArray.data_extract, List.extract_eq_drop_take']
theorem toList_data (s : ByteArray) : s.toList = s.data.toList := by
  simp [ByteArray.toList_eq]

set_option maxHeartbeats 400000 in
theorem prefix_in (s t : ByteArray) (w : World) (_hs : s.size ≤ maxLen) (_ht : t.size ≤ maxLen) :
    Calls Tryd.prog 68 #[.string s, .string t] w fun e w' => e = .returned (.bool (hasPre s.data.toList t.data.toList)) ∧ w = w' := by
  unfold maxLen at _hs _ht
  go_enter Tryd.func68, Tryd.ntmps68
  by_cases hle : t.size ≤ s.size
  · go_wp2
    go_ret
    exact ⟨ret_bool (by unfold hasPre; rw [← prefix_spec _ _ (by simpa using hle), toList_data, toList_data, extract_list]; simp), rfl⟩
  · go_wp2
    go_ret
    exact ⟨ret_bool (by unfold hasPre; rw [prefix_long _ _ (by simpa using hle)]), rfl⟩
set_option maxHeartbeats 400000 in
theorem prefix_any (s t : ByteArray) (w : World) (hs : s.size ≤ maxLen) (ht : t.size ≤ maxLen) :
    Calls Tryd.prog 54 #[.string s, .string t] w fun e w' => e = .returned (.bool (hasPre s.data.toList t.data.toList)) ∧ w = w' := by
  go_enter Tryd.func54, Tryd.ntmps54
  go_wp2_with (first | (go_at_call 68; refine (prefix_in _ _ _ hs ht).mono ?_; rintro e w' ⟨rfl, rfl⟩))
  go_ret
  exact ⟨rfl, rfl⟩

theorem quiet_w {P : Program} {f : FuncId} {args : Array Value} {w : World} {n : Nat} {v : Value}
    (h : Calls P f args (w.drewN n) fun e w' => e = .returned v ∧ w.drewN n = w') : Calls P f args (w.drewN n) fun e w'' => e = .returned v ∧ ∃ m, w'' = w.drewN m :=
  h.mono fun _ _ ⟨he, hm⟩ => ⟨he, n, hm.symm⟩
theorem sym_facts : ∀ k : Fin 43, 0 < (symAt k.1).length ∧ (symAt k.1).length ≤ 10 := by decide +kernel
def bestAt (l : List UInt8) (a k : Nat) : List UInt8 := longestIn l a (symBytes.take k)
theorem bestAt_step (l : List UInt8) (a k : Nat) (hk : k < 43) : bestAt l a (k + 1) = symStep l a (bestAt l a k) (symAt k) := by
  unfold bestAt
  rw [List.take_add_one, List.getElem?_eq_getElem (show k < symBytes.length by rw [sym_len]; exact hk)]
  simp only [Option.toList]
  rw [longestIn_snoc]
  simp [symAt, List.getD, List.getElem?_eq_getElem (show k < symBytes.length by rw [sym_len]; exact hk)]
theorem bestAt_len (l : List UInt8) (a k : Nat) (hk : k ≤ 43) : (bestAt l a k).length ≤ 10 := by
  induction k with
  | zero => simp [bestAt, longestIn]
  | succ k ih =>
    rw [bestAt_step l a k (by omega)]
    unfold symStep
    split
    · exact (sym_facts ⟨k, by omega⟩).2
    · exact ih (by omega)

set_option maxRecDepth 100000 in
set_option maxHeartbeats 800000 in
theorem longest_any (b : Nat) (s : ByteArray) (a : Nat) (ln : Bool) (M T : Value) (w : World) (hs : s.size ≤ 4000000000) (ha : a ≤ s.size) (h : Scn w b s a ln M T) (hG : GSym w) :
    Calls Tryd.prog 49 #[.pointer (some ⟨b, 0, none⟩)] w fun e w' => e = .returned (.string (str (bestAt s.data.toList a 43))) ∧ ∃ n, w' = w.drewN n := by
  obtain ⟨t, fr, hg⟩ := hG
  have h0 := h.c0
  have h1 := h.c1
  go_enter Tryd.func49, Tryd.ntmps49
  go_wp2_with (first | (refine wpList_load_row rfl 45 _ rfl 1 rfl t (cellsOfL symBytes) fr (.array 43 9) hg Tryd.underlying45 rfl (by rw [info45, size_sym]) ?_))
  clear hg
  go_loopw [3, 7] (fun v i wr => ∃ k : Nat, k ≤ 43 ∧ i = .int .i64 k ∧ v = .string (str (bestAt s.data.toList a k)) ∧ ∃ n, wr = w.drewN n) (fun _ i _ => 43 - (intOf i).toNat)
  case atStart => exact ⟨0, Nat.zero_le _, rfl, rfl, 0, rfl⟩
  case round =>
    obtain ⟨k, hk, rfl, rfl, n, rfl⟩ := hrel
    by_cases hlt : k < 43
    · have hi := fun W => idx45' k hlt W
      have hf := sym_facts ⟨k, hlt⟩
      have hb := bestAt_len s.data.toList a k hk
      have hst := Lib.hid (bestAt_step s.data.toList a k hlt)
      generalize bestAt s.data.toList a k = best at *
      generalize symAt k = sy at *
      have z1 := str_size best
      have z2 := str_size sy
      have hsc : Scn (w.drewN n) b s a ln M T := h.drewN n
      have e0 := hsc.c0
      have e1 := hsc.c1
      clear h0 h1 h
      obtain ⟨W, hW⟩ : ∃ W, W = w.drewN n := ⟨_, rfl⟩
      rw [← hW] at hsc e0 e1 ⊢
      have HW := Lib.hid hW
      clear hW
      have P1 : ∀ m, Calls Tryd.prog 54 #[.string (s.extract a s.size), .string (str sy)] (W.drewN m) fun e w' => e = .returned (.bool (hasPre (s.data.toList.drop a) sy)) ∧ W.drewN m = w' := fun m => by
        have e : (s.extract a s.size).data.toList = s.data.toList.drop a := by rw [extract_list]; exact List.take_of_length_le (by simp)
        have := prefix_any (s.extract a s.size) (str sy) (W.drewN m) (by unfold maxLen; rw [← len_list, e]; simp; omega) (by unfold maxLen; omega)
        rwa [e, str_list] at this
      have P2 : ∀ m, Calls Tryd.prog 61 #[.pointer (some ⟨b, 0, none⟩), .string (str sy)] (W.drewN m) fun e w' => e = .returned (.bool (goesOnB s.data.toList a sy)) ∧ W.drewN m = w' := fun m =>
        goesOn_any b s (str sy) a ln M T _ (by unfold maxLen; omega) (by omega) (by omega) ha (hsc.drewN m) hs
      by_cases hl : best.length < sy.length
      · have hl' : decide ((best.length : Int) < (sy.length : Int)) = true := by simpa using hl
        cases hp : hasPre (s.data.toList.drop a) sy with
        | true =>
          rw [hp] at P1
          cases hq : goesOnB s.data.toList a sy with
          | true =>
            rw [hq] at P2
            have P1' := Lib.hid P1
            have P2' := Lib.hid P2
            clear P1 P2
            have hst' := hst.out
            rw [symStep, if_neg (by simp [hp, hq])] at hst'
            have HS := Lib.hid hst'
            clear hst hst' hp hq
            go_wp2
            go_quiet ((first | (go_at_call 54; exact quiet_w (P1'.out _)) | (go_at_call 61; exact quiet_w (P2'.out _))))
            go_wp2
            go_roundw
            case rel => exact ⟨k + 1, by omega, by go_num, by rw [HS.out], _, by rw [HW.out, World.drewN_drewN]⟩
            case measure => simp [intOf]; omega
          | false =>
            rw [hq] at P2
            have P1' := Lib.hid P1
            have P2' := Lib.hid P2
            clear P1 P2
            have hst' := hst.out
            rw [symStep, if_pos ⟨hl, hp, hq⟩] at hst'
            have HS := Lib.hid hst'
            clear hst hst' hp hq
            go_wp2
            go_quiet ((first | (go_at_call 54; exact quiet_w (P1'.out _)) | (go_at_call 61; exact quiet_w (P2'.out _))))
            go_wp2
            go_roundw
            case rel => exact ⟨k + 1, by omega, by go_num, by rw [HS.out], _, by rw [HW.out, World.drewN_drewN]⟩
            case measure => simp [intOf]; omega
        | false =>
          rw [hp] at P1
          have P1' := Lib.hid P1
          clear P1 P2
          have hst' := hst.out
          rw [symStep, if_neg (by simp [hp])] at hst'
          have HS := Lib.hid hst'
          clear hst hst' hp
          go_wp2
          go_quiet ((first | (go_at_call 54; exact quiet_w (P1'.out _))))
          go_wp2
          go_roundw
          case rel => exact ⟨k + 1, by omega, by go_num, by rw [HS.out], _, by rw [HW.out, World.drewN_drewN]⟩
          case measure => simp [intOf]; omega
      · have hl' : decide ((best.length : Int) < (sy.length : Int)) = false := by simpa using hl
        clear P1 P2
        have hst' := hst.out
        rw [symStep, if_neg (by simp [hl])] at hst'
        have HS := Lib.hid hst'
        clear hst hst'
        go_wp2
        go_quiet (fail)
        go_wp2
        go_roundw
        case rel => exact ⟨k + 1, by omega, by go_num, by rw [HS.out], _, by rw [HW.out, World.drewN_drewN]⟩
        case measure => simp [intOf]; omega
    · obtain rfl : k = 43 := by omega
      go_wp2
      go_ret
      exact ⟨rfl, n, rfl⟩
end Go.Proofs.YtpebdfofnmojcaaDoor

/- The digits of a number: what the iterator hands over, and where it ends. -/
namespace Go.Proofs.YtpebdfofnmojcaaDoor
def digF : Nat → List UInt8 → Int → Nat → Bool → Option (List Int × Nat)
  | 0, _, _, _, _ => none
  | n + 1, l, base, k, between =>
    if digitV (byteV l k) < base then
      match digF n l base (k + 1) true with
      | some (ds, k') => some (digitV (byteV l k) :: ds, k')
      | none => none
    else if byteV l k = 95 ∧ between = true ∧ digitV (byteV l (k + 1)) < base then digF n l base (k + 1) false
    else some ([], k)
theorem byteV_range (l : List UInt8) (k : Nat) : 0 ≤ byteV l k ∧ byteV l k ≤ 255 := by
  unfold byteV
  split
  · rename_i h; have := (l[k]).toNat_lt; omega
  · omega
theorem digitV_range (c : Int) (h0 : 0 ≤ c) (h1 : c ≤ 255) : 0 ≤ digitV c ∧ digitV c ≤ 99 := by
  unfold digitV; split <;> (try split) <;> (try split) <;> omega
end Go.Proofs.YtpebdfofnmojcaaDoor

/- A loop over an iterator that writes memory of its own between two rounds, every round of which says 'go on'. -/
namespace Go.Proofs.YtpebdfofnmojcaaDoor
open Go.RowKit
variable {F : Fence} {n : Nat} {P : Program}

/-- But for two blocks all lies as it lay. -/
def SameTo (B : Nat) (W W' : World) : Prop := (W'.os = W.os ∧ W'.tape = W.tape ∧ W'.output = W.output) ∧ B ≤ W.heap.size ∧ W.heap.size ≤ W'.heap.size ∧ ∀ k, k < W.heap.size → k ≠ B → k ≠ B + 1 → W'.heap[k]? = W.heap[k]?
theorem SameTo.put {B : Nat} (W : World) (o : Obj) (h : B ≤ W.heap.size) : SameTo B W (W.putObj (B + 1) o) := ⟨⟨rfl, rfl, rfl⟩, h, by simp, fun _ _ _ hk => World.putObj_heap_other hk⟩
theorem SameTo.at {B k : Nat} {W W' : World} (h : SameTo B W W') (hk : k < B) : W'.heap[k]? = W.heap[k]? := h.2.2.2 k (by have := h.2.1; omega) (by omega) (by omega)

/-- What the iterator is: at each invariant J that its own steps leave alone, and rounds that hand J on and keep what it reads, it comes to its end with all of ds handed over. Own: its own step on the world. Kp: what a round must keep. Z0, Z: what it finds, and leaves, of its own. -/
def Iter (F : Fence) (n : Nat) (P : Program) (gf : Nat) (lb : Array Value) (ds : List Int) (B : Nat) (Own : World → World → Prop) (Kp : World → World → Prop) (Z0 Z : World → Prop) : Prop :=
  ∀ (l : Nat) (J : List Int → World → Prop) (W : World), B ≤ l → (∀ pre A C, J pre A → Own A C → J pre C) →
    (∀ pre x W1, (∃ rest, ds = pre ++ x :: rest) → J pre W1 → YieldAt F (n - 1) P l #[.int .i64 x] W1 fun e W' => e = .returned (.bool true) ∧ J (pre ++ [x]) W' ∧ Kp W1 W') →
    J [] W → Z0 W →
    CallsIn F n P gf (#[.func (.yield l) #[] #[]] ++ lb) W fun e W' => (∃ v, e = .returned v) ∧ J ds W' ∧ Z W'

theorem range_own {g : Operand} {p : Tmp} {assign body : Code} {Q : Exit → Act → World → Prop} {a : Act} {w : World}
    (hro : F.round = none) (h1 : 1 ≤ n) {gf : Nat} {lb : Array Value} (hg : a.eval g = .func (.func gf) #[] lb) (hFg : F.fn gf) (eg : ∀ args w, (callFunc gf args).run P w = .ok (.enter gf args) w)
    {ds : List Int} {Own Kp : World → World → Prop} {Z0 Z : World → Prop} (hseq : Iter F (n - 1) P gf lb ds w.heap.size Own Kp Z0 Z)
    (hOwn : ∀ A C, Own A C → ∀ k, w.heap.size ≤ k → C.heap[k]? = A.heap[k]?)
    (hKt : ∀ {A B C : World}, Kp A B → Kp B C → Kp A C) (hKb : ∀ A C, SameTo w.heap.size A C → Kp A C)
    (hZ0 : ∀ A C, SameTo w.heap.size A C → Z0 A → Z0 C) (hZ : ∀ A C, SameTo w.heap.size A C → Z A → Z C) (z0 : Z0 w)
    (I : List Int → World → Prop) (hI : ∀ pre A C, SameTo w.heap.size A C → A.heap.size ≤ C.heap.size → I pre A → I pre C) (hIo : ∀ pre A C, Own A C → I pre A → I pre C) (h0 : I [] w) (a₁ : Int → Act)
    (hassign : ∀ (l : Nat) (x : Int) (W : World) (K : Act → World → Prop), K (a₁ x) W →
      assign.wpIn (F.inRound l) (n - 1 - 1) P (Exit.then K (fun _ _ _ => False)) { tmps := a.tmps.setIfInBounds p (.int .i64 x), defers := [] } W)
    (hbody : ∀ (l : Nat) (pre : List Int) (x : Int) (W : World), (∃ rest, ds = pre ++ x :: rest) → w.heap.size + 1 < W.heap.size → I pre W → body.wpIn (F.inRound l) (n - 1 - 1) P
      (fun e _ W' => e = .normal ∧ I (pre ++ [x]) W' ∧ Kp W W' ∧ W'.heap[w.heap.size]? = W.heap[w.heap.size]? ∧ W'.heap[w.heap.size + 1]? = W.heap[w.heap.size + 1]?) (a₁ x) W)
    (hdone : ∀ (D : Nat) (W : World), w.heap.size ≤ D → I ds W → Z W → W.heap[D]? = some (.deferred (some [])) → Q .normal { a with defers := { target := .collected D, args := #[] } :: a.defers } W) :
    (Code.rangeFunc g #[p] assign body).wpIn F n P Q a w := by
  unfold Iter at hseq
  refine wpIn_rangeFunc ?_
  intro fn hfn
  rw [hro]
  obtain ⟨rec, hrec⟩ : ∃ rec : LoopState → Option Code → Loop, rec = fun st pe => { state := st, pending := pe, fn, tmps := a.tmps, params := #[p], assign, body, defers := w.heap.size } := ⟨_, rfl⟩
  obtain ⟨W1, hW1⟩ : ∃ W1, (w.alloc (.deferred (some []))).alloc (.loop (rec .ready none)) = W1 := ⟨_, rfl⟩
  have hsz : W1.heap.size = w.heap.size + 2 := by rw [← hW1]; simp
  have hL1 : W1.heap[w.heap.size + 1]? = some (.loop (rec .ready none)) := by
    rw [← hW1]; have := World.alloc_heap_new (w.alloc (.deferred (some []))) (.loop (rec .ready none)); rwa [World.size_alloc] at this
  have hK1 : W1.heap[w.heap.size]? = some (.deferred (some [])) := by
    rw [← hW1]; exact (Below.heap_alloc _ _ _ (by simp)).trans (World.alloc_heap_new w _)
  have hs1 : SameTo w.heap.size w W1 := ⟨by rw [← hW1]; exact ⟨rfl, rfl, rfl⟩, Nat.le_refl _, by omega, fun k hk _ _ => by rw [← hW1]; exact (Below.heap_alloc _ _ _ (by simp; omega)).trans (Below.heap_alloc _ _ _ hk)⟩
  refine ⟨w.heap.size + 1, [{ target := .collected w.heap.size, args := #[] }], W1, { target := .fn (.func gf) lb, args := #[.func (.yield (w.heap.size + 1)) #[] #[]] }, W1, gf,
    #[.func (.yield (w.heap.size + 1)) #[] #[]] ++ lb, W1, ?_, ?_, ?_, ?_, fun _ => h1, ?_⟩
  · rw [← hW1, hrec]; exact run_enterLoop_outer _ _ _ _ _
  · simp only [resolve, hg]
    simp [go_sem]
  · intro f' hf'; simp [Target.leads] at hf'; subst hf'; exact hFg
  · simp [invoke, go_sem, eg]
  · have hfin := hseq (w.heap.size + 1)
      (fun pre W => I pre W ∧ W.heap[w.heap.size + 1]? = some (.loop (rec .ready none)) ∧ W.heap[w.heap.size]? = some (.deferred (some [])))
      W1 (by omega) (fun pre A C h ho => ⟨hIo pre A C ho h.1, (hOwn A C ho _ (by omega)).trans h.2.1, (hOwn A C ho _ (by omega)).trans h.2.2⟩)

    refine (hfin ?_ ⟨hI _ _ _ hs1 (by omega) h0, hL1, hK1⟩ (hZ0 _ _ hs1 z0)).mono ?_
    · rintro pre x W hp ⟨hi, hl, hk⟩
      have hlt : w.heap.size + 1 < W.heap.size := (Array.getElem?_eq_some_iff.1 hl).1
      have hy := run_yield (P := P) (args := #[.int .i64 x]) hl (by rw [hrec]; rfl)
      rw [hrec] at hy
      refine ⟨fn, a.tmps.setIfInBounds p (.int .i64 x), assign, body, by simpa using hy, roundIn_of_wpIn hfn (hassign _ x W _ ⟨_, run_beginRound hl (by rw [hrec]), ?_⟩)⟩
      obtain ⟨W2, hW2⟩ : ∃ W2, W.putObj (w.heap.size + 1) (.loop { rec .ready none with state := .busy }) = W2 := ⟨_, rfl⟩
      have hl2 : W2.heap[w.heap.size + 1]? = some (.loop { rec .ready none with state := .busy }) := by rw [← hW2]; exact World.putObj_heap_same hlt
      have hk2 : W2.heap[w.heap.size]? = some (.deferred (some [])) := by rw [← hW2]; exact (World.putObj_heap_other (by omega)).trans hk
      have hs2 : SameTo w.heap.size W W2 := by rw [← hW2]; exact SameTo.put _ _ (by omega)
      have hz2 : W2.heap.size = W.heap.size := by rw [← hW2]; simp
      rw [hW2]
      refine wpIn_mono (hbody _ pre x _ hp (by omega) (hI _ _ _ hs2 (by omega) hi)) ?_
      rintro e a3 W3 ⟨rfl, hi3, hkp3, hkD, hkL⟩
      have hl3 : W3.heap[w.heap.size + 1]? = some (.loop { rec .ready none with state := .busy }) := hkL.trans hl2
      have hk3 : W3.heap[w.heap.size]? = some (.deferred (some [])) := hkD.trans hk2
      have hlt3 : w.heap.size + 1 < W3.heap.size := (Array.getElem?_eq_some_iff.1 hl3).1
      have he := run_endRound (P := P) none hl3
      refine ⟨_, _, he, rfl, ⟨hI _ _ _ (SameTo.put _ _ (by omega)) (by simp) hi3, ?_, ?_⟩, hKt (hKt (hKb _ _ hs2) hkp3) (hKb _ _ (SameTo.put _ _ (by omega)))⟩
      · rw [World.putObj_heap_same hlt3, hrec]; rfl
      · exact (World.putObj_heap_other (by omega)).trans hk3
    · rintro e W2 ⟨⟨v, rfl⟩, ⟨hi, hl, hk⟩, hz⟩
      refine ⟨none, _, by have := run_endLoop (P := P) hl (by rw [hrec]; simp); rw [hrec] at this; exact this, ?_⟩
      have hlt2 : w.heap.size + 1 < W2.heap.size := (Array.getElem?_eq_some_iff.1 hl).1
      have hs := SameTo.put (B := w.heap.size) W2 (.loop { rec .ready none with state := .exhausted }) (by omega)
      rw [hrec] at hs
      exact hdone w.heap.size _ (Nat.le_refl _) (hI _ _ _ hs (by simp) hi) (hZ _ _ hs hz) ((World.putObj_heap_other (by omega)).trans hk)
end Go.Proofs.YtpebdfofnmojcaaDoor

/- The iterator over digits: 'digits$1', 'digits'. -/
namespace Go.Proofs.YtpebdfofnmojcaaDoor
open Go.RowKit

/-- The closure's own boxes: the scanner's address, the base. -/
structure DBox (W : World) (b sb bb : Nat) (base : Int) : Prop where
  s : W.heap[sb]? = some (.cells #[.pointer (some ⟨b, 0, none⟩)] 62 (0, 0))
  n : W.heap[bb]? = some (.cells #[.int .i64 base] 3 (0, 0))
def DOwn (b : Nat) (A C : World) : Prop := C.os = A.os ∧ C.tape = A.tape ∧ C.output = A.output ∧ C.heap.size = A.heap.size ∧ ∀ k, k ≠ b → C.heap[k]? = A.heap[k]?
def DKp (b sb bb : Nat) (A C : World) : Prop := C.heap[b]? = A.heap[b]? ∧ C.heap[sb]? = A.heap[sb]? ∧ C.heap[bb]? = A.heap[bb]?

theorem in_wide {F : Fence} (hF : F = Fence.wide) {r : Nat} {P : Program} {f : FuncId} {args : Array Value} {w : World} {R : Ending → World → Prop} (h : Calls P f args w R) : CallsIn F r P f args w R := by
  subst hF; exact callsIn_wide.2 h
theorem DOwn.drewN (b : Nat) (A : World) (n : Nat) : DOwn b A (A.drewN n) := ⟨rfl, rfl, rfl, rfl, fun _ _ => rfl⟩
theorem DOwn.set1 (b : Nat) (A : World) (v : Value) : DOwn b A (A.setCell ⟨b, 1, none⟩ v) := ⟨rfl, rfl, rfl, by simp, fun k hk => Below.heap_setCell _ _ _ _ hk⟩
theorem DBox.own {A C : World} {b sb bb : Nat} {base : Int} (h : DBox A b sb bb base) (ho : DOwn b A C) (hsb : sb ≠ b) (hbb : bb ≠ b) : DBox C b sb bb base :=
  ⟨(ho.2.2.2.2 sb hsb).trans h.s, (ho.2.2.2.2 bb hbb).trans h.n⟩
theorem DBox.cs {W : World} {b sb bb : Nat} {base : Int} (h : DBox W b sb bb base) : W.cell? ⟨sb, 0, none⟩ = some (.pointer (some ⟨b, 0, none⟩)) := by simp [World.cell?, h.s]
theorem DBox.cn {W : World} {b sb bb : Nat} {base : Int} (h : DBox W b sb bb base) : W.cell? ⟨bb, 0, none⟩ = some (.int .i64 base) := by simp [World.cell?, h.n]

set_option maxRecDepth 100000 in
set_option maxHeartbeats 400000 in
theorem digits_in (n : Nat) (b sb bb : Nat) (hsb : sb ≠ b) (hbb : bb ≠ b) (s : ByteArray) (k : Nat) (base : Int) (hb0 : 0 ≤ base) (hb1 : base ≤ 16) (ln : Bool) (M T : Value) (hs : s.size ≤ 4000000000) (hk : k ≤ s.size)
    (fuel k' : Nat) (ds : List Int) (hF : digF fuel s.data.toList base k false = some (ds, k')) (B : Nat) :
    Iter Fence.wide n Tryd.prog 79 #[.pointer (some ⟨sb, 0, none⟩), .pointer (some ⟨bb, 0, none⟩)] ds B (DOwn b) (DKp b sb bb)
      (fun W => Scn W b s k ln M T ∧ DBox W b sb bb base) (fun W => Scn W b s k' ln M T ∧ k' ≤ s.size) := by
  intro l J W hBl hJ hY h0 ⟨hsc, hbx⟩
  have HF := Lib.hid hF
  have HY := Lib.hid hY
  have HJ := Lib.hid hJ
  clear hF hY hJ
  refine callsIn_wide.2 ?_
  go_enter Tryd.func79, Tryd.ntmps79
  go_wp2
  go_loopg [4] fuel (fun g btw wr => ∃ (pre rest : List Int) (j : Nat) (bw : Bool), btw = .bool bw ∧ j ≤ s.size ∧ Scn wr b s j ln M T ∧ DBox wr b sb bb base ∧ J pre wr ∧ Hid (digF g s.data.toList base j bw = some (rest, k')) ∧ Hid (ds = pre ++ rest))
  case atStart => exact ⟨[], ds, k, false, rfl, hk, hsc, hbx, h0, HF, rfl⟩
  case round =>
    obtain ⟨pre, rest, j, bw, rfl, hj, hsc, hbx, hJ0, hf, hds⟩ := hrel
    cases gk with
    | zero => have := hf.out; simp [digF] at this
    | succ g =>
      have c0 := hsc.c0
      have c1 := hsc.c1
      have cs := hbx.cs
      have cn := hbx.cn
      have B1 := Lib.hid (fun q => byteAt_any b s j ln M T j (wr.drewN q) (by unfold maxLen; omega) (hsc.drewN q))
      have hbr := byteV_range s.data.toList j
      have hf2 := hf.out
      unfold digF at hf2
      have hdr := digitV_range _ hbr.1 hbr.2
      have hnx := byteV_range s.data.toList (j + 1)
      have hnd := digitV_range _ hnx.1 hnx.2
      have hlt_of : digitV (byteV s.data.toList j) < base → j < s.size := fun h => by
        rcases Nat.lt_or_ge j s.size with h2 | h2
        · exact h2
        · rw [byteV_out s j h2] at h; unfold digitV at h; simp at h; omega
      go_wp2
      go_quiet ((go_at_call 64; exact quiet_w (B1.out _)))
      have hs1 := hsc.drewN nq
      have hx1 := hbx.own (DOwn.drewN b wr nq) hsb hbb
      have hJ1 := HJ.out pre _ _ hJ0 (DOwn.drewN b wr nq)
      clear c0 c1 cs cn B1 hsc hbx hJ0
      generalize wr.drewN nq = W1 at hs1 hx1 hJ1 ⊢
      have c0 := hs1.c0
      have c1 := hs1.c1
      have f1 := hs1.fz 1
      have cs := hx1.cs
      have cn := hx1.cn
      by_cases hd : digitV (byteV s.data.toList j) < base
      · rw [if_pos hd] at hf2
        have hjl := hlt_of hd
        have t1 : decide (digitV (byteV s.data.toList j) < base) = true := by simpa using hd
        cases hr : digF g s.data.toList base (j + 1) true with
        | none => rw [hr] at hf2; cases hf2
        | some q =>
          obtain ⟨ds', k2⟩ := q
          rw [hr] at hf2
          simp only [Option.some.injEq, Prod.mk.injEq] at hf2
          obtain ⟨hf3, rfl⟩ := hf2
          have HR := Lib.hid hr
          have HD : Hid (ds = (pre ++ [digitV (byteV s.data.toList j)]) ++ ds') := Lib.hid (by rw [hds.out, ← hf3]; simp)
          clear hf hr hf3 hds hd hlt_of
          have hJ2 := HJ.out pre _ _ hJ1 (DOwn.set1 b W1 (.int .i64 ((j : Int) + 1)))
          have hs2 : Scn (W1.setCell ⟨b, 1, none⟩ (.int .i64 ((j : Int) + 1))) b s (j + 1 : Nat) ln M T := by simpa using hs1.set1 ((j : Int) + 1)
          have hx2 := hx1.own (DOwn.set1 b W1 (.int .i64 ((j : Int) + 1))) hsb hbb
          generalize byteV s.data.toList j = c at *
          generalize hdv : digitV c = dv at *
          have HDV := Lib.hid hdv
          clear hdv
          obtain ⟨fn, tmps, assign, body, hy, hR⟩ := HY.out pre dv _ ⟨ds', by rw [HD.out]; simp⟩ hJ2
          have HRR := Lib.hid hR
          clear hR
          have D80 := fun W => digit_any c W hbr.1 hbr.2
          rw [HDV.out] at D80
          have D80' := Lib.hid D80
          clear D80
          go_upto_region 6 with (first | (go_at_call 80; refine (D80'.out _).mono ?_; rintro e w' ⟨rfl, rfl⟩))
          refine (wpIn_wide (n := n)).1 ?_
          gi_wp2
          refine ⟨fun h => by simp [Fence.wide] at h, HRR.out.mono ?_⟩
          rintro e W3 ⟨rfl, hJ3, hk3⟩
          have hs3 : Scn W3 b s (j + 1 : Nat) ln M T := hk3.1.trans hs2
          have hx3 : DBox W3 b sb bb base := ⟨hk3.2.1.trans hx2.s, hk3.2.2.trans hx2.n⟩
          clear hs2 hx2 hJ2 hk3 HRR hs1 hx1 hJ1 c0 c1 f1 cs cn
          gi_wp2
          go_wp2
          go_roundg g
          case rel => exact ⟨pre ++ [dv], ds', j + 1, true, rfl, by omega, hs3, hx3, hJ3, HR, HD⟩
          case measure => omega
      · rw [if_neg hd] at hf2
        have t1 : decide (digitV (byteV s.data.toList j) < base) = false := by simpa using hd
        have B2 := fun q => byteAt_any b s j ln M T (j + 1) (W1.drewN q) (by unfold maxLen; omega) (hs1.drewN q)
        have e1 : ((j + 1 : Nat) : Int) = (j : Int) + 1 := by omega
        simp only [e1] at B2
        clear e1
        clear hlt_of
        generalize hcv : byteV s.data.toList j = c at *
        generalize hnv : byteV s.data.toList (j + 1) = c2 at *
        have HC := Lib.hid hcv
        clear hcv hnv
        have B2' := Lib.hid B2
        clear B2
        have D80 := Lib.hid (fun W => digit_any c W hbr.1 hbr.2)
        have D81 := Lib.hid (fun W => digit_any c2 W hnx.1 hnx.2)
        by_cases hu : c = 95
        · have t2 : (c == 95) = true := by simpa using hu
          have HU := Lib.hid hu
          clear hu
          cases bw with
          | false =>
            rw [if_neg (fun h => by cases h.2.1)] at hf2
            simp only [Option.some.injEq, Prod.mk.injEq] at hf2
            obtain ⟨rfl, rfl⟩ := hf2
            have HD : Hid (ds = pre) := Lib.hid (by rw [hds.out]; simp)
            clear hds hf hd
            go_wp2_with (first | (go_at_call 80; refine (D80.out _).mono ?_; rintro e w' ⟨rfl, rfl⟩))
            go_quiet (fail)
            go_wp2
            refine bodyPost_ret (results_none rfl _ _ _) rfl ?_
            exact ⟨⟨_, rfl⟩, by rw [HD.out]; exact HJ.out _ _ _ hJ1 (DOwn.drewN b W1 nq), hs1.drewN _, hj⟩
          | true =>
            by_cases hd2 : digitV c2 < base
            · rw [if_pos ⟨HU.out, rfl, hd2⟩] at hf2
              have t3 : decide (digitV c2 < base) = true := by simpa using hd2
              have HR := Lib.hid hf2
              have hjl : j < s.size := by
                rcases Nat.lt_or_ge j s.size with h2 | h2
                · exact h2
                · have := HC.out; rw [byteV_out s j h2] at this; have := HU.out; omega
              clear hf hf2 hd hd2
              go_wp2_with (first | (go_at_call 80; refine (D80.out _).mono ?_; rintro e w' ⟨rfl, rfl⟩))
              go_quiet ((first | (go_at_call 64; exact quiet_w (B2'.out _)) | (go_at_call 80; exact quiet_w (D81.out _))))
              have hs2 := hs1.drewN nq
              have hx2 := hx1.own (DOwn.drewN b W1 nq) hsb hbb
              have hJ2 := HJ.out pre _ _ hJ1 (DOwn.drewN b W1 nq)
              clear hs1 hx1 hJ1 c0 c1 f1 cs cn B2'
              generalize W1.drewN nq = W2 at *
              have c1 := hs2.c1
              have f1 := hs2.fz 1
              have cs := hx2.cs
              go_wp2
              go_roundg g
              case rel => exact ⟨pre, rest, j + 1, false, rfl, by omega, by simpa using hs2.set1 ((j : Int) + 1), hx2.own (DOwn.set1 b W2 _) hsb hbb, HJ.out _ _ _ hJ2 (DOwn.set1 b W2 _), HR, hds⟩
              case measure => omega
            · rw [if_neg (fun h => hd2 h.2.2)] at hf2
              have t3 : decide (digitV c2 < base) = false := by simpa using hd2
              simp only [Option.some.injEq, Prod.mk.injEq] at hf2
              obtain ⟨rfl, rfl⟩ := hf2
              have HD : Hid (ds = pre) := Lib.hid (by rw [hds.out]; simp)
              clear hds hf hd hd2
              go_wp2_with (first | (go_at_call 80; refine (D80.out _).mono ?_; rintro e w' ⟨rfl, rfl⟩))
              go_quiet ((first | (go_at_call 64; exact quiet_w (B2'.out _)) | (go_at_call 80; exact quiet_w (D81.out _))))
              go_wp2
              refine bodyPost_ret (results_none rfl _ _ _) rfl ?_
              exact ⟨⟨_, rfl⟩, by rw [HD.out]; exact HJ.out _ _ _ hJ1 (DOwn.drewN b W1 nq), hs1.drewN _, hj⟩
        · have t2 : (c == 95) = false := by simpa using hu
          rw [if_neg (fun h => hu h.1)] at hf2
          simp only [Option.some.injEq, Prod.mk.injEq] at hf2
          obtain ⟨rfl, rfl⟩ := hf2
          have HD : Hid (ds = pre) := Lib.hid (by rw [hds.out]; simp)
          clear hds hf hu hd
          go_wp2_with (first | (go_at_call 80; refine (D80.out _).mono ?_; rintro e w' ⟨rfl, rfl⟩))
          go_quiet (fail)
          go_wp2
          refine bodyPost_ret (results_none rfl _ _ _) rfl ?_
          exact ⟨⟨_, rfl⟩, by rw [HD.out]; exact HJ.out _ _ _ hJ1 (DOwn.drewN b W1 nq), hs1.drewN _, hj⟩
end Go.Proofs.YtpebdfofnmojcaaDoor

/- Small laws: an owned row of bytes as a string. -/
namespace Go.Proofs.YtpebdfofnmojcaaDoor
open Go.RowKit

theorem grown_set {w : World} (b i : Nat) (v : Value) : w.grownBy (w.setCell ⟨b, i, none⟩ v) (some b) :=
  ⟨rfl, rfl, rfl, by simp, fun k _ hk => Below.heap_setCell w _ v k (fun e => hk (by simp [e]))⟩
theorem grown_of_below {w w' : World} (h : Below w.heap.size w w') (row : Option Nat) : w.grownBy w' row := ⟨h.os, h.tape, h.output, h.size, fun k hk _ => h.block k hk⟩
def u8s (l : List UInt8) : List Value := l.map fun c => .int .u8 (c.toNat : Int)
theorem grown_alloc (w : World) (o : Obj) (row : Option Nat) : w.grownBy (w.alloc o) row := grown_of_below ((Below.refl _ w).alloc (Nat.le_refl _) o) row

theorem conv_own {W : World} {B : Nat} {v : Value} {l : List UInt8} (hw : W.ownsRow B 5 1 v l.length (u8s l)) : (convert 46 9 v).run Tryd.prog W = .ok (.string ⟨l.toArray⟩) W := by
  rcases hw.2 with ⟨hv, h0⟩ | ⟨gq, cap, cur, hv, h2, h3, _⟩
  · have : l = [] := List.eq_nil_of_length_eq_zero h0
    subst this
    rw [hv, run_convert_bytes_string W 46 9 5 none 0 0 Tryd.underlying46 Tryd.underlying5 Tryd.underlying9]
    rfl
  · subst hv
    have hcells := hw.cells (g := gq) rfl
    exact run_convert_bytes_back (P := Tryd.prog) W 46 9 5 ⟨gq, 0, none⟩ cap l Tryd.underlying46 Tryd.underlying5 Tryd.underlying9 (fun j hj => hcells j (.int .u8 (l[j].toNat : Int)) (by simp [u8s, hj]))
end Go.Proofs.YtpebdfofnmojcaaDoor

namespace Go.Proofs
open Go.Shelf
theorem Tryd.utf8_ValidString (s : ByteArray) (w : World) (hs : s.size ≤ 9223372036854775807) (hT : Lib.Utf8Tabs 2 3 w) :
    Calls Tryd.prog 22 #[.string s] w fun e w' => e = .returned (.bool (Lib.validD s.data.toList)) ∧ RowKit.Below w.heap.size w w' := Any.utf8_ValidString Tryd.laysValid s w hs hT
theorem Tryd.strings_IndexByte (s : ByteArray) (c : Int) (w : World) :
    Calls Tryd.prog 69 #[.string s, .int .u8 c] w fun e w' => e = .returned (.int .i64 (Lib.indexByte s.data.toList c.toNat.toUInt8)) ∧ w' = w := Any.strings_IndexByte Tryd.lays137 s c w
end Go.Proofs

/- Contracts: lineComment, blanks. -/
namespace Go.Proofs.YtpebdfofnmojcaaDoor
open Go.RowKit

/-- The tables lie in memory. -/
structure Glob (w : World) : Prop where
  kw : GKw w
  sym : GSym w
  u8 : Lib.Utf8Tabs 2 3 w
  mx : ∃ m, w.cell? ⟨4, 0, none⟩ = some (.int .i64 m)
theorem Glob.kept {w w' : World} (h : Glob w) (hk : ∀ k, k < 5 → w'.heap[k]? = w.heap[k]?) : Glob w' := by
  obtain ⟨⟨t, f, h1⟩, ⟨t2, f2, h2⟩, ⟨h3, h4⟩, m, h5⟩ := h
  refine ⟨⟨t, f, (hk 0 (by omega)).trans h1⟩, ⟨t2, f2, (hk 1 (by omega)).trans h2⟩, ⟨fun c hc => ?_, fun i hi => ?_⟩, m, (World.cell?_of_block (a := ⟨4, 0, none⟩) (hk 4 (by omega))).trans h5⟩
  · rw [World.cell?_of_block (w := w) (hk 2 (by omega))]; exact h3 c hc
  · obtain ⟨a1, a2⟩ := h4 i hi
    exact ⟨(World.cell?_of_block (a := ⟨3, 2 * i, none⟩) (hk 3 (by omega))).trans a1, (World.cell?_of_block (a := ⟨3, 2 * i + 1, none⟩) (hk 3 (by omega))).trans a2⟩
theorem Glob.size {w : World} (h : Glob w) : 5 ≤ w.heap.size := by
  obtain ⟨m, hc⟩ := h.mx
  have : 4 < w.heap.size := by
    rcases Nat.lt_or_ge 4 w.heap.size with h | h
    · exact h
    · simp [World.cell?, Array.getElem?_eq_none h] at hc
  omega
theorem Glob.grown {w w' : World} {row : Option Nat} (h : Glob w) (hg : w.grownBy w' row) (hr : ∀ k, row = some k → 5 ≤ k) : Glob w' :=
  h.kept fun k hk => hg.block k (by have := h.size; omega) (fun e => by have := hr k e.symm; omega)
theorem Glob.drewN {w : World} (h : Glob w) (n : Nat) : Glob (w.drewN n) := h.kept fun _ _ => rfl


theorem indexByte_lt (l : List UInt8) (c : UInt8) : -1 ≤ Lib.indexByte l c ∧ Lib.indexByte l c < l.length := by
  induction l with
  | nil => simp [Lib.indexByte]
  | cons x l ih =>
    unfold Lib.indexByte
    split
    · constructor <;> simp <;> omega
    · split
      · constructor <;> simp <;> omega
      · rename_i h
        have hne : Lib.indexByte l c ≠ -1 := by simpa using h
        simp; omega
theorem lineLen_le (l : List UInt8) : lineLen l ≤ l.length := by
  unfold lineLen
  have := indexByte_lt l 10
  split <;> omega

set_option maxHeartbeats 400000 in
theorem lineComment_any (b : Nat) (s r : ByteArray) (k : Nat) (ln : Bool) (M T : Value) (w : World) (hs : s.size ≤ 4000000000) (hr : k + r.size ≤ s.size) (h : Scn w b s k ln M T) (hG : Glob w)
    (hv : Lib.validD (r.data.toList.take (lineLen r.data.toList)) = true) :
    Calls Tryd.prog 55 #[.pointer (some ⟨b, 0, none⟩), .string r] w fun e w' => e = .returned (.tuple #[]) ∧ Scn w' b s (k + lineLen r.data.toList : Nat) ln M T ∧ w.grownBy w' (some b) := by
  have h1 := h.c1
  have hf := h.fz 1
  have hb := indexByte_lt r.data.toList 10
  have hu := hG.u8
  have hle := lineLen_le r.data.toList
  rw [len_list] at hle hb
  have X : ∀ W, Calls Tryd.prog 69 #[.string r, .int .u8 10] W fun e w' => e = .returned (.int .i64 (Lib.indexByte r.data.toList 10)) ∧ W = w' := fun W =>
    (Tryd.strings_IndexByte r 10 W).mono fun _ _ ⟨h1, h2⟩ => ⟨h1, h2.symm⟩
  by_cases hi : 0 ≤ Lib.indexByte r.data.toList 10
  · have hL : lineLen r.data.toList = (Lib.indexByte r.data.toList 10).toNat := by unfold lineLen; rw [if_pos hi]
    rw [hL] at hv hle ⊢
    obtain ⟨i, hi2⟩ := Int.eq_ofNat_of_zero_le hi
    rw [hi2] at hv hle X ⊢
    simp only [Int.toNat_natCast] at hv hle ⊢
    have e1 : (r.extract 0 i).data.toList = r.data.toList.take i := by rw [extract_list]; simp
    have e2 : (r.extract 0 i).size = i := by rw [← len_list, e1]; simp; omega
    have V : Calls Tryd.prog 22 #[.string (r.extract 0 i)] w fun e w' => e = .returned (.bool true) ∧ Below w.heap.size w w' := by
      have := Tryd.utf8_ValidString (r.extract 0 i) w (by omega) hu
      rwa [e1, hv] at this
    have X' := Lib.hid X
    have V' := Lib.hid V
    have E2 := Lib.hid e2
    clear X V e1 e2 hi2 hL hi hv hb
    clear h1 hf
    go_enter Tryd.func55, Tryd.ntmps55
    go_wp2_with (first | (go_at_call 69; refine (X'.out _).mono ?_; rintro e w' ⟨rfl, rfl⟩) | (go_at_call 22; refine V'.out.mono ?_; rintro e w1 ⟨rfl, hb1⟩; have g1 := grown_of_below hb1 (some b); have hs1 := h.grown (grown_of_below hb1 none) (by simp); have c1 := hs1.c1; have f1 := hs1.fz 1; have e2 := E2.out))
    go_end0
    refine ⟨rfl, ?_, g1.trans (grown_set _ _ _)⟩
    have := hs1.set1 ((k : Int) + i)
    simpa using this
  · have hL : lineLen r.data.toList = r.size := by unfold lineLen; rw [if_neg hi, len_list]
    rw [hL] at hv ⊢
    have hi2 : Lib.indexByte r.data.toList 10 = -1 := by omega
    rw [hi2] at X
    have V : Calls Tryd.prog 22 #[.string r] w fun e w' => e = .returned (.bool true) ∧ Below w.heap.size w w' := by
      have := Tryd.utf8_ValidString r w (by omega) hu
      rw [← len_list, List.take_of_length_le (Nat.le_refl _)] at hv
      rwa [hv] at this
    have X' := Lib.hid X
    have V' := Lib.hid V
    clear X V hi2 hL hi hv hb hle h1 hf
    go_enter Tryd.func55, Tryd.ntmps55
    go_wp2_with (first | (go_at_call 69; refine (X'.out _).mono ?_; rintro e w' ⟨rfl, rfl⟩) | (go_at_call 22; refine V'.out.mono ?_; rintro e w1 ⟨rfl, hb1⟩; have g1 := grown_of_below hb1 (some b); have hs1 := h.grown (grown_of_below hb1 none) (by simp); have c1 := hs1.c1; have f1 := hs1.fz 1))
    go_end0
    refine ⟨rfl, ?_, g1.trans (grown_set _ _ _)⟩
    have := hs1.set1 ((k : Int) + r.size)
    simpa using this
end Go.Proofs.YtpebdfofnmojcaaDoor

/- Contracts: push (numbers below 2^64), digits. -/
namespace Go.Proofs.YtpebdfofnmojcaaDoor
open Go.RowKit

set_option maxRecDepth 100000 in
set_option maxHeartbeats 800000 in
theorem push_small (g v base d : Nat) (w : World) (hb : base ≤ 16) (hd : d < 100) (hv : v * base + d < 18446744073709551616) (hbase : 1 ≤ base)
    (hg : w.heap[g]? = some (.cells #[.int .u64 0, .int .u64 v] 85 (0, 0))) :
    Calls Tryd.prog 73 #[.pointer (some ⟨g, 0, none⟩), .int .i64 base, .int .i64 d] w fun e w' =>
      e = .returned (.bool true) ∧ w'.heap[g]? = some (.cells #[.int .u64 0, .int .u64 (v * base + d : Nat)] 85 (0, 0)) ∧ w.grownBy w' (some g) := by
  have hvv : v < 18446744073709551616 := by
    have : v * 1 ≤ v * base := Nat.mul_le_mul_left v hbase
    omega
  have c0 : w.cell? ⟨g, 0, none⟩ = some (.int .u64 0) := by simp [World.cell?, hg]
  have c1 : w.cell? ⟨g, 1, none⟩ = some (.int .u64 v) := by simp [World.cell?, hg]
  have f0 : w.frozen? ⟨g, 0, none⟩ = false := by simp [World.frozen?, hg]
  have f1 : w.frozen? ⟨g, 1, none⟩ = false := by simp [World.frozen?, hg]
  have M1 : ∀ W, Calls Tryd.prog 81 #[.int .u64 0, .int .u64 base] W fun e w' => e = .returned (.tuple #[.int .u64 0, .int .u64 0]) ∧ W = w' := fun W => by
    have := Tryd.bits_Mul64 0 base (by omega) (by omega) W
    simp only [Nat.zero_mul, Nat.zero_div, Nat.zero_mod] at this
    exact this.mono fun _ _ ⟨a, b⟩ => ⟨a, b.symm⟩
  have M2 : ∀ W, Calls Tryd.prog 81 #[.int .u64 v, .int .u64 base] W fun e w' => e = .returned (.tuple #[.int .u64 0, .int .u64 (v * base : Nat)]) ∧ W = w' := fun W => by
    have := Tryd.bits_Mul64 v base hvv (by omega) W
    rw [Nat.div_eq_of_lt (by omega), Nat.mod_eq_of_lt (by omega)] at this
    exact this.mono fun _ _ ⟨a, b⟩ => ⟨a, b.symm⟩
  have A1 : ∀ W, (callFunc 82 #[.int .u64 (v * base : Nat), .int .u64 d, .int .u64 0]).run Tryd.prog W = .ok (.value (.tuple #[.int .u64 (v * base + d : Nat), .int .u64 0])) W := fun W => by
    have := add64_small (v * base) d 0 (by omega) (by omega) W
    simpa using this
  have A2 : ∀ W, (callFunc 82 #[.int .u64 0, .int .u64 0, .int .u64 0]).run Tryd.prog W = .ok (.value (.tuple #[.int .u64 0, .int .u64 0])) W := fun W => by
    have := add64_small 0 0 0 (by omega) (by omega) W
    simpa using this
  generalize hp : v * base = q at *
  have i1 : (base : Int) ≤ 16 := by omega
  have i2 : (d : Int) < 100 := by omega
  have M1' := Lib.hid M1
  have M2' := Lib.hid M2
  have HG := Lib.hid hg
  clear hp M1 M2 hg
  go_enter Tryd.func73, Tryd.ntmps73
  go_wp2_with fail
  refine (M1'.out _).mono ?_; rintro e w' ⟨rfl, rfl⟩
  go_wp2_with fail
  refine (M2'.out _).mono ?_; rintro e w' ⟨rfl, rfl⟩
  go_wp2_with fail
  go_ret
  refine ⟨rfl, ?_, (grown_set g 0 _).trans (grown_set g 1 _)⟩
  simp [World.setCell, Array.getElem?_modify, HG.out]
end Go.Proofs.YtpebdfofnmojcaaDoor

/- Contracts: Div64 (hi = 0), decimal (numbers below 2^64). -/
namespace Go.Proofs.YtpebdfofnmojcaaDoor
open Go.RowKit

set_option maxRecDepth 100000 in
set_option maxHeartbeats 400000 in
theorem div64_small (v : Nat) (W : World) (hv : v < 18446744073709551616) :
    Calls Tryd.prog 78 #[.int .u64 0, .int .u64 v, .int .u64 10] W fun e w' => e = .returned (.tuple #[.int .u64 ((v / 10 : Nat) : Int), .int .u64 ((v % 10 : Nat) : Int)]) ∧ ∃ n, w' = W.drewN n := by
  have i1 : (0 : Int) ≤ v := by omega
  have i2 : (v : Int) < 18446744073709551616 := by omega
  go_enter Tryd.func78, Tryd.ntmps78
  go_wp2
  go_quiet (fail)
  go_wp2
  go_ret2
  refine ⟨?_, _, rfl⟩
  rw [show ((v / 10 : Nat) : Int) = (v : Int) / 10 from by omega, show ((v % 10 : Nat) : Int) = (v : Int) % 10 from by omega]
  rfl
end Go.Proofs.YtpebdfofnmojcaaDoor

/- Contracts: decimal (numbers below 2^64). -/
namespace Go.Proofs.YtpebdfofnmojcaaDoor
open Go.RowKit

/-- The digits of a number, ahead of a tail. -/
def decL : Nat → Nat → List UInt8 → List UInt8
  | 0, _, acc => acc
  | n + 1, v, acc => if v / 10 = 0 then UInt8.ofNat (48 + v % 10) :: acc else decL n (v / 10) (UInt8.ofNat (48 + v % 10) :: acc)

def decCells (k : Nat) (acc : List UInt8) : Array Value := (List.replicate k (Value.int .u8 0) ++ acc.map fun c => Value.int .u8 (c.toNat : Int)).toArray
theorem decCells_set (k : Nat) (acc : List UInt8) (c : UInt8) : (decCells (k + 1) acc).setIfInBounds k (.int .u8 (c.toNat : Int)) = decCells k (c :: acc) := by
  unfold decCells
  apply Array.toList_inj.1
  simp only [Array.toList_setIfInBounds]
  rw [List.replicate_succ', List.append_assoc, List.set_append_right _ _ (by simp)]
  simp
theorem decCells_get (k : Nat) (acc : List UInt8) (j : Nat) (hj : j < acc.length) : (decCells k acc)[k + j]? = some (.int .u8 (acc[j].toNat : Int)) := by
  unfold decCells
  simp [hj]
theorem decCells_low (k : Nat) (acc : List UInt8) (j : Nat) (hj : j < k) : (decCells k acc)[j]? = some (.int .u8 0) := by
  unfold decCells
  simp [List.getElem?_append_left, hj]

/-- The blocks of 'decimal'. -/
structure Dst (B : Nat) (W : World) (m k : Nat) (acc : List UInt8) : Prop where
  n : W.heap[B]? = some (.cells #[.int .u64 0, .int .u64 m] 85 (0, 0))
  o : W.heap[B + 1]? = some (.cells (decCells k acc) 95 (0, 0))
section
variable {B : Nat} {W : World} {m k : Nat} {acc : List UInt8}
theorem Dst.n0 (h : Dst B W m k acc) : W.cell? ⟨B, 0, none⟩ = some (.int .u64 0) := by simp [World.cell?, h.n]
theorem Dst.n1 (h : Dst B W m k acc) : W.cell? ⟨B, 1, none⟩ = some (.int .u64 m) := by simp [World.cell?, h.n]
theorem Dst.fn (h : Dst B W m k acc) (i : Nat) : W.frozen? ⟨B, i, none⟩ = false := by simp [World.frozen?, h.n]
theorem Dst.fo (h : Dst B W m k acc) (i : Nat) : W.frozen? ⟨B + 1, i, none⟩ = false := by simp [World.frozen?, h.o]
theorem Dst.at (h : Dst B W m k acc) (j : Nat) (hj : j < acc.length) : W.cell? ⟨B + 1, k + j, none⟩ = some (.int .u8 (acc[j].toNat : Int)) := by simp [World.cell?, h.o, decCells_get k acc j hj]
theorem Dst.low (h : Dst B W m k acc) (j : Nat) (hj : j < k) : W.cell? ⟨B + 1, j, none⟩ = some (.int .u8 0) := by simp [World.cell?, h.o, decCells_low k acc j hj]
theorem Dst.gd (h : Dst B W m k acc) : B + 1 < W.heap.size := (Array.getElem?_eq_some_iff.1 h.o).1
theorem Dst.drewN (h : Dst B W m k acc) (q : Nat) : Dst B (W.drewN q) m k acc := ⟨h.n, h.o⟩
end

theorem u8_of (r : Nat) (hr : r < 10) : ((UInt8.ofNat (48 + r)).toNat : Int) = 48 + (r : Int) := by
  have : (UInt8.ofNat (48 + r)).toNat = (48 + r) % 256 := rfl
  omega
theorem Dst.step {B : Nat} {W : World} {m k : Nat} {acc : List UInt8} (h : Dst B W m (k + 1) acc) (q r : Nat) (hr : r < 10) :
    Dst B (((W.setCell ⟨B, 0, none⟩ (.int .u64 0)).setCell ⟨B, 1, none⟩ (.int .u64 q)).setCell ⟨B + 1, k, none⟩ (.int .u8 (48 + (r : Int)))) q k (UInt8.ofNat (48 + r) :: acc) := by
  have hn := h.n
  have ho := h.o
  refine ⟨?_, ?_⟩
  · rw [Below.heap_setCell _ _ _ _ (by simp)]
    simp [World.setCell, Array.getElem?_modify, hn]
  · rw [← decCells_set, u8_of r hr]
    simp [World.setCell, Array.getElem?_modify, ho]
set_option maxRecDepth 100000 in
theorem slice40 (b k : Nat) (hk : k < 40) (W : World) : (Instr.sliceAt 95 (.pointer (some ⟨b, 0, none⟩)) (some (.int .i64 k)) none none).run Tryd.prog W = .ok (.slice (some ⟨b, k, none⟩) (40 - k) (40 - k)) W := by
  have hl : Tryd.prog.arrayLen 95 = 40 := by kernel_rfl
  have he : Tryd.prog.elem 95 = 5 := by kernel_rfl
  rw [run_sliceAt_array_l W 95 ⟨b, 0, none⟩ Tryd.underlying95 .i64 k (by omega) (by rw [hl]; omega), hl, he]
  simp [go_sem, slicedAt, Addr.add]
  rw [if_neg (by omega)]
  split
  · next h => rw [h]
  · rfl
theorem str40 {B : Nat} {W : World} {m k : Nat} {acc : List UInt8} (h : Dst B W m k acc) (hk : acc.length + k = 40) : (convert 46 9 (.slice (some ⟨B + 1, k, none⟩) (40 - k) (40 - k))).run Tryd.prog W = .ok (.string ⟨acc.toArray⟩) W := by
  have := run_convert_bytes_back (P := Tryd.prog) W 46 9 5 ⟨B + 1, k, none⟩ (40 - k) acc Tryd.underlying46 Tryd.underlying5 Tryd.underlying9 (fun j hj => by
    have := h.at j hj
    rcases Nat.eq_zero_or_pos j with h0 | h0
    · subst h0; simpa [Addr.add] using this
    · rw [Addr.add, if_neg (by omega)]; exact this)
  rwa [show acc.length = 40 - k by omega] at this

set_option maxRecDepth 100000 in
set_option maxHeartbeats 400000 in
theorem decimal_small (v : Nat) (w : World) (hv : v < 18446744073709551616) :
    Calls Tryd.prog 67 #[.agg #[.int .u64 0, .int .u64 v]] w fun e w' => e = .returned (.string ⟨(decL 40 v []).toArray⟩) ∧ Below w.heap.size w w' := by
  go_enter Tryd.func67, Tryd.ntmps67
  generalize hR : decL 40 v [] = R
  go_wp2
  go_loopg [4] 40 (fun g tat wr => tat = .int .i64 g ∧ 1 ≤ g ∧ g ≤ 40 ∧ ∃ (m : Nat) (acc : List UInt8), m < 10 ^ g ∧ m < 18446744073709551616 ∧ acc.length + g = 40 ∧ Dst w.heap.size wr m g acc ∧ Below w.heap.size w wr ∧ Hid (decL g m acc = R))
  case atStart =>
    refine ⟨rfl, by omega, by omega, v, [], by omega, hv, rfl, ⟨?_, ?_⟩, ?_, hR⟩
    · exact (Below.heap_alloc _ _ _ (by simp)).trans (World.alloc_heap_new w _)
    · have := World.alloc_heap_new (w.alloc (.cells #[.int .u64 0, .int .u64 v] 85 (0, 0))) (.cells (decCells 40 []) 95 (0, 0))
      rwa [World.size_alloc] at this
    · exact ((Below.refl _ w).alloc (Nat.le_refl _) _).alloc (by simp) _
  case round =>
    obtain ⟨rfl, hg1, hg2, m, acc, hm, hm2, hac, hd, hbw, hh⟩ := hrel
    cases gk with
    | zero => omega
    | succ k =>
      have D := fun W => div64_small m W hm2
      have hq : m / 10 < 10 ^ k := by rw [Nat.pow_succ] at hm; omega
      have hr : m % 10 < 10 := by omega
      have hq2 : m / 10 < 18446744073709551616 := by omega
      have hh2 := hh.out
      unfold decL at hh2
      have n0 := hd.n0
      have n1 := hd.n1
      have f0 := hd.fn 0
      have f1 := hd.fn 1
      have f2 := hd.fo k
      have n2 := hd.low k (by omega)
      have gd := hd.gd
      generalize m / 10 = q at *
      generalize m % 10 = r at *
      have i1 : (r : Int) < 10 := by omega
      have i2 : (k : Int) < 40 := by omega
      have D' := Lib.hid D
      have HH := Lib.hid hh2
      have HD := Lib.hid hd
      clear D hh hh2 hd
      go_wp2_with (fail)
      go_quiet (fail)
      go_wp2_with (fail)
      refine (D'.out _).mono ?_
      rintro e W3 ⟨rfl, q3, rfl⟩
      have hs := (HD.out.drewN (nq + q3)).step q r hr
      have hb2 : Below w.heap.size w (wr.drewN (nq + q3)) := hbw.trans ⟨rfl, rfl, rfl, Nat.le_refl _, fun _ _ => rfl⟩
      have hb3 : ∀ x, Below w.heap.size w ((((wr.drewN (nq + q3)).setCell ⟨w.heap.size, 0, none⟩ (.int .u64 0)).setCell ⟨w.heap.size, 1, none⟩ x).setCell ⟨w.heap.size + 1, k, none⟩ (.int .u8 (48 + (r : Int)))) := fun x =>
        ((hb2.setCell (p := ⟨w.heap.size, 0, none⟩) (Nat.le_refl _) _).setCell (p := ⟨w.heap.size, 1, none⟩) (Nat.le_refl _) _).setCell (p := ⟨w.heap.size + 1, k, none⟩) (Nat.le_succ _) _
      have H2 := HH.out
      by_cases hq0 : q = 0
      · subst hq0
        have st := str40 hs (by simp; omega)
        have h40 := fun W => slice40 (w.heap.size + 1) k (by omega) W
        rw [if_pos rfl] at H2
        have H3 := Lib.hid H2
        have HS := Lib.hid hs
        have HB := Lib.hid hb3
        simp only [Int.natCast_zero] at st
        rw [H2] at st
        clear HH H2 hs hb3 hb2
        go_wp2_with fail
        go_ret
        exact ⟨rfl, HB.out _⟩
      · rw [if_neg hq0] at H2
        have H3 := Lib.hid H2
        have HS := Lib.hid hs
        have HB := Lib.hid hb3
        clear HH H2 hs hb3 hb2
        go_wp2_with fail
        go_roundg k
        case rel =>
          have hk1 : 1 ≤ k := by
            rcases Nat.eq_zero_or_pos k with h | h
            · subst h; simp at hq; omega
            · exact h
          exact ⟨rfl, hk1, by omega, q, _, hq, hq2, by simp; omega, HS.out, HB.out _, H3⟩
        case measure => omega
end Go.Proofs.YtpebdfofnmojcaaDoor

/- Contract: Div64 by ten. -/
namespace Go.Proofs.YtpebdfofnmojcaaDoor
open Go.RowKit

set_option maxRecDepth 100000 in
theorem zeros_ten (W : World) : Calls Tryd.prog 85 #[.int .u64 10] W fun e w' => e = .returned (.int .i64 60) ∧ W = w' := by
  go_enter Tryd.func85, Tryd.ntmps85
  go_wp2
  go_ret
  exact ⟨by kernel_rfl, rfl⟩

theorem wrap_step (U Q N C V : Int) (h : U * 4294967296 + N - Q * C = V) (h0 : 0 ≤ V) (h1 : V < 18446744073709551616) :
    IntKind.u64.wrap (IntKind.u64.wrap (IntKind.u64.wrap (U * 4294967296) + N) - IntKind.u64.wrap (Q * C)) = V := by
  rw [IntKind.wrap_u64, IntKind.wrap_u64, IntKind.wrap_u64, IntKind.wrap_u64, Int.emod_add_emod, ← Int.sub_emod, h]
  exact Int.emod_eq_of_lt h0 h1

theorem wrap_step0 (U Q C V : Int) (h : U * 4294967296 - Q * C = V) (h0 : 0 ≤ V) (h1 : V < 18446744073709551616) :
    IntKind.u64.wrap (IntKind.u64.wrap (IntKind.u64.wrap (U * 4294967296)) - IntKind.u64.wrap (Q * C)) = V := by
  rw [IntKind.wrap_u64, IntKind.wrap_u64, IntKind.wrap_u64, IntKind.wrap_u64, Int.emod_emod, ← Int.sub_emod, h]
  exact Int.emod_eq_of_lt h0 h1
set_option maxRecDepth 100000 in
theorem div_last (X Y R : Nat) (h : 268435456 * X = 2684354560 * Y + R) (hR : R < 2684354560) : X / 10 = Y ∧ X % 10 = R / 268435456 ∧ R / 268435456 * 268435456 = R := by
  have h1 : 10 * Y ≤ X := by omega
  obtain ⟨r, rfl⟩ : ∃ r, X = 10 * Y + r := ⟨X - 10 * Y, by omega⟩
  have h2 : R = 268435456 * r := by omega
  subst h2
  have h3 : r < 10 := by omega
  rw [Nat.mul_div_cancel_left r (by decide)]
  exact ⟨by omega, by omega, by omega⟩
set_option maxRecDepth 100000 in
theorem div_end (h v U L N Q1 R1 V Q0 R0 : Nat) (hU : h * 1152921504606846976 + v / 16 = U) (hL : v % 16 = L) (hN : L * 268435456 = N) (hQ1 : U / 2684354560 = Q1) (hR1 : U % 2684354560 = R1)
    (hV : R1 * 4294967296 + N = V) (hQ0 : V / 2684354560 = Q0) (hR0 : V % 2684354560 = R0) :
    (h * 18446744073709551616 + v) / 10 = Q1 * 4294967296 + Q0 ∧ (h * 18446744073709551616 + v) % 10 = R0 / 268435456 ∧ R0 / 268435456 * 268435456 = R0 := by
  have d := Nat.div_add_mod v 16
  rw [hL] at d
  have e2 := Nat.div_add_mod U 2684354560
  rw [hQ1, hR1] at e2
  have e3 := Nat.div_add_mod V 2684354560
  rw [hQ0, hR0] at e3
  have e4 : R0 < 2684354560 := by rw [← hR0]; exact Nat.mod_lt _ (by decide)
  have e1 : h * 18446744073709551616 + v = 16 * U + L := by
    rw [← hU]
    clear hU hL hN hQ1 hR1 hV hQ0 hR0 e2 e3 e4
    generalize v / 16 = q at d ⊢
    subst d
    omega
  rw [e1]
  refine div_last _ _ _ ?_ e4
  clear e1 hU hL hQ1 hR1 hQ0 hR0 e4 d
  subst hN hV e2
  have e3' : 2684354560 * Q0 + R0 = R1 * 4294967296 + L * 268435456 := e3
  clear e3
  omega
theorem div_facts (V : Nat) (h : V < 11529215046068469760) : ∃ Q0 R0 : Nat, V / 2684354560 = Q0 ∧ V % 2684354560 = R0 ∧ (V : Int) / 2684354560 = (Q0 : Int) ∧ IntKind.u64.wrap ((V : Int) - (Q0 : Int) * 2684354560) = (R0 : Int) ∧
    (¬ (4294967296 : Int) ≤ Q0) ∧ (¬ (IntKind.u64.wrap (4294967296 * (R0 : Int)) < 0)) := by
  refine ⟨_, _, rfl, rfl, by omega, ?_, by omega, ?_⟩
  · have e : (V : Int) - ((V / 2684354560 : Nat) : Int) * 2684354560 = ((V % 2684354560 : Nat) : Int) := by omega
    rw [e, IntKind.wrap_u64]
    omega
  · rw [IntKind.wrap_u64]
    have := Int.emod_nonneg (4294967296 * ((V % 2684354560 : Nat) : Int)) (show (18446744073709551616 : Int) ≠ 0 by decide)
    omega

set_option maxRecDepth 100000 in
set_option maxHeartbeats 1000000 in
theorem div64_ten (h v : Nat) (W : World) (h0 : 0 < h) (h10 : h < 10) (hv : v < 18446744073709551616) :
    Calls Tryd.prog 78 #[.int .u64 h, .int .u64 v, .int .u64 10] W fun e w' => e = .returned (.tuple #[.int .u64 (((h * 18446744073709551616 + v) / 10 : Nat) : Int), .int .u64 (((h * 18446744073709551616 + v) % 10 : Nat) : Int)]) ∧ ∃ n, w' = W.drewN n := by
  have Z := Lib.hid (fun W => zeros_ten W)
  obtain ⟨A, hA⟩ : ∃ A : Nat, (h * 18446744073709551616 + v) / 10 = A := ⟨_, rfl⟩
  obtain ⟨B, hB⟩ : ∃ B : Nat, (h * 18446744073709551616 + v) % 10 = B := ⟨_, rfl⟩
  rw [hA, hB]
  have HA := Lib.hid (And.intro hA hB)
  clear hA hB
  have j1 : ¬ (10 : Int) ≤ h := by omega
  have j2 : ((h : Int) == 0) = false := by simp; omega
  go_enter Tryd.func78, Tryd.ntmps78
  go_wp2_with fail
  refine (Z.out _).mono ?_
  rintro e w' ⟨rfl, rfl⟩
  go_upto_region 12 with fail
  have A0 : bits BinOp.and IntKind.u64 11529215046068469760 4294967295 = 0 := by decide
  have A1 : bits BinOp.or IntKind.u64 ((h : Int) * 1152921504606846976) ((v : Int) / 16) = ((h * 1152921504606846976 + v / 16 : Nat) : Int) := by
    have e := bits_or_u64_nat (h * 1152921504606846976) (v / 16) (by omega) (by omega)
    have sh := Nat.shiftLeft_add_eq_or_of_lt (i := 60) (b := v / 16) (by omega) h
    rw [Nat.shiftLeft_eq, show (2 : Nat) ^ 60 = 1152921504606846976 from rfl] at sh
    rw [← sh] at e
    simpa using e
  rw [A0, A1]
  clear A0 A1
  obtain ⟨U, hU⟩ : ∃ U : Nat, h * 1152921504606846976 + v / 16 = U := ⟨_, rfl⟩
  rw [hU]
  have HU := Lib.hid hU
  clear hU
  go_upto_region 15 with fail
  have W12 : IntKind.u64.wrap ((v : Int) * 1152921504606846976) = ((v % 16 * 1152921504606846976 : Nat) : Int) := by rw [IntKind.wrap_u64]; omega
  rw [W12]
  obtain ⟨L, hL⟩ : ∃ L : Nat, v % 16 = L := ⟨_, rfl⟩
  have hL16 : L < 16 := by omega
  rw [hL]
  have A2 : bits BinOp.and IntKind.u64 ((L * 1152921504606846976 : Nat) : Int) 4294967295 = 0 := by
    have e := bits_and_u64_nat (L * 1152921504606846976) 4294967295 (by omega) (by omega)
    rw [show (4294967295 : Nat) = 2 ^ 32 - 1 from rfl, Nat.and_two_pow_sub_one_eq_mod] at e
    have z : L * 1152921504606846976 % 2 ^ 32 = 0 := by omega
    rw [z] at e
    simpa using e
  have A3 : ((L * 1152921504606846976 : Nat) : Int) / 4294967296 = ((L * 268435456 : Nat) : Int) := by omega
  rw [A2, A3]
  obtain ⟨N, hN⟩ : ∃ N : Nat, L * 268435456 = N := ⟨_, rfl⟩
  obtain ⟨N', hN'⟩ : ∃ N' : Nat, L * 1152921504606846976 = N' := ⟨_, rfl⟩
  rw [hN, hN']
  have HL := Lib.hid (And.intro hL (And.intro hL16 hN))
  have u1 : U < 11529215046068469760 := by have := HU.out; omega
  have q1 : (U : Int) / 2684354560 < 4294967296 := by omega
  clear A2 A3 W12 hL hL16 hN hN'
  go_wp2_with fail
  obtain ⟨Q1, hQ1⟩ : ∃ Q1 : Nat, U / 2684354560 = Q1 := ⟨_, rfl⟩
  obtain ⟨R1, hR1⟩ : ∃ R1 : Nat, U % 2684354560 = R1 := ⟨_, rfl⟩
  have B1 : (U : Int) / 2684354560 = (Q1 : Int) := by omega
  have B2 : (U : Int) - (Q1 : Int) * 2684354560 = (R1 : Int) := by omega
  rw [B1, B2]
  have HQ := Lib.hid (And.intro hQ1 hR1)
  have k1 : ¬ (4294967296 : Int) ≤ Q1 := by omega
  have k2 : (R1 : Int) < 2684354560 := by omega
  have k3 : (N : Int) < 4294967296 := by have := HL.out; omega
  have k4 : (0 : Int) ≤ N := by omega
  have U1 := Lib.hid u1
  have K := Lib.hid (And.intro k2 (And.intro k3 k4))
  have k5 : ¬ (IntKind.u64.wrap (IntKind.u64.wrap (4294967296 * (R1 : Int)) + (N : Int)) < 0) := by rw [IntKind.wrap_u64 (_ + _)]; omega
  clear B1 B2 hQ1 hR1 q1 u1 k2 k3 k4 hv h10 h0
  go_loopg [15, 16] 0 (fun g tq tr wr => g = 0 ∧ tq = .int .u64 Q1 ∧ tr = .int .u64 R1 ∧ wr = W)
  case atStart => exact ⟨rfl, rfl, rfl, rfl⟩
  case round =>
    obtain ⟨rfl, rfl, rfl, rfl⟩ := hrel
    go_upto_region 22 with fail
    obtain ⟨V, hV⟩ : ∃ V : Nat, R1 * 4294967296 + N = V := ⟨_, rfl⟩
    have V1 : V < 11529215046068469760 := by have b := K.out; omega
    have A4 : IntKind.u64.wrap (IntKind.u64.wrap (IntKind.u64.wrap ((U : Int) * 4294967296) + (N : Int)) - IntKind.u64.wrap ((Q1 : Int) * 11529215046068469760)) = (V : Int) := by
      have a := HQ.out
      refine wrap_step _ _ _ _ _ ?_ (by omega) (by omega)
      omega
    rw [A4]
    obtain ⟨Q0, R0, hQ0, hR0, B3, B4, k6, k7⟩ := div_facts V V1
    have HV := Lib.hid (And.intro hV (And.intro hQ0 (And.intro hR0 V1)))
    have H3 := Lib.hid B3
    have H4 := Lib.hid B4
    clear A4 hV hQ0 hR0 V1 B3 B4
    go_upto_region 23 with fail
    rw [H3.out]
    go_wp2_with fail
    have k8 : IntKind.u64.wrap (Q0 : Int) = (Q0 : Int) := by rw [IntKind.wrap_u64]; exact Int.emod_eq_of_lt (by omega) (by omega)
    rw [H4.out]
    try rw [k8]
    clear k8
    go_loopg [18, 16] 0 (fun g tq tr wx => g = 0 ∧ tq = .int .u64 Q0 ∧ tr = .int .u64 R0 ∧ wx = wr)
    case atStart => exact ⟨rfl, rfl, rfl, rfl⟩
    case round =>
      obtain ⟨rfl, rfl, rfl, rfl⟩ := hrel
      have k9 : ¬ (IntKind.u64.wrap (IntKind.u64.wrap (4294967296 * (R0 : Int))) < 0) := by
        rw [IntKind.wrap_u64 (IntKind.u64.wrap _)]
        have := Int.emod_nonneg (IntKind.u64.wrap (4294967296 * (R0 : Int))) (show (18446744073709551616 : Int) ≠ 0 by decide)
        omega
      have d1 : decide ((4294967296 : Int) ≤ (Q0 : Int)) = false := decide_eq_false (by omega)
      have d2 : decide (IntKind.u64.wrap (IntKind.u64.wrap (4294967296 * (R0 : Int))) < 0) = false := decide_eq_false k9
      clear k1 k5 k7
      go_wp2_with fail
      go_ret2
      have a := HL.out
      have b := HQ.out
      have c := HV.out
      have u := HU.out
      obtain ⟨E1, E2, E3⟩ := div_end h v U L N Q1 R1 V Q0 R0 u a.1 a.2.2 b.1 b.2 c.1 c.2.1 c.2.2.1
      have ab := HA.out
      rw [ab.1] at E1
      rw [ab.2] at E2
      have lt1 : Q1 < 4294967296 := by have := U1.out; omega
      have F1 : IntKind.u64.wrap (IntKind.u64.wrap ((Q1 : Int) * 4294967296) + (Q0 : Int)) = (A : Int) := by
        rw [E1, IntKind.wrap_u64, IntKind.wrap_u64, Int.emod_add_emod]
        rw [Int.emod_eq_of_lt (by omega) (by omega)]
        simp
      have F2 : IntKind.u64.wrap (IntKind.u64.wrap (IntKind.u64.wrap ((V : Int) * 4294967296)) - IntKind.u64.wrap ((Q0 : Int) * 11529215046068469760)) / 1152921504606846976 = (B : Int) := by
        rw [E2, wrap_step0 (V : Int) (Q0 : Int) 11529215046068469760 ((R0 : Int) * 4294967296) (by omega) (by omega) (by omega)]
        omega
      refine ⟨?_, 0, rfl⟩
      rw [← F1, ← F2]
      rfl
end Go.Proofs.YtpebdfofnmojcaaDoor

/- Contracts: decimal of every number of 128 bits. -/
namespace Go.Proofs.YtpebdfofnmojcaaDoor
open Go.RowKit

theorem div64_any (h v : Nat) (W : World) (h10 : h < 10) (hv : v < 18446744073709551616) :
    Calls Tryd.prog 78 #[.int .u64 h, .int .u64 v, .int .u64 10] W fun e w' => e = .returned (.tuple #[.int .u64 (((h * 18446744073709551616 + v) / 10 : Nat) : Int), .int .u64 (((h * 18446744073709551616 + v) % 10 : Nat) : Int)]) ∧ ∃ n, w' = W.drewN n := by
  rcases Nat.eq_zero_or_pos h with h0 | h0
  · subst h0
    have := div64_small v W hv
    rw [Nat.zero_mul, Nat.zero_add]
    exact this
  · exact div64_ten h v W h0 h10 hv

theorem dec_step (H m : Nat) (hm : m < 18446744073709551616) (hH : H < 18446744073709551616) : ∃ q r G t : Nat, G = H / 10 ∧ t = H % 10 ∧
    (∀ W, Calls Tryd.prog 78 #[.int .u64 t, .int .u64 m, .int .u64 10] W fun e w' => e = .returned (.tuple #[.int .u64 (q : Int), .int .u64 (r : Int)]) ∧ ∃ n, w' = W.drewN n) ∧
    r < 10 ∧ q < 18446744073709551616 ∧ (H * 18446744073709551616 + m) / 10 = G * 18446744073709551616 + q ∧ (H * 18446744073709551616 + m) % 10 = r := by
  have ht : H % 10 < 10 := Nat.mod_lt _ (by decide)
  have e := Nat.div_add_mod H 10
  refine ⟨_, _, _, _, rfl, rfl, fun W => div64_any (H % 10) m W ht hm, Nat.mod_lt _ (by decide), ?_, ?_, ?_⟩
  · generalize H % 10 = t at ht
    clear e hH
    omega
  · generalize H % 10 = t at ht e ⊢
    generalize H / 10 = G at e ⊢
    subst e
    clear hH hm ht
    omega
  · generalize H % 10 = t at ht e ⊢
    generalize H / 10 = G at e ⊢
    subst e
    clear hH hm ht
    omega

/-- The blocks of 'decimal', for every number. -/
structure DsH (B : Nat) (W : World) (H m k : Nat) (acc : List UInt8) : Prop where
  n : W.heap[B]? = some (.cells #[.int .u64 H, .int .u64 m] 85 (0, 0))
  o : W.heap[B + 1]? = some (.cells (decCells k acc) 95 (0, 0))
section
variable {B : Nat} {W : World} {H m k : Nat} {acc : List UInt8}
theorem DsH.n0 (h : DsH B W H m k acc) : W.cell? ⟨B, 0, none⟩ = some (.int .u64 H) := by simp [World.cell?, h.n]
theorem DsH.n1 (h : DsH B W H m k acc) : W.cell? ⟨B, 1, none⟩ = some (.int .u64 m) := by simp [World.cell?, h.n]
theorem DsH.fn (h : DsH B W H m k acc) (i : Nat) : W.frozen? ⟨B, i, none⟩ = false := by simp [World.frozen?, h.n]
theorem DsH.fo (h : DsH B W H m k acc) (i : Nat) : W.frozen? ⟨B + 1, i, none⟩ = false := by simp [World.frozen?, h.o]
theorem DsH.at (h : DsH B W H m k acc) (j : Nat) (hj : j < acc.length) : W.cell? ⟨B + 1, k + j, none⟩ = some (.int .u8 (acc[j].toNat : Int)) := by simp [World.cell?, h.o, decCells_get k acc j hj]
theorem DsH.low (h : DsH B W H m k acc) (j : Nat) (hj : j < k) : W.cell? ⟨B + 1, j, none⟩ = some (.int .u8 0) := by simp [World.cell?, h.o, decCells_low k acc j hj]
theorem DsH.gd (h : DsH B W H m k acc) : B + 1 < W.heap.size := (Array.getElem?_eq_some_iff.1 h.o).1
theorem DsH.drewN (h : DsH B W H m k acc) (q : Nat) : DsH B (W.drewN q) H m k acc := ⟨h.n, h.o⟩
end

theorem DsH.step {B : Nat} {W : World} {H m k : Nat} {acc : List UInt8} (h : DsH B W H m (k + 1) acc) (G q r : Nat) (hr : r < 10) :
    DsH B (((W.setCell ⟨B, 0, none⟩ (.int .u64 G)).setCell ⟨B, 1, none⟩ (.int .u64 q)).setCell ⟨B + 1, k, none⟩ (.int .u8 (48 + (r : Int)))) G q k (UInt8.ofNat (48 + r) :: acc) := by
  have hn := h.n
  have ho := h.o
  refine ⟨?_, ?_⟩
  · rw [Below.heap_setCell _ _ _ _ (by simp)]
    simp [World.setCell, Array.getElem?_modify, hn]
  · rw [← decCells_set, u8_of r hr]
    simp [World.setCell, Array.getElem?_modify, ho]
theorem str40H {B : Nat} {W : World} {H m k : Nat} {acc : List UInt8} (h : DsH B W H m k acc) (hk : acc.length + k = 40) : (convert 46 9 (.slice (some ⟨B + 1, k, none⟩) (40 - k) (40 - k))).run Tryd.prog W = .ok (.string ⟨acc.toArray⟩) W := by
  have := run_convert_bytes_back (P := Tryd.prog) W 46 9 5 ⟨B + 1, k, none⟩ (40 - k) acc Tryd.underlying46 Tryd.underlying5 Tryd.underlying9 (fun j hj => by
    have := h.at j hj
    rcases Nat.eq_zero_or_pos j with h0 | h0
    · subst h0; simpa [Addr.add] using this
    · rw [Addr.add, if_neg (by omega)]; exact this)
  rwa [show acc.length = 40 - k by omega] at this

theorem len_step (c : UInt8) (acc : List UInt8) (k : Nat) (h : acc.length + (k + 1) = 40) : (c :: acc).length + k = 40 := by
  rw [List.length_cons]
  omega
theorem zero_parts (G q : Nat) (h : G * 18446744073709551616 + q = 0) : G = 0 ∧ q = 0 := ⟨by omega, by omega⟩
theorem nonzero_part (q : Nat) (h : ¬0 * 18446744073709551616 + q = 0) : q ≠ 0 := by omega
theorem wrapG (H G : Nat) (hH : H < 18446744073709551616) (hG : G = H / 10) : IntKind.u64.wrap ((H : Int) / 10) = (G : Int) := by
  have : (H : Int) / 10 = (G : Int) := by omega
  rw [this]
  simp [IntKind.wrap, IntKind.bits, IntKind.signed]
  omega

set_option maxRecDepth 100000 in
set_option maxHeartbeats 400000 in
theorem decimal_any (G0 v : Nat) (w : World) (hG0 : G0 < 18446744073709551616) (hv : v < 18446744073709551616) :
    Calls Tryd.prog 67 #[.agg #[.int .u64 G0, .int .u64 v]] w fun e w' => e = .returned (.string ⟨(decL 40 (G0 * 18446744073709551616 + v) []).toArray⟩) ∧ Below w.heap.size w w' := by
  go_enter Tryd.func67, Tryd.ntmps67
  generalize hR : decL 40 (G0 * 18446744073709551616 + v) [] = R
  go_wp2
  go_loopg [4] 40 (fun g tat wr => tat = .int .i64 g ∧ 1 ≤ g ∧ g ≤ 40 ∧ ∃ (H m : Nat) (acc : List UInt8), Hid (H * 18446744073709551616 + m < 10 ^ g ∧ m < 18446744073709551616 ∧ H < 18446744073709551616) ∧ acc.length + g = 40 ∧ DsH w.heap.size wr H m g acc ∧ Below w.heap.size w wr ∧ Hid (decL g (H * 18446744073709551616 + m) acc = R))
  case atStart =>
    refine ⟨rfl, by omega, by omega, G0, v, [], Lib.hid ⟨by omega, hv, hG0⟩, rfl, ⟨?_, ?_⟩, ?_, Lib.hid hR⟩
    · exact (Below.heap_alloc _ _ _ (by simp)).trans (World.alloc_heap_new w _)
    · have := World.alloc_heap_new (w.alloc (.cells #[.int .u64 G0, .int .u64 v] 85 (0, 0))) (.cells (decCells 40 []) 95 (0, 0))
      rwa [World.size_alloc] at this
    · exact ((Below.refl _ w).alloc (Nat.le_refl _) _).alloc (by simp) _
  case round =>
    obtain ⟨rfl, hg1, hg2, H, m, acc, hb, hac, hd, hbw, hh⟩ := hrel
    cases gk with
    | zero => omega
    | succ k =>
      obtain ⟨q, r, G, t, hG, ht, D, hr, hq2, hN, hM⟩ := dec_step H m hb.out.2.1 hb.out.2.2
      have hqk : G * 18446744073709551616 + q < 10 ^ k := by
        have h1 := hb.out.1
        rw [Nat.pow_succ] at h1
        rw [← hN]
        exact Nat.div_lt_of_lt_mul (by rw [Nat.mul_comm 10 (10 ^ k)]; exact h1)
      have hh2 := hh.out
      unfold decL at hh2
      rw [hN, hM] at hh2
      have n0 := hd.n0
      have n1 := hd.n1
      have f0 := hd.fn 0
      have f1 := hd.fn 1
      have f2 := hd.fo k
      have n2 := hd.low k (by omega)
      have gd := hd.gd
      have hHk := hb.out.2.2
      have t1 : IntKind.u64.wrap ((H : Int) / 10) = (G : Int) := wrapG H G hHk hG
      clear hHk
      have t2 : (H : Int) % 10 = (t : Int) := by omega
      have i1 : (r : Int) < 10 := by omega
      have i2 : (k : Int) < 40 := by omega
      have D' := Lib.hid D
      have HH := Lib.hid hh2
      have HD := Lib.hid hd
      have HQK := Lib.hid (And.intro hqk (And.intro hq2 (And.intro hG hb.out.2.2)))
      have T1 := Lib.hid t1
      have T2 := Lib.hid t2
      clear D hh hh2 hd hN hM hqk hb hG ht hG0 hv hR t1 t2 hq2
      go_wp2_with (fail)
      go_quiet (fail)
      rw [T1.out, T2.out]
      go_wp2_with (fail)
      refine (D'.out _).mono ?_
      rintro e W3 ⟨rfl, q3, rfl⟩
      have hs := (HD.out.drewN (nq + q3)).step G q r hr
      have hb2 : Below w.heap.size w (wr.drewN (nq + q3)) := hbw.trans ⟨rfl, rfl, rfl, Nat.le_refl _, fun _ _ => rfl⟩
      have hb3 : ∀ x y, Below w.heap.size w ((((wr.drewN (nq + q3)).setCell ⟨w.heap.size, 0, none⟩ y).setCell ⟨w.heap.size, 1, none⟩ x).setCell ⟨w.heap.size + 1, k, none⟩ (.int .u8 (48 + (r : Int)))) := fun x y =>
        ((hb2.setCell (p := ⟨w.heap.size, 0, none⟩) (Nat.le_refl _) _).setCell (p := ⟨w.heap.size, 1, none⟩) (Nat.le_refl _) _).setCell (p := ⟨w.heap.size + 1, k, none⟩) (Nat.le_succ _) _
      have H2 := HH.out
      have hk1 : G * 18446744073709551616 + q ≠ 0 → 1 ≤ k := by
        intro hne
        have h1 := HQK.out.1
        rcases Nat.eq_zero_or_pos k with h | h
        · subst h
          rw [Nat.pow_zero] at h1
          omega
        · exact h
      have hGH : G < 18446744073709551616 := by
        have h1 := HQK.out.2.2.1
        have h2 := HQK.out.2.2.2
        omega
      have HI := Lib.hid (And.intro HQK.out.1 (And.intro HQK.out.2.1 hGH))
      have hac2 : (UInt8.ofNat (48 + r) :: acc).length + k = 40 := len_step _ _ _ hac
      by_cases hz : G * 18446744073709551616 + q = 0
      · have hG0 := (zero_parts G q hz).1
        have hq0 := (zero_parts G q hz).2
        subst hG0
        subst hq0
        have st := str40H hs hac2
        have h40 := fun W => slice40 (w.heap.size + 1) k (by omega) W
        rw [if_pos hz] at H2
        have H3 := Lib.hid H2
        have HS := Lib.hid hs
        have HB := Lib.hid hb3
        simp only [Int.natCast_zero] at st
        rw [H2] at st
        clear HH H2 hs hb3 hb2 hk1 hz hGH
        go_wp2_with fail
        go_ret
        exact ⟨rfl, HB.out _ _⟩
      · rw [if_neg hz] at H2
        have H3 := Lib.hid H2
        have HS := Lib.hid hs
        have HB := Lib.hid hb3
        have HK := Lib.hid (hk1 hz)
        clear HH H2 hs hb3 hb2 hk1 hGH
        by_cases hG0 : G = 0
        · subst hG0
          have hq0 := nonzero_part q hz
          clear hz
          go_wp2_with fail
          go_roundg k
          case rel =>
            exact ⟨rfl, HK.out, by omega, 0, q, _, HI, hac2, HS.out, HB.out _ _, H3⟩
          case measure => omega
        · clear hz
          go_wp2_with fail
          go_roundg k
          case rel =>
            exact ⟨rfl, HK.out, by omega, G, q, _, HI, hac2, HS.out, HB.out _ _, H3⟩
          case measure => omega
end Go.Proofs.YtpebdfofnmojcaaDoor

/- Contracts: push, for every number of 128 bits. -/
namespace Go.Proofs.YtpebdfofnmojcaaDoor
open Go.RowKit

theorem add64_any (x y c : Nat) (hc : c ≤ 1) (W : World) :
   (callFunc 82 #[.int .u64 x, .int .u64 y, .int .u64 c]).run Tryd.prog W = .ok (.value (.tuple #[.int .u64 ((x + y + c) % 18446744073709551616 : Nat), .int .u64 ((x + y + c) / 18446744073709551616 : Nat)])) W := by
  have := Any7.bits_Add64 Tryd.lays25 x y c hc W
  exact this

/-- What one push makes of the two words. -/
structure Psh (hi lo base d o h1 cy l1 c l2 dd h2 : Nat) : Prop where
  m1 : ∀ W, Calls Tryd.prog 81 #[.int .u64 hi, .int .u64 base] W fun e w' => e = .returned (.tuple #[.int .u64 o, .int .u64 h1]) ∧ W = w'
  m2 : ∀ W, Calls Tryd.prog 81 #[.int .u64 lo, .int .u64 base] W fun e w' => e = .returned (.tuple #[.int .u64 cy, .int .u64 l1]) ∧ W = w'
  a1 : ∀ W, (callFunc 82 #[.int .u64 l1, .int .u64 d, .int .u64 0]).run Tryd.prog W = .ok (.value (.tuple #[.int .u64 l2, .int .u64 c])) W
  a2 : ∀ W, (callFunc 82 #[.int .u64 h1, .int .u64 cy, .int .u64 c]).run Tryd.prog W = .ok (.value (.tuple #[.int .u64 h2, .int .u64 dd])) W
  b2 : h2 < 18446744073709551616
  bl : l2 < 18446744073709551616
  eq : (hi * 18446744073709551616 + lo) * base + d = (o + dd) * (18446744073709551616 * 18446744073709551616) + (h2 * 18446744073709551616 + l2)

theorem psh_eq (M hi lo base d o h1 cy l1 c l2 dd h2 : Nat) (e1 : M * o + h1 = hi * base) (e2 : M * cy + l1 = lo * base) (e3 : M * c + l2 = l1 + d + 0) (e4 : M * dd + h2 = h1 + cy + c) :
    (hi * M + lo) * base + d = (o + dd) * (M * M) + (h2 * M + l2) := by
  have a : (hi * M + lo) * base = M * (hi * base) + lo * base := by rw [Nat.add_mul, Nat.mul_comm hi M, Nat.mul_assoc]
  have b : (o + dd) * (M * M) = M * (M * o) + M * (M * dd) := by rw [Nat.add_mul, Nat.mul_comm o, Nat.mul_comm dd, Nat.mul_assoc, Nat.mul_assoc]
  have f : M * (M * o + h1) = M * (M * o) + M * h1 := Nat.mul_add _ _ _
  have g : M * (M * dd + h2) = M * (M * dd) + M * h2 := Nat.mul_add _ _ _
  have h : M * (h1 + cy + c) = M * h1 + M * cy + M * c := by rw [Nat.mul_add, Nat.mul_add]
  rw [a, b, ← e1, ← e2, f]
  rw [e4, h] at g
  rw [Nat.mul_comm h2 M]
  omega

theorem psh_any (hi lo base d : Nat) (hhi : hi < 18446744073709551616) (hlo : lo < 18446744073709551616) (hb : base ≤ 16) (hd : d < 100) :
    ∃ o h1 cy l1 c l2 dd h2, Psh hi lo base d o h1 cy l1 c l2 dd h2 := by
  have hc : (lo * base % 18446744073709551616 + d + 0) / 18446744073709551616 ≤ 1 := by
    have := Nat.mod_lt (lo * base) (show 0 < 18446744073709551616 by decide)
    generalize lo * base % 18446744073709551616 = t at *
    clear hhi hlo hb
    omega
  exact ⟨_, _, _, _, _, _, _, _, {
    m1 := fun W => (Tryd.bits_Mul64 hi base hhi (by omega) W).mono fun _ _ ⟨a, b⟩ => ⟨a, b.symm⟩
    m2 := fun W => (Tryd.bits_Mul64 lo base hlo (by omega) W).mono fun _ _ ⟨a, b⟩ => ⟨a, b.symm⟩
    a1 := fun W => add64_any _ d 0 (by decide) W
    a2 := fun W => add64_any _ _ _ hc W
    b2 := Nat.mod_lt _ (by decide)
    bl := Nat.mod_lt _ (by decide)
    eq := psh_eq _ _ _ _ _ _ _ _ _ _ _ _ _ (Nat.div_add_mod _ _) (Nat.div_add_mod _ _) (Nat.div_add_mod _ _) (Nat.div_add_mod _ _) }⟩

theorem psh_fits (S x T : Nat) (h : T = S * (18446744073709551616 * 18446744073709551616) + x) (hx : x < 18446744073709551616 * 18446744073709551616) : (S = 0 ↔ T < 18446744073709551616 * 18446744073709551616) ∧ x = T % (18446744073709551616 * 18446744073709551616) := by
  refine ⟨⟨fun e => ?_, fun e => ?_⟩, ?_⟩
  · subst e; omega
  · omega
  · omega
theorem two_words (h l : Nat) (hh : h < 18446744073709551616) (hl : l < 18446744073709551616) : h * 18446744073709551616 + l < 18446744073709551616 * 18446744073709551616 := by omega

set_option maxRecDepth 100000 in
set_option maxHeartbeats 800000 in
theorem push_any (g hi lo base d : Nat) (w : World) (hb : base ≤ 16) (hd : d < 100) (hhi : hi < 18446744073709551616) (hlo : lo < 18446744073709551616)
    (hg : w.heap[g]? = some (.cells #[.int .u64 hi, .int .u64 lo] 85 (0, 0))) :
    Calls Tryd.prog 73 #[.pointer (some ⟨g, 0, none⟩), .int .i64 base, .int .i64 d] w fun e w' =>
      ∃ hi2 lo2 : Nat, hi2 < 18446744073709551616 ∧ lo2 < 18446744073709551616 ∧
        hi2 * 18446744073709551616 + lo2 = ((hi * 18446744073709551616 + lo) * base + d) % (18446744073709551616 * 18446744073709551616) ∧
        e = .returned (.bool (decide ((hi * 18446744073709551616 + lo) * base + d < 18446744073709551616 * 18446744073709551616))) ∧
        w'.heap[g]? = some (.cells #[.int .u64 hi2, .int .u64 lo2] 85 (0, 0)) ∧ w.grownBy w' (some g) := by
  obtain ⟨o, h1, cy, l1, c, l2, dd, h2, Z⟩ := psh_any hi lo base d hhi hlo hb hd
  have F := psh_fits _ _ _ Z.eq (two_words h2 l2 Z.b2 Z.bl)
  generalize (hi * 18446744073709551616 + lo) * base + d = T at *
  have c0 : w.cell? ⟨g, 0, none⟩ = some (.int .u64 hi) := by simp [World.cell?, hg]
  have c1 : w.cell? ⟨g, 1, none⟩ = some (.int .u64 lo) := by simp [World.cell?, hg]
  have f0 : w.frozen? ⟨g, 0, none⟩ = false := by simp [World.frozen?, hg]
  have f1 : w.frozen? ⟨g, 1, none⟩ = false := by simp [World.frozen?, hg]
  have A1 := Z.a1
  have A2 := Z.a2
  have i1 : (base : Int) ≤ 16 := by omega
  have i2 : (d : Int) < 100 := by omega
  have M1' := Lib.hid Z.m1
  have M2' := Lib.hid Z.m2
  have HB := Lib.hid (And.intro Z.b2 Z.bl)
  have HG := Lib.hid hg
  have HF := Lib.hid F
  clear Z F hg hhi hlo hb hd
  have key : ∀ (r : Bool) (w' : World), (r = true ↔ o + dd = 0) → w' = (w.setCell ⟨g, 0, none⟩ (.int .u64 h2)).setCell ⟨g, 1, none⟩ (.int .u64 l2) →
      ∃ hi2 lo2 : Nat, hi2 < 18446744073709551616 ∧ lo2 < 18446744073709551616 ∧ hi2 * 18446744073709551616 + lo2 = T % (18446744073709551616 * 18446744073709551616) ∧
        Ending.returned (.bool r) = .returned (.bool (decide (T < 18446744073709551616 * 18446744073709551616))) ∧ w'.heap[g]? = some (.cells #[.int .u64 hi2, .int .u64 lo2] 85 (0, 0)) ∧ w.grownBy w' (some g) := by
    rintro r w' hr rfl
    refine ⟨h2, l2, HB.out.1, HB.out.2, HF.out.2, ?_, ?_, (grown_set g 0 _).trans (grown_set g 1 _)⟩
    · have e : r = decide (T < 18446744073709551616 * 18446744073709551616) := by
        rw [Bool.eq_iff_iff, decide_eq_true_iff]
        exact hr.trans HF.out.1
      rw [e]
    · simp [World.setCell, Array.getElem?_modify, HG.out]
  go_enter Tryd.func73, Tryd.ntmps73
  go_wp2_with fail
  refine (M1'.out _).mono ?_; rintro e w' ⟨rfl, rfl⟩
  go_wp2_with fail
  refine (M2'.out _).mono ?_; rintro e w' ⟨rfl, rfl⟩
  by_cases ho : o = 0
  · subst ho
    go_wp2_with fail
    go_ret
    exact key ((dd : Int) == 0) _ (by simp) rfl
  · go_wp2_with fail
    go_ret
    exact key false _ (by simp; omega) rfl
end Go.Proofs.YtpebdfofnmojcaaDoor

/- Contracts: digits, integer (numbers below 2^64). -/
namespace Go.Proofs.YtpebdfofnmojcaaDoor
open Go.RowKit

def valD (base : Nat) : List Int → Nat → Nat
  | [], a => a
  | d :: ds, a => valD base ds (a * base + d.toNat)

set_option maxRecDepth 100000 in
theorem digits_any (b : Nat) (base : Int) (w : World) :
    Calls Tryd.prog 72 #[.pointer (some ⟨b, 0, none⟩), .int .i64 base] w fun e w' =>
      e = .returned (.func (.func 79) #[] #[.pointer (some ⟨w.heap.size, 0, none⟩), .pointer (some ⟨w.heap.size + 1, 0, none⟩)]) ∧ DBox w' b w.heap.size (w.heap.size + 1) base ∧ Below w.heap.size w w' := by
  go_enter Tryd.func72, Tryd.ntmps72
  go_wp2
  go_ret
  refine ⟨rfl, ⟨?_, ?_⟩, ?_⟩
  · exact (Below.heap_alloc _ _ _ (by simp)).trans (World.alloc_heap_new w _)
  · have := World.alloc_heap_new (w.alloc (.cells #[.pointer (some ⟨b, 0, none⟩)] 62 (0, 0))) (.cells #[.int .i64 base] 3 (0, 0))
    rwa [World.size_alloc] at this
  · exact ((Below.refl _ w).alloc (Nat.le_refl _) _).alloc (by simp) _
end Go.Proofs.YtpebdfofnmojcaaDoor

/- Contracts: integer (numbers below 2^64). -/
namespace Go.Proofs.YtpebdfofnmojcaaDoor
open Go.RowKit

/-- An operation in a round of a loop over a function: as outside of it. -/

theorem valD_snoc (base : Nat) : ∀ (pre : List Int) (x : Int) (a : Nat), valD base (pre ++ [x]) a = valD base pre a * base + x.toNat
  | [], _, _ => rfl
  | d :: pre, x, a => by simp only [List.cons_append, valD]; exact valD_snoc base pre x _
theorem valD_le (base : Nat) (hb : 1 ≤ base) : ∀ (ds : List Int) (a : Nat), a ≤ valD base ds a
  | [], a => Nat.le_refl a
  | d :: ds, a => by
    refine Nat.le_trans ?_ (valD_le base hb ds _)
    have : a * 1 ≤ a * base := Nat.mul_le_mul_left a hb
    omega
theorem valD_append (base : Nat) : ∀ (pre rest : List Int) (a : Nat), valD base (pre ++ rest) a = valD base rest (valD base pre a)
  | [], _, _ => rfl
  | d :: pre, rest, a => by simp only [List.cons_append, valD]; exact valD_append base pre rest _
theorem digF_range : ∀ (fuel : Nat) (l : List UInt8) (base : Int) (k : Nat) (bw : Bool) (ds : List Int) (k' : Nat), digF fuel l base k bw = some (ds, k') → ∀ x ∈ ds, 0 ≤ x ∧ x < base
  | 0, _, _, _, _, _, _, h => by simp [digF] at h
  | n + 1, l, base, k, bw, ds, k', h => by
    unfold digF at h
    split at h
    · rename_i hd
      split at h
      · rename_i ds' k2 hr
        simp only [Option.some.injEq, Prod.mk.injEq] at h
        obtain ⟨rfl, rfl⟩ := h
        intro x hx
        rcases List.mem_cons.1 hx with rfl | hx
        · have := byteV_range l k
          exact ⟨(digitV_range _ this.1 this.2).1, hd⟩
        · exact digF_range n l base (k + 1) true ds' k2 hr x hx
      · cases h
    · split at h
      · exact digF_range n l base (k + 1) false ds k' h
      · simp only [Option.some.injEq, Prod.mk.injEq] at h
        obtain ⟨rfl, rfl⟩ := h
        intro x hx; cases hx

/-- The blocks of 'integer' behind a row of digits. -/
structure IntI (w W : World) (b base : Nat) (pre : List Int) : Prop where
  g : w.grownBy W (some b)
  hb : W.heap[w.heap.size]? = some (.cells #[.int .i64 base] 3 (0, 0))
  hn : W.heap[w.heap.size + 1]? = some (.cells #[.int .u64 0, .int .u64 (valD base pre 0 : Nat)] 85 (0, 0))
  hm : W.heap[w.heap.size + 2]? = some (.cells #[.bool (!pre.isEmpty)] 4 (0, 0))
  hf : W.heap[w.heap.size + 3]? = some (.cells #[.bool true] 4 (0, 0))

/-- An end that is a return alone. -/
def retOnly (Q : Exit → Act → World → Prop) : Exit → Act → World → Prop
  | .ret, a, w => Q .ret a w
  | _, _, _ => False
theorem wp_retOnly {P : Program} {c : Code} {Q : Exit → Act → World → Prop} {a : Act} {w : World} (h : c.wp P (retOnly Q) a w) : c.wp P Q a w :=
  Code.wp_mono (fun e a w q => by cases e <;> first | exact q | exact q.elim) h

theorem in_enters (args : Array Value) (w : World) : (callFunc 79 args).run Tryd.prog w = .ok (.enter 79 args) w := by
  exact (enters_of Tryd.func79 (by kernel_rfl) rfl : Enters Tryd.prog 79) args w
theorem heap_alloc_if (w : World) (o : Obj) (k : Nat) : (w.alloc o).heap[k]? = if k = w.heap.size then some o else w.heap[k]? := by
  by_cases h : k = w.heap.size
  · subst h; rw [if_pos rfl]; exact World.alloc_heap_new w o
  · rw [if_neg h]
    rcases Nat.lt_or_ge k w.heap.size with h2 | h2
    · exact Below.heap_alloc _ _ _ h2
    · rw [Array.getElem?_eq_none h2, Array.getElem?_eq_none (by simp; omega)]
theorem intI0 (w : World) (b base : Nat) : IntI w ((((w.alloc (.cells #[.int .i64 base] 3 (0, 0))).alloc (.cells #[.int .u64 0, .int .u64 0] 85 (0, 0))).alloc (.cells #[.bool false] 4 (0, 0))).alloc (.cells #[.bool true] 4 (0, 0))) b base [] := by
  refine ⟨⟨rfl, rfl, rfl, by simp; omega, fun k hk _ => ?_⟩, ?_, ?_, ?_, ?_⟩
  all_goals
    simp only [heap_alloc_if, World.size_alloc]
    repeat' split
  all_goals (first | rfl | omega | (exfalso; simp_all))
set_option maxRecDepth 100000 in
set_option maxHeartbeats 400000 in
theorem integer_small (b : Nat) (s : ByteArray) (k base : Nat) (hb0 : 1 ≤ base) (hb1 : base ≤ 16) (ln : Bool) (M T : Value) (w : World) (hs : s.size ≤ 4000000000) (hk : k ≤ s.size) (h : Scn w b s k ln M T)
    (fuel k' : Nat) (ds : List Int) (hF : digF fuel s.data.toList base k false = some (ds, k')) (hv : valD base ds 0 < 18446744073709551616) :
    Calls Tryd.prog 62 #[.pointer (some ⟨b, 0, none⟩), .int .i64 base] w fun e w' =>
      e = .returned (.tuple #[.string ⟨(decL 40 (valD base ds 0) []).toArray⟩, .bool (!ds.isEmpty)]) ∧ Scn w' b s k' ln M T ∧ k' ≤ s.size ∧ w.grownBy w' (some b) := by
  have hbl := h.lt
  have D72 := Lib.hid (fun W => digits_any b base W)
  refine (callsIn_wide (n := 3)).1 ?_
  refine callsIn_of_wp_marks Tryd.func62 rfl trivial ?_ rfl
  refine (wpIn_wide (n := 3)).2 (wp_retOnly ?_)
  simp only [Tryd.ntmps62, List.size_toArray, List.length_cons, List.length_nil, Nat.reduceAdd, Nat.reduceSub, Array.replicate_succ, Array.replicate_zero, List.push_toArray, List.append_toArray, List.nil_append, List.cons_append]
  go_wp2_with (fail)
  refine (D72.out _).mono ?_
  rintro e W1 ⟨rfl, hbx, hbel⟩
  obtain ⟨W0, hW0⟩ : ∃ W0, ((((w.alloc (.cells #[.int .i64 base] 3 (0, 0))).alloc (.cells #[.int .u64 0, .int .u64 0] 85 (0, 0))).alloc (.cells #[.bool false] 4 (0, 0))).alloc (.cells #[.bool true] 4 (0, 0))) = W0 := ⟨_, rfl⟩
  rw [hW0] at hbx hbel
  have hI0 : IntI w W0 b base [] := hW0 ▸ intI0 w b base
  have hz0 : W0.heap.size = w.heap.size + 4 := by rw [← hW0]; simp
  have hB0 : Below w.heap.size w W0 := by
    rw [← hW0]
    exact ((((Below.refl _ w).alloc (Nat.le_refl _) _).alloc (by simp) _).alloc (by simp; omega) _).alloc (by simp; omega) _
  have hB1 : Below w.heap.size w W1 := hB0.trans (hbel.mono (by omega))
  clear hW0
  have hI1 : IntI w W1 b base [] := ⟨hI0.g.trans (grown_of_below hbel _), (hbel.block _ (by omega)).trans hI0.hb, (hbel.block _ (by omega)).trans hI0.hn, (hbel.block _ (by omega)).trans hI0.hm, (hbel.block _ (by omega)).trans hI0.hf⟩
  have hsc : Scn W1 b s k ln M T := (hB1.block b hbl).trans h
  have hz1 : w.heap.size + 5 < W1.heap.size := by
    have := (Array.getElem?_eq_some_iff.1 hbx.n).1; omega
  rw [hz0] at hbx
  clear hbel hI0 hz0
  go_wp2_with fail
  refine (wpIn_wide (n := 3)).1 ?_
  refine range_own rfl (by omega) rfl trivial in_enters (digits_in 2 b (w.heap.size + 4) (w.heap.size + 4 + 1) (by omega) (by omega) s k base (by omega) (by omega) ln M T hs hk fuel k' ds hF W1.heap.size) ?_ ?_ ?_ ?_ ?_ ⟨hsc, hbx⟩ (fun pre W => IntI w W b base pre) ?_ ?_ hI1 ?_ ?_ ?_ ?_
  · intro A C ho k hk
    exact ho.2.2.2.2 k (by omega)
  · rintro A B C ⟨h1, h2, h3⟩ ⟨g1, g2, g3⟩
    exact ⟨g1.trans h1, g2.trans h2, g3.trans h3⟩
  · rintro A C hs
    exact ⟨hs.at (by omega), hs.at (by omega), hs.at (by omega)⟩
  · rintro A C hs ⟨h1, h2⟩
    exact ⟨(hs.at (by omega)).trans h1, ⟨(hs.at (by omega)).trans h2.s, (hs.at (by omega)).trans h2.n⟩⟩
  · rintro A C hs ⟨h1, h2⟩
    exact ⟨(hs.at (by omega)).trans h1, h2⟩
  · rintro pre A C hs hz ⟨g, h1, h2, h3, h4⟩
    exact ⟨⟨hs.1.1.trans g.os, hs.1.2.1.trans g.tape, hs.1.2.2.trans g.output, Nat.le_trans g.size hz, fun k hk hb => (hs.at (by omega)).trans (g.block k hk hb)⟩, (hs.at (by omega)).trans h1, (hs.at (by omega)).trans h2, (hs.at (by omega)).trans h3, (hs.at (by omega)).trans h4⟩
  · rintro pre A C ⟨e1, e2, e3, e4, hs⟩ ⟨g, h1, h2, h3, h4⟩
    exact ⟨g.trans ⟨e1, e2, e3, by omega, fun k hk hb => hs k (fun e => hb (by rw [e]))⟩, (hs _ (by omega)).trans h1, (hs _ (by omega)).trans h2, (hs _ (by omega)).trans h3, (hs _ (by omega)).trans h4⟩
  · exact fun x => { tmps := #[.pointer (some ⟨b, 0, none⟩), .int .i64 base, undef, .pointer (some ⟨w.heap.size, 0, none⟩), .string ⟨#[]⟩, .bool false, .pointer (some ⟨w.heap.size + 1, 0, none⟩), .pointer (some ⟨w.heap.size + 1 + 1, 0, none⟩), .pointer (some ⟨w.heap.size + 1 + 1 + 1, 0, none⟩), .int .i64 x, .pointer (some ⟨b, 0, none⟩), .int .i64 base, .func (.func 79) #[] #[.pointer (some ⟨w.heap.size + 1 + 1 + 1 + 1, 0, none⟩), .pointer (some ⟨w.heap.size + 1 + 1 + 1 + 1 + 1, 0, none⟩)], .int .i64 x, undef, undef, undef, undef, undef, undef, undef, undef, undef, undef, undef, undef], defers := [] }
  · intro l x W K hK
    gi_wp2_with (rw [Oper.semAt_some _ _ _ (by intro c h; cases h)]; go_simp)
    exact hK
  · intro l pre x W hp hz hI
    obtain ⟨rest, hr⟩ := hp
    have hx := digF_range fuel _ _ _ _ _ _ hF x (by rw [hr]; simp)
    obtain ⟨d, rfl⟩ : ∃ d : Nat, x = (d : Int) := ⟨x.toNat, by omega⟩
    have hval : valD base pre 0 * base + d < 18446744073709551616 := by
      have h1 := valD_le base hb0 rest (valD base (pre ++ [(d : Int)]) 0)
      rw [← valD_append, List.append_assoc, List.singleton_append, ← hr] at h1
      have h2 := valD_snoc base pre (d : Int) 0
      simp only [Int.toNat_natCast] at h2
      omega
    have hsn := valD_snoc base pre (d : Int) 0
    simp only [Int.toNat_natCast] at hsn
    have P73 := Lib.hid (fun (W' : World) (h : W'.heap[w.heap.size + 1]? = some (.cells #[.int .u64 0, .int .u64 (valD base pre 0 : Nat)] 85 (0, 0))) => push_small (w.heap.size + 1) (valD base pre 0) base d W' hb1 (by omega) hval hb0 h)
    have cb : W.cell? ⟨w.heap.size, 0, none⟩ = some (.int .i64 base) := by simp [World.cell?, hI.hb]
    have cm : W.cell? ⟨w.heap.size + 1 + 1, 0, none⟩ = some (.bool (!pre.isEmpty)) := by simp [World.cell?, hI.hm]
    have fm : W.frozen? ⟨w.heap.size + 1 + 1, 0, none⟩ = false := by simp [World.frozen?, hI.hm]
    have cf : W.cell? ⟨w.heap.size + 1 + 1 + 1, 0, none⟩ = some (.bool true) := by simp [World.cell?, hI.hf]
    have ff : W.frozen? ⟨w.heap.size + 1 + 1 + 1, 0, none⟩ = false := by simp [World.frozen?, hI.hf]
    have HI := Lib.hid hI
    have hzW : w.heap.size + 5 < W.heap.size := by omega
    have HZ2 := Lib.hid hz
    clear hz
    gi_wp2_with (rw [Oper.semAt_some _ _ _ (by intro c h; cases h)]; go_simp)
    refine ⟨trivial, (CallsIn.inRound l (in_wide rfl (P73.out _ ?_))).mono ?_⟩
    · rw [Below.heap_setCell _ _ _ _ (by simp)]; exact HI.out.hn
    rintro e W3 ⟨rfl, hn3, hg3⟩
    have hk3 : ∀ k, k < W.heap.size → k ≠ w.heap.size + 1 → k ≠ w.heap.size + 2 → W3.heap[k]? = W.heap[k]? := fun k h1 h2 h3 =>
      (hg3.block k (by simpa using h1) (fun e => h2 (by cases e; rfl))).trans (Below.heap_setCell _ _ _ _ (by simpa using h3))
    have hm3 : W3.heap[w.heap.size + 2]? = some (.cells #[.bool true] 4 (0, 0)) := by
      refine (hg3.block _ (by simp; omega) (by simp)).trans ?_
      simp [World.setCell, Array.getElem?_modify, HI.out.hm]
    have hf3 : W3.heap[w.heap.size + 3]? = some (.cells #[.bool true] 4 (0, 0)) := (hk3 _ (by omega) (by omega) (by omega)).trans HI.out.hf
    have hb3 : W3.heap[w.heap.size]? = some (.cells #[.int .i64 base] 3 (0, 0)) := (hk3 _ (by omega) (by omega) (by omega)).trans HI.out.hb
    have cf3 : W3.cell? ⟨w.heap.size + 1 + 1 + 1, 0, none⟩ = some (.bool true) := by simp [World.cell?, hf3]
    have ff3 : W3.frozen? ⟨w.heap.size + 1 + 1 + 1, 0, none⟩ = false := by simp [World.frozen?, hf3]
    have HK3 := Lib.hid hk3
    clear hk3
    gi_wp2_with (rw [Oper.semAt_some _ _ _ (by intro c h; cases h)]; go_simp)
    have hz := HZ2.out
    have hset : ∀ k, k ≠ w.heap.size + 3 → (W3.setCell ⟨w.heap.size + 1 + 1 + 1, 0, none⟩ (.bool true)).heap[k]? = W3.heap[k]? := fun k hk => Below.heap_setCell _ _ _ _ (by simpa using hk)
    have hgs := HI.out.g.size
    have hs3 := hg3.size
    refine ⟨⟨⟨hg3.os.trans HI.out.g.os, hg3.tape.trans HI.out.g.tape, hg3.output.trans HI.out.g.output, ?_, ?_⟩, (hset _ (by omega)).trans hb3, (hset _ (by omega)).trans (by rw [hsn]; exact hn3), ?_, ?_⟩, ⟨?_, ?_, ?_⟩, ?_⟩
    · simp at hs3 ⊢; omega
    · intro k hk hne
      exact (hset k (by omega)).trans ((HK3.out k (by omega) (by omega) (by omega)).trans (HI.out.g.block k hk hne))
    · refine (hset _ (by omega)).trans ?_
      rw [hm3]; simp
    · simp [World.setCell, Array.getElem?_modify, hf3]
    · exact (hset _ (by omega)).trans (HK3.out _ (by omega) (by omega) (by omega))
    · exact (hset _ (by omega)).trans (HK3.out _ (by omega) (by omega) (by omega))
    · exact (hset _ (by omega)).trans (HK3.out _ (by omega) (by omega) (by omega))
    · exact ⟨(hset W1.heap.size (by omega)).trans (HK3.out W1.heap.size (by omega) (by omega) (by omega)), (hset (W1.heap.size + 1) (by omega)).trans (HK3.out (W1.heap.size + 1) (by omega) (by omega) (by omega))⟩
  · intro D W hD hI hZ hd
    have D67 := Lib.hid (fun W => decimal_small (valD base ds 0) W hv)
    have hDl : D < W.heap.size := (Array.getElem?_eq_some_iff.1 hd).1
    have HI := Lib.hid hI
    have HZ := Lib.hid hZ
    have HD := Lib.hid hd
    have c0 : W.cell? ⟨w.heap.size + 1, 0, none⟩ = some (.int .u64 0) := by simp [World.cell?, hI.hn]
    have c1 : W.cell? ⟨w.heap.size + 1, 1, none⟩ = some (.int .u64 (valD base ds 0 : Nat)) := by simp [World.cell?, hI.hn]
    have cm : W.cell? ⟨w.heap.size + 1 + 1, 0, none⟩ = some (.bool (!ds.isEmpty)) := by simp [World.cell?, hI.hm]
    have cf : W.cell? ⟨w.heap.size + 1 + 1 + 1, 0, none⟩ = some (.bool true) := by simp [World.cell?, hI.hf]
    clear hI hZ hd hI1 hsc hbx D72
    cases hds : !ds.isEmpty with
    | true =>
      rw [hds] at cm
      go_wp2
      go_region_with (go_at_call 67; refine (D67.out _).mono ?_; rintro e w' ⟨rfl, hb⟩; have cm' := (hb.cell (p := ⟨w.heap.size + 1 + 1, 0, none⟩) (by simp; omega)).trans cm; have cf' := (hb.cell (p := ⟨w.heap.size + 1 + 1 + 1, 0, none⟩) (by simp; omega)).trans cf)
      all_goals
        go_wp2
        refine ⟨by simp, .inl ⟨_, _, rfl, run_takeDeferred ((hb.block D (by simpa using hDl)).trans HD.out), ?_⟩⟩
        refine ⟨_, results_tmp2 rfl _ _ _, ?_⟩
        have hgs := HI.out.g.size
        have hbs := hb.size
        refine ⟨by rw [hds]; rfl, (World.putObj_heap_other (by omega)).trans ((hb.block b (by simp; omega)).trans HZ.out.1), HZ.out.2, hb.os.trans HI.out.g.os, hb.tape.trans HI.out.g.tape, hb.output.trans HI.out.g.output, ?_, ?_⟩
        · simp at hbs ⊢; omega
        · intro j hj hne
          exact (World.putObj_heap_other (by omega)).trans ((hb.block j (by simp; omega)).trans (HI.out.g.block j hj hne))
    | false =>
      rw [hds] at cm
      go_wp2
      go_region_with (go_at_call 67; refine (D67.out _).mono ?_; rintro e w' ⟨rfl, hb⟩; have cm' := (hb.cell (p := ⟨w.heap.size + 1 + 1, 0, none⟩) (by simp; omega)).trans cm)
      all_goals
        go_wp2
        refine ⟨by simp, .inl ⟨_, _, rfl, run_takeDeferred ((hb.block D (by simpa using hDl)).trans HD.out), ?_⟩⟩
        refine ⟨_, results_tmp2 rfl _ _ _, ?_⟩
        have hgs := HI.out.g.size
        have hbs := hb.size
        refine ⟨by rw [hds]; rfl, (World.putObj_heap_other (by omega)).trans ((hb.block b (by simp; omega)).trans HZ.out.1), HZ.out.2, hb.os.trans HI.out.g.os, hb.tape.trans HI.out.g.tape, hb.output.trans HI.out.g.output, ?_, ?_⟩
        · simp at hbs ⊢; omega
        · intro j hj hne
          exact (World.putObj_heap_other (by omega)).trans ((hb.block j (by simp; omega)).trans (HI.out.g.block j hj hne))
end Go.Proofs.YtpebdfofnmojcaaDoor

/- Contracts: integer, for every number. -/
namespace Go.Proofs.YtpebdfofnmojcaaDoor
open Go.RowKit

/-- The two words of a number, cut to 128 bits. -/
def cutW (v : Nat) : Nat := v % (18446744073709551616 * 18446744073709551616)
def hiW (v : Nat) : Nat := cutW v / 18446744073709551616
def loW (v : Nat) : Nat := cutW v % 18446744073709551616
def fitsW (v : Nat) : Bool := decide (v < 18446744073709551616 * 18446744073709551616)
theorem hiW_lt (v : Nat) : hiW v < 18446744073709551616 := by
  unfold hiW cutW
  have := Nat.mod_lt v (show 0 < 18446744073709551616 * 18446744073709551616 by decide)
  omega
theorem loW_lt (v : Nat) : loW v < 18446744073709551616 := Nat.mod_lt _ (by decide)
theorem words (v : Nat) : hiW v * 18446744073709551616 + loW v = cutW v := by
  have := Nat.div_add_mod (cutW v) 18446744073709551616
  unfold hiW loW
  omega
theorem words_of (h l v : Nat) (hl : l < 18446744073709551616) (e : h * 18446744073709551616 + l = cutW v) : h = hiW v ∧ l = loW v := by
  unfold hiW loW
  rw [← e]
  omega
theorem cutW_step (v base d : Nat) : (cutW v * base + d) % (18446744073709551616 * 18446744073709551616) = cutW (v * base + d) := by
  unfold cutW
  rw [Nat.add_mod, Nat.mod_mul_mod, ← Nat.add_mod]
theorem fitsW_step (v base d : Nat) (hb : 1 ≤ base) : (fitsW v && decide (cutW v * base + d < 18446744073709551616 * 18446744073709551616)) = fitsW (v * base + d) := by
  unfold fitsW cutW
  by_cases h : v < 18446744073709551616 * 18446744073709551616
  · rw [Nat.mod_eq_of_lt h, decide_eq_true h, Bool.true_and]
  · have h1 : v * 1 ≤ v * base := Nat.mul_le_mul_left v hb
    rw [decide_eq_false h, Bool.false_and]
    symm
    exact decide_eq_false (by omega)
theorem push_val (g v base d : Nat) (w : World) (hb : base ≤ 16) (hd : d < 100)
    (hg : w.heap[g]? = some (.cells #[.int .u64 (hiW v), .int .u64 (loW v)] 85 (0, 0))) :
    Calls Tryd.prog 73 #[.pointer (some ⟨g, 0, none⟩), .int .i64 base, .int .i64 d] w fun e w' => ∃ r : Bool, (1 ≤ base → (fitsW v && r) = fitsW (v * base + d)) ∧
      e = .returned (.bool r) ∧ w'.heap[g]? = some (.cells #[.int .u64 (hiW (v * base + d)), .int .u64 (loW (v * base + d))] 85 (0, 0)) ∧ w.grownBy w' (some g) := by
  refine (push_any g (hiW v) (loW v) base d w hb hd (hiW_lt v) (loW_lt v) hg).mono ?_
  rintro e w' ⟨h2, l2, b1, b2, h3, rfl, h4, h5⟩
  rw [words, cutW_step] at h3
  obtain ⟨rfl, rfl⟩ := words_of _ _ _ b2 h3
  rw [words]
  exact ⟨_, fun h => fitsW_step v base d h, rfl, h4, h5⟩

/-- The blocks of 'integer' behind a row of digits. -/
structure IntG (w W : World) (b base : Nat) (pre : List Int) : Prop where
  g : w.grownBy W (some b)
  hb : W.heap[w.heap.size]? = some (.cells #[.int .i64 base] 3 (0, 0))
  hn : W.heap[w.heap.size + 1]? = some (.cells #[.int .u64 (hiW (valD base pre 0)), .int .u64 (loW (valD base pre 0))] 85 (0, 0))
  hm : W.heap[w.heap.size + 2]? = some (.cells #[.bool (!pre.isEmpty)] 4 (0, 0))
  hf : W.heap[w.heap.size + 3]? = some (.cells #[.bool (fitsW (valD base pre 0))] 4 (0, 0))

theorem hiW_nil (base : Nat) : hiW (valD base [] 0) = 0 := by show hiW 0 = 0; decide
theorem loW_nil (base : Nat) : loW (valD base [] 0) = 0 := by show loW 0 = 0; decide
theorem fitsW_nil (base : Nat) : fitsW (valD base [] 0) = true := by show fitsW 0 = true; decide
theorem intG0 (w : World) (b base : Nat) : IntG w ((((w.alloc (.cells #[.int .i64 base] 3 (0, 0))).alloc (.cells #[.int .u64 0, .int .u64 0] 85 (0, 0))).alloc (.cells #[.bool false] 4 (0, 0))).alloc (.cells #[.bool true] 4 (0, 0))) b base [] := by
  have h := intI0 w b base
  exact ⟨h.g, h.hb, by rw [hiW_nil, loW_nil]; exact h.hn, h.hm, by rw [fitsW_nil]; exact h.hf⟩
theorem decimal_words (v : Nat) (w : World) : Calls Tryd.prog 67 #[.agg #[.int .u64 (hiW v), .int .u64 (loW v)]] w fun e w' => e = .returned (.string ⟨(decL 40 (cutW v) []).toArray⟩) ∧ Below w.heap.size w w' := by
  have := decimal_any (hiW v) (loW v) w (hiW_lt v) (loW_lt v)
  rw [words] at this
  exact this

set_option maxRecDepth 100000 in
set_option maxHeartbeats 400000 in
theorem integer_any (b : Nat) (s : ByteArray) (k base : Nat) (hb0 : 1 ≤ base) (hb1 : base ≤ 16) (ln : Bool) (M T : Value) (w : World) (hs : s.size ≤ 4000000000) (hk : k ≤ s.size) (h : Scn w b s k ln M T)
    (fuel k' : Nat) (ds : List Int) (hF : digF fuel s.data.toList base k false = some (ds, k')) :
    Calls Tryd.prog 62 #[.pointer (some ⟨b, 0, none⟩), .int .i64 base] w fun e w' =>
      e = .returned (.tuple #[.string ⟨(decL 40 (cutW (valD base ds 0)) []).toArray⟩, .bool (!ds.isEmpty && fitsW (valD base ds 0))]) ∧ Scn w' b s k' ln M T ∧ k' ≤ s.size ∧ w.grownBy w' (some b) := by
  have hbl := h.lt
  have D72 := Lib.hid (fun W => digits_any b base W)
  refine (callsIn_wide (n := 3)).1 ?_
  refine callsIn_of_wp_marks Tryd.func62 rfl trivial ?_ rfl
  refine (wpIn_wide (n := 3)).2 (wp_retOnly ?_)
  simp only [Tryd.ntmps62, List.size_toArray, List.length_cons, List.length_nil, Nat.reduceAdd, Nat.reduceSub, Array.replicate_succ, Array.replicate_zero, List.push_toArray, List.append_toArray, List.nil_append, List.cons_append]
  go_wp2_with (fail)
  refine (D72.out _).mono ?_
  rintro e W1 ⟨rfl, hbx, hbel⟩
  obtain ⟨W0, hW0⟩ : ∃ W0, ((((w.alloc (.cells #[.int .i64 base] 3 (0, 0))).alloc (.cells #[.int .u64 0, .int .u64 0] 85 (0, 0))).alloc (.cells #[.bool false] 4 (0, 0))).alloc (.cells #[.bool true] 4 (0, 0))) = W0 := ⟨_, rfl⟩
  rw [hW0] at hbx hbel
  have hI0 : IntG w W0 b base [] := hW0 ▸ intG0 w b base
  have hz0 : W0.heap.size = w.heap.size + 4 := by rw [← hW0]; simp
  have hB0 : Below w.heap.size w W0 := by
    rw [← hW0]
    exact ((((Below.refl _ w).alloc (Nat.le_refl _) _).alloc (by simp) _).alloc (by simp; omega) _).alloc (by simp; omega) _
  have hB1 : Below w.heap.size w W1 := hB0.trans (hbel.mono (by omega))
  clear hW0
  have hI1 : IntG w W1 b base [] := ⟨hI0.g.trans (grown_of_below hbel _), (hbel.block _ (by omega)).trans hI0.hb, (hbel.block _ (by omega)).trans hI0.hn, (hbel.block _ (by omega)).trans hI0.hm, (hbel.block _ (by omega)).trans hI0.hf⟩
  have hsc : Scn W1 b s k ln M T := (hB1.block b hbl).trans h
  have hz1 : w.heap.size + 5 < W1.heap.size := by
    have := (Array.getElem?_eq_some_iff.1 hbx.n).1; omega
  rw [hz0] at hbx
  clear hbel hI0 hz0
  go_wp2_with fail
  refine (wpIn_wide (n := 3)).1 ?_
  refine range_own rfl (by omega) rfl trivial in_enters (digits_in 2 b (w.heap.size + 4) (w.heap.size + 4 + 1) (by omega) (by omega) s k base (by omega) (by omega) ln M T hs hk fuel k' ds hF W1.heap.size) ?_ ?_ ?_ ?_ ?_ ⟨hsc, hbx⟩ (fun pre W => IntG w W b base pre) ?_ ?_ hI1 ?_ ?_ ?_ ?_
  · intro A C ho k hk
    exact ho.2.2.2.2 k (by omega)
  · rintro A B C ⟨h1, h2, h3⟩ ⟨g1, g2, g3⟩
    exact ⟨g1.trans h1, g2.trans h2, g3.trans h3⟩
  · rintro A C hs
    exact ⟨hs.at (by omega), hs.at (by omega), hs.at (by omega)⟩
  · rintro A C hs ⟨h1, h2⟩
    exact ⟨(hs.at (by omega)).trans h1, ⟨(hs.at (by omega)).trans h2.s, (hs.at (by omega)).trans h2.n⟩⟩
  · rintro A C hs ⟨h1, h2⟩
    exact ⟨(hs.at (by omega)).trans h1, h2⟩
  · rintro pre A C hs hz ⟨g, h1, h2, h3, h4⟩
    exact ⟨⟨hs.1.1.trans g.os, hs.1.2.1.trans g.tape, hs.1.2.2.trans g.output, Nat.le_trans g.size hz, fun k hk hb => (hs.at (by omega)).trans (g.block k hk hb)⟩, (hs.at (by omega)).trans h1, (hs.at (by omega)).trans h2, (hs.at (by omega)).trans h3, (hs.at (by omega)).trans h4⟩
  · rintro pre A C ⟨e1, e2, e3, e4, hs⟩ ⟨g, h1, h2, h3, h4⟩
    exact ⟨g.trans ⟨e1, e2, e3, by omega, fun k hk hb => hs k (fun e => hb (by rw [e]))⟩, (hs _ (by omega)).trans h1, (hs _ (by omega)).trans h2, (hs _ (by omega)).trans h3, (hs _ (by omega)).trans h4⟩
  · exact fun x => { tmps := #[.pointer (some ⟨b, 0, none⟩), .int .i64 base, undef, .pointer (some ⟨w.heap.size, 0, none⟩), .string ⟨#[]⟩, .bool false, .pointer (some ⟨w.heap.size + 1, 0, none⟩), .pointer (some ⟨w.heap.size + 1 + 1, 0, none⟩), .pointer (some ⟨w.heap.size + 1 + 1 + 1, 0, none⟩), .int .i64 x, .pointer (some ⟨b, 0, none⟩), .int .i64 base, .func (.func 79) #[] #[.pointer (some ⟨w.heap.size + 1 + 1 + 1 + 1, 0, none⟩), .pointer (some ⟨w.heap.size + 1 + 1 + 1 + 1 + 1, 0, none⟩)], .int .i64 x, undef, undef, undef, undef, undef, undef, undef, undef, undef, undef, undef, undef], defers := [] }
  · intro l x W K hK
    gi_wp2_with (rw [Oper.semAt_some _ _ _ (by intro c h; cases h)]; go_simp)
    exact hK
  · intro l pre x W hp hz hI
    obtain ⟨rest, hr⟩ := hp
    have hx := digF_range fuel _ _ _ _ _ _ hF x (by rw [hr]; simp)
    obtain ⟨d, rfl⟩ : ∃ d : Nat, x = (d : Int) := ⟨x.toNat, by omega⟩
    have hsn := valD_snoc base pre (d : Int) 0
    simp only [Int.toNat_natCast] at hsn
    have P73 := Lib.hid (fun (W' : World) (h : W'.heap[w.heap.size + 1]? = some (.cells #[.int .u64 (hiW (valD base pre 0)), .int .u64 (loW (valD base pre 0))] 85 (0, 0))) => push_val (w.heap.size + 1) (valD base pre 0) base d W' hb1 (by omega) h)
    have cb : W.cell? ⟨w.heap.size, 0, none⟩ = some (.int .i64 base) := by simp [World.cell?, hI.hb]
    have cm : W.cell? ⟨w.heap.size + 1 + 1, 0, none⟩ = some (.bool (!pre.isEmpty)) := by simp [World.cell?, hI.hm]
    have fm : W.frozen? ⟨w.heap.size + 1 + 1, 0, none⟩ = false := by simp [World.frozen?, hI.hm]
    have cf : W.cell? ⟨w.heap.size + 1 + 1 + 1, 0, none⟩ = some (.bool (fitsW (valD base pre 0))) := by simp [World.cell?, hI.hf]
    have ff : W.frozen? ⟨w.heap.size + 1 + 1 + 1, 0, none⟩ = false := by simp [World.frozen?, hI.hf]
    have HI := Lib.hid hI
    have hzW : w.heap.size + 5 < W.heap.size := by omega
    have HZ2 := Lib.hid hz
    clear hz
    gi_wp2_with (rw [Oper.semAt_some _ _ _ (by intro c h; cases h)]; go_simp)
    refine ⟨trivial, (CallsIn.inRound l (in_wide rfl (P73.out _ ?_))).mono ?_⟩
    · rw [Below.heap_setCell _ _ _ _ (by simp)]; exact HI.out.hn
    rintro e W3 ⟨r, hr, rfl, hn3, hg3⟩
    have hk3 : ∀ k, k < W.heap.size → k ≠ w.heap.size + 1 → k ≠ w.heap.size + 2 → W3.heap[k]? = W.heap[k]? := fun k h1 h2 h3 =>
      (hg3.block k (by simpa using h1) (fun e => h2 (by cases e; rfl))).trans (Below.heap_setCell _ _ _ _ (by simpa using h3))
    have hm3 : W3.heap[w.heap.size + 2]? = some (.cells #[.bool true] 4 (0, 0)) := by
      refine (hg3.block _ (by simp; omega) (by simp)).trans ?_
      simp [World.setCell, Array.getElem?_modify, HI.out.hm]
    have hf3 : W3.heap[w.heap.size + 3]? = some (.cells #[.bool (fitsW (valD base pre 0))] 4 (0, 0)) := (hk3 _ (by omega) (by omega) (by omega)).trans HI.out.hf
    have hb3 : W3.heap[w.heap.size]? = some (.cells #[.int .i64 base] 3 (0, 0)) := (hk3 _ (by omega) (by omega) (by omega)).trans HI.out.hb
    have cf3 : W3.cell? ⟨w.heap.size + 1 + 1 + 1, 0, none⟩ = some (.bool (fitsW (valD base pre 0))) := by simp [World.cell?, hf3]
    have ff3 : W3.frozen? ⟨w.heap.size + 1 + 1 + 1, 0, none⟩ = false := by simp [World.frozen?, hf3]
    have HK3 := Lib.hid hk3
    clear hk3
    have hset : ∀ x k, k ≠ w.heap.size + 3 → (W3.setCell ⟨w.heap.size + 1 + 1 + 1, 0, none⟩ x).heap[k]? = W3.heap[k]? := fun x k hk => Below.heap_setCell _ _ _ _ (by simpa using hk)
    have HR := Lib.hid (hr hb0)
    clear hr
    cases r with
    | true =>
      gi_wp2_with (rw [Oper.semAt_some _ _ _ (by intro c h; cases h)]; go_simp)
      have hz := HZ2.out
      have hgs := HI.out.g.size
      have hs3 := hg3.size
      have hx2 : fitsW (valD base pre 0) = fitsW (valD base (pre ++ [(d : Int)]) 0) := by rw [hsn, ← HR.out, Bool.and_true]
      refine ⟨⟨⟨hg3.os.trans HI.out.g.os, hg3.tape.trans HI.out.g.tape, hg3.output.trans HI.out.g.output, ?_, ?_⟩, (hset _ _ (by omega)).trans hb3, (hset _ _ (by omega)).trans (by rw [hsn]; exact hn3), ?_, ?_⟩, ⟨?_, ?_, ?_⟩, ?_⟩
      · simp at hs3 ⊢; omega
      · intro k hk hne
        exact (hset _ k (by omega)).trans ((HK3.out k (by omega) (by omega) (by omega)).trans (HI.out.g.block k hk hne))
      · refine (hset _ _ (by omega)).trans ?_
        rw [hm3]; simp
      · rw [← hx2]; simp [World.setCell, Array.getElem?_modify, hf3]
      · exact (hset _ _ (by omega)).trans (HK3.out _ (by omega) (by omega) (by omega))
      · exact (hset _ _ (by omega)).trans (HK3.out _ (by omega) (by omega) (by omega))
      · exact (hset _ _ (by omega)).trans (HK3.out _ (by omega) (by omega) (by omega))
      · exact ⟨(hset _ W1.heap.size (by omega)).trans (HK3.out W1.heap.size (by omega) (by omega) (by omega)), (hset _ (W1.heap.size + 1) (by omega)).trans (HK3.out (W1.heap.size + 1) (by omega) (by omega) (by omega))⟩
    | false =>
      gi_wp2_with (rw [Oper.semAt_some _ _ _ (by intro c h; cases h)]; go_simp)
      have hz := HZ2.out
      have hgs := HI.out.g.size
      have hs3 := hg3.size
      have hx2 : false = fitsW (valD base (pre ++ [(d : Int)]) 0) := by rw [hsn, ← HR.out, Bool.and_false]
      refine ⟨⟨⟨hg3.os.trans HI.out.g.os, hg3.tape.trans HI.out.g.tape, hg3.output.trans HI.out.g.output, ?_, ?_⟩, (hset _ _ (by omega)).trans hb3, (hset _ _ (by omega)).trans (by rw [hsn]; exact hn3), ?_, ?_⟩, ⟨?_, ?_, ?_⟩, ?_⟩
      · simp at hs3 ⊢; omega
      · intro k hk hne
        exact (hset _ k (by omega)).trans ((HK3.out k (by omega) (by omega) (by omega)).trans (HI.out.g.block k hk hne))
      · refine (hset _ _ (by omega)).trans ?_
        rw [hm3]; simp
      · rw [← hx2]; simp [World.setCell, Array.getElem?_modify, hf3]
      · exact (hset _ _ (by omega)).trans (HK3.out _ (by omega) (by omega) (by omega))
      · exact (hset _ _ (by omega)).trans (HK3.out _ (by omega) (by omega) (by omega))
      · exact (hset _ _ (by omega)).trans (HK3.out _ (by omega) (by omega) (by omega))
      · exact ⟨(hset _ W1.heap.size (by omega)).trans (HK3.out W1.heap.size (by omega) (by omega) (by omega)), (hset _ (W1.heap.size + 1) (by omega)).trans (HK3.out (W1.heap.size + 1) (by omega) (by omega) (by omega))⟩
  · intro D W hD hI hZ hd
    have D67 := Lib.hid (fun W => decimal_words (valD base ds 0) W)
    have hDl : D < W.heap.size := (Array.getElem?_eq_some_iff.1 hd).1
    have HI := Lib.hid hI
    have HZ := Lib.hid hZ
    have HD := Lib.hid hd
    have c0 : W.cell? ⟨w.heap.size + 1, 0, none⟩ = some (.int .u64 (hiW (valD base ds 0))) := by simp [World.cell?, hI.hn]
    have c1 : W.cell? ⟨w.heap.size + 1, 1, none⟩ = some (.int .u64 (loW (valD base ds 0))) := by simp [World.cell?, hI.hn]
    have cm : W.cell? ⟨w.heap.size + 1 + 1, 0, none⟩ = some (.bool (!ds.isEmpty)) := by simp [World.cell?, hI.hm]
    have cf : W.cell? ⟨w.heap.size + 1 + 1 + 1, 0, none⟩ = some (.bool (fitsW (valD base ds 0))) := by simp [World.cell?, hI.hf]
    clear hI hZ hd hI1 hsc hbx D72
    cases hds : !ds.isEmpty with
    | true =>
      rw [hds] at cm
      go_wp2
      go_region_with (go_at_call 67; refine (D67.out _).mono ?_; rintro e w' ⟨rfl, hb⟩; have cm' := (hb.cell (p := ⟨w.heap.size + 1 + 1, 0, none⟩) (by simp; omega)).trans cm; have cf' := (hb.cell (p := ⟨w.heap.size + 1 + 1 + 1, 0, none⟩) (by simp; omega)).trans cf)
      all_goals
        go_wp2
        refine ⟨by simp, .inl ⟨_, _, rfl, run_takeDeferred ((hb.block D (by simpa using hDl)).trans HD.out), ?_⟩⟩
        refine ⟨_, results_tmp2 rfl _ _ _, ?_⟩
        have hgs := HI.out.g.size
        have hbs := hb.size
        refine ⟨by rw [hds]; rfl, (World.putObj_heap_other (by omega)).trans ((hb.block b (by simp; omega)).trans HZ.out.1), HZ.out.2, hb.os.trans HI.out.g.os, hb.tape.trans HI.out.g.tape, hb.output.trans HI.out.g.output, ?_, ?_⟩
        · simp at hbs ⊢; omega
        · intro j hj hne
          exact (World.putObj_heap_other (by omega)).trans ((hb.block j (by simp; omega)).trans (HI.out.g.block j hj hne))
    | false =>
      rw [hds] at cm
      go_wp2
      go_region_with (go_at_call 67; refine (D67.out _).mono ?_; rintro e w' ⟨rfl, hb⟩; have cm' := (hb.cell (p := ⟨w.heap.size + 1 + 1, 0, none⟩) (by simp; omega)).trans cm)
      all_goals
        go_wp2
        refine ⟨by simp, .inl ⟨_, _, rfl, run_takeDeferred ((hb.block D (by simpa using hDl)).trans HD.out), ?_⟩⟩
        refine ⟨_, results_tmp2 rfl _ _ _, ?_⟩
        have hgs := HI.out.g.size
        have hbs := hb.size
        refine ⟨by rw [hds]; rfl, (World.putObj_heap_other (by omega)).trans ((hb.block b (by simp; omega)).trans HZ.out.1), HZ.out.2, hb.os.trans HI.out.g.os, hb.tape.trans HI.out.g.tape, hb.output.trans HI.out.g.output, ?_, ?_⟩
        · simp at hbs ⊢; omega
        · intro j hj hne
          exact (World.putObj_heap_other (by omega)).trans ((hb.block j (by simp; omega)).trans (HI.out.g.block j hj hne))
end Go.Proofs.YtpebdfofnmojcaaDoor

/- Contracts: run (decimal digits). -/
namespace Go.Proofs.YtpebdfofnmojcaaDoor
open Go.RowKit

def runL (ds : List Int) : List UInt8 := ds.map fun x => UInt8.ofNat (48 + x.toNat)

/-- The blocks of 'run' behind a row of digits: the box of 'out', what it holds. Row blocks lie from B on. -/
structure RunI (w W : World) (b B : Nat) (pre : List Int) : Prop where
  g : w.grownBy W (some b)
  o : ∃ v, W.heap[w.heap.size]? = some (.cells #[v] 46 (0, 0)) ∧ W.ownsRow B 5 1 v pre.length (u8s (runL pre))

theorem u8s_snoc (pre : List Int) (d : Nat) (hd : d < 10) : u8s (runL (pre ++ [(d : Int)])) = u8s (runL pre) ++ [.int .u8 (48 + (d : Int))] := by
  unfold u8s runL
  rw [List.map_append, List.map_append]
  simp only [List.map_cons, List.map_nil, Int.toNat_natCast, u8_of d hd]
theorem addr_block (a : Addr) (n : Nat) : (a.add n).block = a.block := by unfold Addr.add; split <;> rfl
theorem owns_kept {A C : World} {B : Nat} {v : Value} {n : Nat} {xs : List Value} (h : A.ownsRow B 5 1 v n xs) (hs : ∀ k, k < A.heap.size → B ≤ k → C.heap[k]? = A.heap[k]?) : C.ownsRow B 5 1 v n xs := by
  refine ⟨h.1, ?_⟩
  rcases h.2 with hn | ⟨g, cap, cur, hv, hb, hg, rest⟩
  · exact .inl hn
  · exact .inr ⟨g, cap, cur, hv, hb, (hs g (Array.getElem?_eq_some_iff.1 hg).1 hb).trans hg, rest⟩

set_option maxRecDepth 100000 in
set_option maxHeartbeats 400000 in
theorem run_any (b : Nat) (s : ByteArray) (k : Nat) (ln : Bool) (M T : Value) (w : World) (hs : s.size ≤ 4000000000) (hk : k ≤ s.size) (h : Scn w b s k ln M T)
    (fuel k' : Nat) (ds : List Int) (hF : digF fuel s.data.toList 10 k false = some (ds, k')) (hlen : ds.length ≤ 4000000000) :
    Calls Tryd.prog 74 #[.pointer (some ⟨b, 0, none⟩)] w fun e w' =>
      e = .returned (.string ⟨(runL ds).toArray⟩) ∧ Scn w' b s k' ln M T ∧ k' ≤ s.size ∧ w.grownBy w' (some b) := by
  have hbl := h.lt
  have D72 := Lib.hid (fun W => digits_any b 10 W)
  refine (callsIn_wide (n := 3)).1 ?_
  refine callsIn_of_wp_marks Tryd.func74 rfl trivial ?_ rfl
  refine (wpIn_wide (n := 3)).2 (wp_retOnly ?_)
  simp only [Tryd.ntmps74, List.size_toArray, List.length_cons, List.length_nil, Nat.reduceAdd, Nat.reduceSub, Array.replicate_succ, Array.replicate_zero, List.push_toArray, List.append_toArray, List.nil_append, List.cons_append]
  go_wp2_with (fail)
  refine (D72.out _).mono ?_
  rintro e W1 ⟨rfl, hbx, hbel⟩
  obtain ⟨W0, hW0⟩ : ∃ W0, (w.alloc (.cells #[.slice none 0 0] 46 (0, 0))) = W0 := ⟨_, rfl⟩
  rw [hW0] at hbx hbel
  have hz0 : W0.heap.size = w.heap.size + 1 := by rw [← hW0]; simp
  have hB0 : Below w.heap.size w W0 := by
    rw [← hW0]
    exact (Below.refl _ w).alloc (Nat.le_refl _) _
  have hB1 : Below w.heap.size w W1 := hB0.trans (hbel.mono (by omega))
  have ho0 : W0.heap[w.heap.size]? = some (.cells #[.slice none 0 0] 46 (0, 0)) := by rw [← hW0]; exact World.alloc_heap_new w _
  clear hW0
  have hz1 : w.heap.size + 2 < W1.heap.size := by
    have := (Array.getElem?_eq_some_iff.1 hbx.n).1; omega
  have hI1 : RunI w W1 b (W1.heap.size + 2) [] := ⟨grown_of_below hB1 _, _, (hbel.block _ (by omega)).trans ho0, World.ownsRow_nil _ _ _ _⟩
  have hsc : Scn W1 b s k ln M T := (hB1.block b hbl).trans h
  rw [hz0] at hbx
  clear hbel hz0 ho0 hB0
  go_wp2_with fail
  refine (wpIn_wide (n := 3)).1 ?_
  refine range_own rfl (by omega) rfl trivial in_enters (digits_in 2 b (w.heap.size + 1) (w.heap.size + 1 + 1) (by omega) (by omega) s k 10 (by omega) (by omega) ln M T hs hk fuel k' ds hF W1.heap.size) ?_ ?_ ?_ ?_ ?_ ⟨hsc, hbx⟩ (fun pre W => RunI w W b (W1.heap.size + 2) pre) ?_ ?_ hI1 ?_ ?_ ?_ ?_
  · intro A C ho k hk
    exact ho.2.2.2.2 k (by omega)
  · rintro A B C ⟨h1, h2, h3⟩ ⟨g1, g2, g3⟩
    exact ⟨g1.trans h1, g2.trans h2, g3.trans h3⟩
  · rintro A C hs
    exact ⟨hs.at (by omega), hs.at (by omega), hs.at (by omega)⟩
  · rintro A C hs ⟨h1, h2⟩
    exact ⟨(hs.at (by omega)).trans h1, ⟨(hs.at (by omega)).trans h2.s, (hs.at (by omega)).trans h2.n⟩⟩
  · rintro A C hs ⟨h1, h2⟩
    exact ⟨(hs.at (by omega)).trans h1, h2⟩
  · rintro pre A C hs hz ⟨g, v, h1, h2⟩
    exact ⟨⟨hs.1.1.trans g.os, hs.1.2.1.trans g.tape, hs.1.2.2.trans g.output, Nat.le_trans g.size hz, fun k hk hb => (hs.at (by omega)).trans (g.block k hk hb)⟩, v, (hs.at (by omega)).trans h1, owns_kept h2 fun k hk hb => hs.2.2.2 k hk (by omega) (by omega)⟩
  · rintro pre A C ⟨e1, e2, e3, e4, hs⟩ ⟨g, v, h1, h2⟩
    exact ⟨g.trans ⟨e1, e2, e3, by omega, fun k hk hb => hs k (fun e => hb (by rw [e]))⟩, v, (hs _ (by omega)).trans h1, owns_kept h2 fun k hk hb => hs k (by omega)⟩
  · exact fun x => { tmps := #[.pointer (some ⟨b, 0, none⟩), undef, .string ⟨#[]⟩, .pointer (some ⟨w.heap.size, 0, none⟩), .int .i64 x, .pointer (some ⟨b, 0, none⟩), .func (.func 79) #[] #[.pointer (some ⟨w.heap.size + 1, 0, none⟩), .pointer (some ⟨w.heap.size + 1 + 1, 0, none⟩)], .int .i64 x, undef, undef, undef, undef, undef, undef, undef, undef], defers := [] }
  · intro l x W K hK
    gi_wp2_with (rw [Oper.semAt_some _ _ _ (by intro c h; cases h)]; go_simp)
    exact hK
  · intro l pre x W hp hz hI
    obtain ⟨rest, hr⟩ := hp
    have hx := digF_range fuel _ _ _ _ _ _ hF x (by rw [hr]; simp)
    obtain ⟨d, rfl⟩ : ∃ d : Nat, x = (d : Int) := ⟨x.toNat, by omega⟩
    have i1 : (d : Int) < 10 := hx.2
    have hlp : pre.length + 1 ≤ ds.length := by rw [hr]; simp
    obtain ⟨g, v, ho, hw⟩ := hI
    obtain ⟨i0, hi, hz0, hz1', hz2⟩ := info_parts (P := Tryd.prog) (e := 5) (z := .int .u8 0) (size := 1) (bytes := 1) (by kernel_rfl)
    have co : W.cell? ⟨w.heap.size, 0, none⟩ = some v := by simp [World.cell?, ho]
    have HZ2 := Lib.hid hz
    have HG := Lib.hid g
    have HO := Lib.hid ho
    clear hz g ho hF hx hr
    gi_wp2_with (first | (refine wpListIn_append_own _ rfl _ _ 46 rfl (W1.heap.size + 2) 5 i0 (.int .u8 0) 1 1 Tryd.underlying46 hi hz0 hz1' hz2 rfl (by decide) v pre.length _ rfl (hw.alloc _) ⟨W.heap.size, 0, none⟩ 1 1 [.int .u8 (48 + (d : Int))] rfl rfl ?_ ?_ ?_ ?_ ?_ ?_) | ((rw [Oper.semAt_some _ _ _ (by intro c h; cases h)]; go_simp); try go_bits))
    · intro j u hj
      match j, hj with
      | 0, hj => simp at hj; subst hj; simp [Addr.add]
      | (j + 1), hj => simp at hj
    · intro u hu; simp at hu; subst hu; rfl
    · unfold maxLen; omega
    · omega
    · have := HZ2.out; simp; omega
    · intro v' w' hw' hg' _
      have hz := HZ2.out
      have hgg := HG.out
      have hbo : ∀ q, q < W1.heap.size + 2 → q < W.heap.size → w'.heap[q]? = W.heap[q]? := fun q h1 h2 =>
        (hg'.block q (by simp; omega) (fun e => by have := (hw.lt q e.symm).1; omega)).trans (Below.heap_alloc _ _ _ h2)
      have hgs := hgg.size
      have ho' : w'.heap[w.heap.size]? = some (.cells #[v] 46 (0, 0)) := (hbo _ (by omega) (by omega)).trans HO.out
      have co' : w'.cell? ⟨w.heap.size, 0, none⟩ = some v := by simp [World.cell?, ho']
      have fo' : w'.frozen? ⟨w.heap.size, 0, none⟩ = false := by simp [World.frozen?, ho']
      have HB := Lib.hid hbo
      have HG' := Lib.hid hg'
      have HZ := Lib.hid hz
      clear hbo hg' hz hgg hgs
      obtain ⟨gq, cap, cur, hv', hb2⟩ : ∃ gq cap cur, v' = .slice (some ⟨gq, 0, none⟩) (pre.length + 1) cap ∧ W1.heap.size + 2 ≤ gq ∧ w'.heap[gq]? = some (.cells cur 5 (0, 0)) := by
        rcases hw'.2 with ⟨_, h0⟩ | ⟨gq, cap, cur, h1, h2, h3, _⟩
        · omega
        · exact ⟨gq, cap, cur, h1, h2, h3⟩
      subst hv'
      have HW' := Lib.hid hw'
      clear hw'
      gi_wp2_with ((rw [Oper.semAt_some _ _ _ (by intro c h; cases h)]; go_simp); try go_bits)
      have hset : ∀ q, q ≠ w.heap.size → (w'.setCell ⟨w.heap.size, 0, none⟩ (.slice (some ⟨gq, 0, none⟩) (pre.length + 1) cap)).heap[q]? = w'.heap[q]? := fun q hq => Below.heap_setCell _ _ _ _ (by simpa using hq)
      have hz := HZ.out
      have hgg := HG.out
      have hgs := hgg.size
      have hs' := HG'.out.size
      have e1 : u8s (runL (pre ++ [(d : Int)])) = u8s (runL pre) ++ [.int .u8 (48 + (d : Int))] := u8s_snoc pre d (by omega)
      have e2 : (pre ++ [(d : Int)]).length = pre.length + 1 := by simp
      refine ⟨⟨⟨HG'.out.os.trans hgg.os, HG'.out.tape.trans hgg.tape, HG'.out.output.trans hgg.output, ?_, ?_⟩, .slice (some ⟨gq, 0, none⟩) (pre.length + 1) cap, ?_, ?_⟩, ⟨?_, ?_, ?_⟩, ?_, ?_⟩
      · simp at hs' ⊢; omega
      · intro q hq hne
        exact (hset q (by omega)).trans ((HB.out q (by omega) (by omega)).trans (hgg.block q hq hne))
      · simp [World.setCell, Array.getElem?_modify, ho']
      · rw [e1, e2]
        exact owns_kept HW'.out fun q _ hq => hset q (by omega)
      · exact (hset _ (by omega)).trans (HB.out _ (by omega) (by omega))
      · exact (hset _ (by omega)).trans (HB.out _ (by omega) (by omega))
      · exact (hset _ (by omega)).trans (HB.out _ (by omega) (by omega))
      · exact (hset W1.heap.size (by omega)).trans (HB.out W1.heap.size (by omega) (by omega))
      · exact (hset (W1.heap.size + 1) (by omega)).trans (HB.out (W1.heap.size + 1) (by omega) (by omega))
  · intro D W hD hI hZ hd
    obtain ⟨g, v, ho, hw⟩ := hI
    have hDl : D < W.heap.size := (Array.getElem?_eq_some_iff.1 hd).1
    have co : W.cell? ⟨w.heap.size, 0, none⟩ = some v := by simp [World.cell?, ho]
    have cv : ∀ W', (∀ q, q < W.heap.size → W'.heap[q]? = W.heap[q]?) → (convert 46 9 v).run Tryd.prog W' = .ok (.string ⟨(runL ds).toArray⟩) W' := by
      intro W' hW
      rcases hw.2 with ⟨hv, h0⟩ | ⟨gq, cap, cur, hv, h2, h3, _⟩
      · have : ds = [] := List.eq_nil_of_length_eq_zero h0
        subst this
        rw [hv, run_convert_bytes_string W' 46 9 5 none 0 0 Tryd.underlying46 Tryd.underlying5 Tryd.underlying9]
        rfl
      · subst hv
        have hcells := hw.cells (g := gq) rfl
        have := run_convert_bytes_back (P := Tryd.prog) W' 46 9 5 ⟨gq, 0, none⟩ cap (runL ds) Tryd.underlying46 Tryd.underlying5 Tryd.underlying9 (fun j hj => by
          have h := hcells j (.int .u8 ((runL ds)[j].toNat : Int)) (by simp [u8s, hj])
          rw [← h]
          refine World.cell?_of_block ?_
          rw [addr_block]
          exact hW gq (Array.getElem?_eq_some_iff.1 h3).1)
        rwa [show (runL ds).length = ds.length by simp [runL]] at this
    have CV := cv W (fun _ _ => rfl)
    have G := Lib.hid g
    have HZ := Lib.hid hZ
    have HD := Lib.hid hd
    clear g hZ hd ho hw cv hI1 hsc hbx D72
    go_wp2
    refine ⟨by simp, .inl ⟨_, _, rfl, run_takeDeferred HD.out, ?_⟩⟩
    refine ⟨_, results_tmp rfl _ _ _, ?_⟩
    have hgs := G.out.size
    refine ⟨rfl, (World.putObj_heap_other (by omega)).trans HZ.out.1, HZ.out.2, G.out.os, G.out.tape, G.out.output, ?_, ?_⟩
    · simp; omega
    · intro j hj hne
      exact (World.putObj_heap_other (by omega)).trans (G.out.block j hj hne)
end Go.Proofs.YtpebdfofnmojcaaDoor

/- Contracts: decimal, where it reads an integer. -/
namespace Go.Proofs.YtpebdfofnmojcaaDoor
open Go.RowKit

set_option maxRecDepth 100000 in
set_option maxHeartbeats 400000 in
theorem decimal_int (b : Nat) (s : ByteArray) (k : Nat) (ln : Bool) (M T : Value) (w : World) (hs : s.size ≤ 4000000000) (hk : k ≤ s.size) (h : Scn w b s k ln M T)
    (fuel k' : Nat) (ds : List Int) (hF : digF fuel s.data.toList 10 k false = some (ds, k')) (hlen : ds.length ≤ 4000000000) (hv : valD 10 ds 0 < 18446744073709551616) (hds : ds.isEmpty = false)
    (hc : byteV s.data.toList k' = 46) (hn : byteV s.data.toList (k' + 1) = 101) :
    Calls Tryd.prog 63 #[.pointer (some ⟨b, 0, none⟩)] w fun e w' =>
      e = .returned (.tuple #[.int .i64 3, .string ⟨(decL 40 (valD 10 ds 0) []).toArray⟩, .bool true]) ∧ Scn w' b s k' ln M T ∧ k' ≤ s.size ∧ w.grownBy w' (some b) := by
  have c1 := h.c1
  have R1 := Lib.hid (run_any b s k ln M T w hs hk h fuel k' ds hF hlen)
  go_enter Tryd.func63, Tryd.ntmps63
  go_wp2_with fail
  refine R1.out.mono ?_
  rintro e W1 ⟨rfl, h1, hk1, g1⟩
  clear c1 R1
  have c1 := h1.c1
  have B1 := Lib.hid (byteAt_any b s k' ln M T k' W1 (by unfold maxLen; omega) h1)
  rw [hc] at B1
  have B2 := Lib.hid (byteAt_any b s k' ln M T (k' + 1) W1 (by unfold maxLen; omega) h1)
  rw [hn, show ((k' + 1 : Nat) : Int) = (k' : Int) + 1 from by omega] at B2
  have f1 := h1.fz 1
  have hs1 := h1.set1 (k : Int)
  have gs1 := g1.trans (grown_set (w := W1) b 1 (.int .i64 k))
  have I1 := Lib.hid (integer_small b s k 10 (by omega) (by omega) ln M T _ hs hk hs1 fuel k' ds hF hv)
  have D1 := Lib.hid (isDigit_any 101 W1)
  have ed : digitB 101 = false := by decide
  rw [ed] at D1
  have j1 : (k' : Int) ≤ 4000000000 := by omega
  go_wp2_with fail
  refine B1.out.mono ?_
  rintro e w' ⟨rfl, rfl⟩
  go_wp2_with fail
  refine B2.out.mono ?_
  rintro e w' ⟨rfl, rfl⟩
  go_wp2_with fail
  refine D1.out.mono ?_
  rintro e w' ⟨rfl, rfl⟩
  go_wp2_with fail
  refine B1.out.mono ?_
  rintro e w' ⟨rfl, rfl⟩
  go_wp2_with fail
  refine I1.out.mono ?_
  rintro e w' ⟨rfl, h2, hk2, g2⟩
  go_wp2_with fail
  go_ret3
  exact ⟨rfl, h2, hk2, gs1.trans g2⟩
end Go.Proofs.YtpebdfofnmojcaaDoor

/- Contracts: decimal (the method), over every text. -/
namespace Go.Proofs.YtpebdfofnmojcaaDoor
open Go.RowKit

/-- Whether a byte is an 'e' of either size. -/
def eB (c : Int) : Bool := bits BinOp.or IntKind.u8 c 32 == 101

set_option maxRecDepth 100000 in
set_option maxHeartbeats 400000 in
/-- No point with a digit behind it, and no 'e': an integer. -/
theorem decimal_none (b : Nat) (s : ByteArray) (k : Nat) (ln : Bool) (M T : Value) (w : World) (hs : s.size ≤ 4000000000) (hk : k ≤ s.size) (h : Scn w b s k ln M T)
    (fuel k' : Nat) (ds : List Int) (hF : digF fuel s.data.toList 10 k false = some (ds, k')) (hlen : ds.length ≤ 4000000000)
    (hp : byteV s.data.toList k' = 46 → digitB (byteV s.data.toList (k' + 1)) = false) (he : eB (byteV s.data.toList k') = false) :
    Calls Tryd.prog 63 #[.pointer (some ⟨b, 0, none⟩)] w fun e w' =>
      e = .returned (.tuple #[.int .i64 3, .string ⟨(decL 40 (cutW (valD 10 ds 0)) []).toArray⟩, .bool (!ds.isEmpty && fitsW (valD 10 ds 0))]) ∧ Scn w' b s k' ln M T ∧ k' ≤ s.size ∧ w.grownBy w' (some b) := by
  have c1 := h.c1
  have R1 := Lib.hid (run_any b s k ln M T w hs hk h fuel k' ds hF hlen)
  go_enter Tryd.func63, Tryd.ntmps63
  go_wp2_with fail
  refine R1.out.mono ?_
  rintro e W1 ⟨rfl, h1, hk1, g1⟩
  clear c1 R1
  have c1 := h1.c1
  have B1 := Lib.hid (byteAt_any b s k' ln M T k' W1 (by unfold maxLen; omega) h1)
  have B2 := Lib.hid (byteAt_any b s k' ln M T (k' + 1) W1 (by unfold maxLen; omega) h1)
  rw [show ((k' + 1 : Nat) : Int) = (k' : Int) + 1 from by omega] at B2
  have f1 := h1.fz 1
  have hs1 := h1.set1 (k : Int)
  have gs1 := g1.trans (grown_set (w := W1) b 1 (.int .i64 k))
  have I1 := Lib.hid (integer_any b s k 10 (by omega) (by omega) ln M T _ hs hk hs1 fuel k' ds hF)
  have D1 := Lib.hid (isDigit_any (byteV s.data.toList (k' + 1)) W1)
  have j1 : (k' : Int) ≤ 4000000000 := by omega
  generalize byteV s.data.toList k' = c at *
  generalize byteV s.data.toList (k' + 1) = n at *
  unfold eB at he
  rw [beq_eq_false_iff_ne] at he
  by_cases hc : c = 46
  · subst hc
    rw [hp rfl] at D1
    go_wp2_with fail
    refine B1.out.mono ?_
    rintro e w' ⟨rfl, rfl⟩
    go_wp2_with fail
    refine B2.out.mono ?_
    rintro e w' ⟨rfl, rfl⟩
    go_wp2_with fail
    refine D1.out.mono ?_
    rintro e w' ⟨rfl, rfl⟩
    go_wp2_with fail
    refine B1.out.mono ?_
    rintro e w' ⟨rfl, rfl⟩
    go_wp2_with fail
    refine I1.out.mono ?_
    rintro e w' ⟨rfl, h2, hk2, g2⟩
    go_wp2_with fail
    go_ret3
    exact ⟨rfl, h2, hk2, gs1.trans g2⟩
  · go_wp2_with fail
    refine B1.out.mono ?_
    rintro e w' ⟨rfl, rfl⟩
    go_wp2_with fail
    refine B1.out.mono ?_
    rintro e w' ⟨rfl, rfl⟩
    go_wp2_with fail
    refine I1.out.mono ?_
    rintro e w' ⟨rfl, h2, hk2, g2⟩
    go_wp2_with fail
    go_ret3
    exact ⟨rfl, h2, hk2, gs1.trans g2⟩
end Go.Proofs.YtpebdfofnmojcaaDoor

/- Contracts: decimal (the method), with a point. -/
namespace Go.Proofs.YtpebdfofnmojcaaDoor
open Go.RowKit

theorem cat3 (a b c : List UInt8) : (⟨a.toArray⟩ : ByteArray) ++ ((⟨b.toArray⟩ : ByteArray) ++ (⟨c.toArray⟩ : ByteArray)) = ⟨(a ++ (b ++ c)).toArray⟩ := by
  apply ByteArray.ext
  simp
set_option maxRecDepth 100000 in
set_option maxHeartbeats 400000 in
/-- A point with a digit behind it, and no 'e': a float. -/
theorem decimal_point (b : Nat) (s : ByteArray) (k : Nat) (ln : Bool) (M T : Value) (w : World) (hs : s.size ≤ 4000000000) (hk : k ≤ s.size) (h : Scn w b s k ln M T)
    (fuel k' : Nat) (ds : List Int) (hF : digF fuel s.data.toList 10 k false = some (ds, k')) (hlen : ds.length ≤ 4000000000)
    (hp : byteV s.data.toList k' = 46) (hd : digitB (byteV s.data.toList (k' + 1)) = true)
    (fuel2 k2 : Nat) (ds2 : List Int) (hk1 : k' + 1 ≤ s.size) (hF2 : digF fuel2 s.data.toList 10 (k' + 1) false = some (ds2, k2)) (hlen2 : ds2.length ≤ 4000000000)
    (he : eB (byteV s.data.toList k2) = false) :
    Calls Tryd.prog 63 #[.pointer (some ⟨b, 0, none⟩)] w fun e w' =>
      e = .returned (.tuple #[.int .i64 4, .string ⟨(runL ds ++ 46 :: runL ds2).toArray⟩, .bool true]) ∧ Scn w' b s k2 ln M T ∧ k2 ≤ s.size ∧ w.grownBy w' (some b) := by
  have c1 := h.c1
  have R1 := Lib.hid (run_any b s k ln M T w hs hk h fuel k' ds hF hlen)
  have R2' := fun W hs1 => run_any b s (k' + 1) ln M T W hs hk1 hs1 fuel2 k2 ds2 hF2 hlen2
  have hl1 : (runL ds).length = ds.length := by simp [runL]
  have hl2 : (runL ds2).length = ds2.length := by simp [runL]
  have he2 : (runL ds2).isEmpty = ds2.isEmpty := by simp [runL]
  generalize runL ds = t1 at *
  generalize runL ds2 = t2 at *
  go_enter Tryd.func63, Tryd.ntmps63
  go_wp2_with fail
  refine R1.out.mono ?_
  rintro e W1 ⟨rfl, h1, -, g1⟩
  clear c1 R1
  have c1 := h1.c1
  have B1 := Lib.hid (byteAt_any b s k' ln M T k' W1 (by unfold maxLen; omega) h1)
  have B2 := Lib.hid (byteAt_any b s k' ln M T (k' + 1) W1 (by unfold maxLen; omega) h1)
  rw [show ((k' + 1 : Nat) : Int) = (k' : Int) + 1 from by omega] at B2
  rw [hp] at B1
  have f1 := h1.fz 1
  have hs1 := h1.set1 ((k' : Int) + 1)
  have gs1 := g1.trans (grown_set (w := W1) b 1 (.int .i64 ((k' : Int) + 1)))
  have R2 := Lib.hid (R2' _ (by simpa using hs1))
  clear R2'
  have D1 := Lib.hid (isDigit_any (byteV s.data.toList (k' + 1)) W1)
  rw [hd] at D1
  have j1 : (k' : Int) ≤ 4000000000 := by omega
  generalize byteV s.data.toList (k' + 1) = n at *
  unfold eB at he
  rw [beq_eq_false_iff_ne] at he
  go_wp2_with fail
  refine B1.out.mono ?_
  rintro e w' ⟨rfl, rfl⟩
  go_wp2_with fail
  refine B2.out.mono ?_
  rintro e w' ⟨rfl, rfl⟩
  go_wp2_with fail
  refine D1.out.mono ?_
  rintro e w' ⟨rfl, rfl⟩
  go_wp2_with fail
  refine R2.out.mono ?_
  rintro e w' ⟨rfl, h2, hk2, g2⟩
  have B3 := Lib.hid (byteAt_any b s k2 ln M T k2 w' (by unfold maxLen; omega) h2)
  have c12 := h2.c1
  generalize byteV s.data.toList k2 = c at *
  go_wp2_with fail
  refine B3.out.mono ?_
  rintro e w2 ⟨rfl, rfl⟩
  go_wp2_with fail
  go_ret3
  exact ⟨by rw [cat3]; rfl, h2, hk2, gs1.trans g2⟩
end Go.Proofs.YtpebdfofnmojcaaDoor

/- Contracts: decimal (the method), with an exponent. -/
namespace Go.Proofs.YtpebdfofnmojcaaDoor
open Go.RowKit

theorem catL (a b c : List UInt8) : (⟨a.toArray⟩ : ByteArray) ++ (⟨b.toArray⟩ : ByteArray) ++ (⟨c.toArray⟩ : ByteArray) = ⟨(a ++ (b ++ c)).toArray⟩ := by
  apply ByteArray.ext
  simp
theorem eB_point (c : Int) (h : eB c = true) : c ≠ 46 := by
  intro e
  subst e
  revert h
  decide

set_option maxRecDepth 100000 in
set_option maxHeartbeats 400000 in
/-- No point; an 'e' without a sign. -/
theorem decimal_exp (b : Nat) (s : ByteArray) (k : Nat) (ln : Bool) (M T : Value) (w : World) (hs : s.size ≤ 4000000000) (hk : k ≤ s.size) (h : Scn w b s k ln M T)
    (fuel k' : Nat) (ds : List Int) (hF : digF fuel s.data.toList 10 k false = some (ds, k')) (hlen : ds.length ≤ 4000000000)
    (he : eB (byteV s.data.toList k') = true) (hn1 : byteV s.data.toList (k' + 1) ≠ 43) (hn2 : byteV s.data.toList (k' + 1) ≠ 45)
    (fuel2 k2 : Nat) (ds2 : List Int) (hk1 : k' + 1 ≤ s.size) (hF2 : digF fuel2 s.data.toList 10 (k' + 1) false = some (ds2, k2)) (hlen2 : ds2.length ≤ 4000000000) :
    Calls Tryd.prog 63 #[.pointer (some ⟨b, 0, none⟩)] w fun e w' =>
      e = .returned (.tuple #[.int .i64 4, .string ⟨(runL ds ++ 101 :: runL ds2).toArray⟩, .bool (!ds2.isEmpty)]) ∧ Scn w' b s k2 ln M T ∧ k2 ≤ s.size ∧ w.grownBy w' (some b) := by
  have c1 := h.c1
  have R1 := Lib.hid (run_any b s k ln M T w hs hk h fuel k' ds hF hlen)
  have R2' := fun W hs1 => run_any b s (k' + 1) ln M T W hs hk1 hs1 fuel2 k2 ds2 hF2 hlen2
  have hl1 : (runL ds).length = ds.length := by simp [runL]
  have hl2 : (runL ds2).length = ds2.length := by simp [runL]
  have he2 : (runL ds2).isEmpty = ds2.isEmpty := by simp [runL]
  generalize runL ds = t1 at *
  generalize runL ds2 = t2 at *
  go_enter Tryd.func63, Tryd.ntmps63
  go_wp2_with fail
  refine R1.out.mono ?_
  rintro e W1 ⟨rfl, h1, -, g1⟩
  clear c1 R1
  have c1 := h1.c1
  have B1 := Lib.hid (byteAt_any b s k' ln M T k' W1 (by unfold maxLen; omega) h1)
  have f1 := h1.fz 1
  have hs1 := h1.set1 ((k' : Int) + 1)
  have B2 := Lib.hid (byteAt_any b s (k' + 1) ln M T (k' + 1) _ (by unfold maxLen; omega) (by simpa using hs1))
  rw [show ((k' + 1 : Nat) : Int) = (k' : Int) + 1 from by omega] at B2
  have gs1 := g1.trans (grown_set (w := W1) b 1 (.int .i64 ((k' : Int) + 1)))
  have R2 := Lib.hid (R2' _ (by simpa using hs1))
  clear R2'
  have j1 : (k' : Int) ≤ 4000000000 := by omega
  have hc := eB_point _ he
  generalize byteV s.data.toList k' = c at *
  generalize byteV s.data.toList (k' + 1) = n at *
  have q1 : (n == 43) = false := by simp [hn1]
  have q2 : (n == 45) = false := by simp [hn2]
  unfold eB at he
  rw [beq_iff_eq] at he
  have HS1 := Lib.hid hs1
  have c11 := hs1.c1
  clear hs1
  go_wp2_with fail
  refine B1.out.mono ?_
  rintro e w' ⟨rfl, rfl⟩
  go_wp2_with fail
  refine B1.out.mono ?_
  rintro e w' ⟨rfl, rfl⟩
  go_wp2_with fail
  refine B1.out.mono ?_
  rintro e w' ⟨rfl, rfl⟩
  go_wp2_with fail
  refine B2.out.mono ?_
  rintro e w' ⟨rfl, rfl⟩
  go_wp2_with fail
  refine R2.out.mono ?_
  rintro e w' ⟨rfl, h2, hk2, g2⟩
  go_wp2_with fail
  go_ret3
  refine ⟨?_, h2, hk2, gs1.trans g2⟩
  simp
  exact catL t1 [101] t2
end Go.Proofs.YtpebdfofnmojcaaDoor

/- Contracts: decimal (the method), with a signed exponent. -/
namespace Go.Proofs.YtpebdfofnmojcaaDoor
open Go.RowKit

theorem catS (a c : List UInt8) (x : ByteArray) (d : UInt8) (hx : x = ⟨[d].toArray⟩) : (⟨a.toArray⟩ : ByteArray) ++ (⟨#[101]⟩ : ByteArray) ++ x ++ (⟨c.toArray⟩ : ByteArray) = ⟨(a ++ 101 :: d :: c).toArray⟩ := by
  subst hx
  apply ByteArray.ext
  simp
set_option maxRecDepth 100000 in
set_option maxHeartbeats 400000 in
/-- No point; an 'e' with a sign. -/
theorem decimal_sign (b : Nat) (s : ByteArray) (k : Nat) (ln : Bool) (M T : Value) (w : World) (hs : s.size ≤ 4000000000) (hk : k ≤ s.size) (h : Scn w b s k ln M T)
    (fuel k' : Nat) (ds : List Int) (hF : digF fuel s.data.toList 10 k false = some (ds, k')) (hlen : ds.length ≤ 4000000000)
    (he : eB (byteV s.data.toList k') = true) (sg : UInt8) (hsg : sg = 43 ∨ sg = 45) (hn1 : byteV s.data.toList (k' + 1) = (sg.toNat : Int))
    (fuel2 k2 : Nat) (ds2 : List Int) (hk1 : k' + 2 ≤ s.size) (hF2 : digF fuel2 s.data.toList 10 (k' + 2) false = some (ds2, k2)) (hlen2 : ds2.length ≤ 4000000000) :
    Calls Tryd.prog 63 #[.pointer (some ⟨b, 0, none⟩)] w fun e w' =>
      e = .returned (.tuple #[.int .i64 4, .string ⟨(runL ds ++ 101 :: sg :: runL ds2).toArray⟩, .bool (!ds2.isEmpty)]) ∧ Scn w' b s k2 ln M T ∧ k2 ≤ s.size ∧ w.grownBy w' (some b) := by
  have c1 := h.c1
  have R1 := Lib.hid (run_any b s k ln M T w hs hk h fuel k' ds hF hlen)
  have R2' := fun W hs1 => run_any b s (k' + 2) ln M T W hs hk1 hs1 fuel2 k2 ds2 hF2 hlen2
  have hl1 : (runL ds).length = ds.length := by simp [runL]
  have hl2 : (runL ds2).length = ds2.length := by simp [runL]
  have he2 : (runL ds2).isEmpty = ds2.isEmpty := by simp [runL]
  generalize runL ds = t1 at *
  generalize runL ds2 = t2 at *
  go_enter Tryd.func63, Tryd.ntmps63
  go_wp2_with fail
  refine R1.out.mono ?_
  rintro e W1 ⟨rfl, h1, -, g1⟩
  clear c1 R1
  have c1 := h1.c1
  have B1 := Lib.hid (byteAt_any b s k' ln M T k' W1 (by unfold maxLen; omega) h1)
  have f1 := h1.fz 1
  have hs1 := h1.set1 ((k' : Int) + 1)
  have B2 := Lib.hid (byteAt_any b s (k' + 1) ln M T (k' + 1) _ (by unfold maxLen; omega) (by simpa using hs1))
  rw [show ((k' + 1 : Nat) : Int) = (k' : Int) + 1 from by omega] at B2
  have gs1 := g1.trans (grown_set (w := W1) b 1 (.int .i64 ((k' : Int) + 1)))
  have j1 : (k' : Int) ≤ 4000000000 := by omega
  have hc := eB_point _ he
  generalize byteV s.data.toList k' = c at *
  generalize byteV s.data.toList (k' + 1) = n at *
  unfold eB at he
  rw [beq_iff_eq] at he
  have HS1 := Lib.hid hs1
  have c11 := hs1.c1
  have f11 := hs1.fz 1
  have hs2 := hs1.set1 ((k' : Int) + 1 + 1)
  have gs2 := gs1.trans (grown_set (w := W1.setCell ⟨b, 1, none⟩ (.int .i64 ((k' : Int) + 1))) b 1 (.int .i64 ((k' : Int) + 1 + 1)))
  have R2 := Lib.hid (R2' _ (by rw [show ((k' + 2 : Nat) : Int) = (k' : Int) + 1 + 1 from by omega]; exact hs2))
  clear R2' hs2
  clear hs1
  go_wp2_with fail
  refine B1.out.mono ?_
  rintro e w' ⟨rfl, rfl⟩
  go_wp2_with fail
  refine B1.out.mono ?_
  rintro e w' ⟨rfl, rfl⟩
  go_wp2_with fail
  refine B1.out.mono ?_
  rintro e w' ⟨rfl, rfl⟩
  go_wp2_with fail
  refine B2.out.mono ?_
  rintro e w' ⟨rfl, rfl⟩
  rcases hsg with rfl | rfl
  · have z1 : ¬ 9223372036854775807 < ds.length + 1 + (Utf8.encode 43).size := by rw [show (Utf8.encode 43).size = 1 from by decide]; omega
    go_wp2_with fail
    refine R2.out.mono ?_
    rintro e w' ⟨rfl, h2, hk2, g2⟩
    have z2 : ¬ 9223372036854775807 < ds.length + 1 + (Utf8.encode 43).size + ds2.length := by rw [show (Utf8.encode 43).size = 1 from by decide]; omega
    go_wp2_with fail
    go_ret3
    refine ⟨?_, h2, hk2, gs2.trans g2⟩
    simp
    exact catS t1 t2 _ _ (by decide)
  · have z1 : ¬ 9223372036854775807 < ds.length + 1 + (Utf8.encode 45).size := by rw [show (Utf8.encode 45).size = 1 from by decide]; omega
    go_wp2_with fail
    refine R2.out.mono ?_
    rintro e w' ⟨rfl, h2, hk2, g2⟩
    have z2 : ¬ 9223372036854775807 < ds.length + 1 + (Utf8.encode 45).size + ds2.length := by rw [show (Utf8.encode 45).size = 1 from by decide]; omega
    go_wp2_with fail
    go_ret3
    refine ⟨?_, h2, hk2, gs2.trans g2⟩
    simp
    exact catS t1 t2 _ _ (by decide)
end Go.Proofs.YtpebdfofnmojcaaDoor

/- Contracts: decimal (the method), with a point and an exponent. -/
namespace Go.Proofs.YtpebdfofnmojcaaDoor
open Go.RowKit

theorem catP (a b c : List UInt8) : (⟨a.toArray⟩ : ByteArray) ++ ((⟨#[46]⟩ : ByteArray) ++ (⟨b.toArray⟩ : ByteArray)) ++ (⟨#[101]⟩ : ByteArray) ++ (⟨c.toArray⟩ : ByteArray) = ⟨(a ++ 46 :: (b ++ 101 :: c)).toArray⟩ := by
  apply ByteArray.ext
  simp
theorem catPS (a b c : List UInt8) (x : ByteArray) (d : UInt8) (hx : x = ⟨[d].toArray⟩) : (⟨a.toArray⟩ : ByteArray) ++ ((⟨#[46]⟩ : ByteArray) ++ (⟨b.toArray⟩ : ByteArray)) ++ (⟨#[101]⟩ : ByteArray) ++ x ++ (⟨c.toArray⟩ : ByteArray) = ⟨(a ++ 46 :: (b ++ 101 :: d :: c)).toArray⟩ := by
  subst hx
  apply ByteArray.ext
  simp

set_option maxRecDepth 100000 in
set_option maxHeartbeats 800000 in
/-- A point, and an 'e' without a sign. -/
theorem decimal_pointExp (b : Nat) (s : ByteArray) (k : Nat) (ln : Bool) (M T : Value) (w : World) (hs : s.size ≤ 4000000000) (hk : k ≤ s.size) (h : Scn w b s k ln M T)
    (fuel k' : Nat) (ds : List Int) (hF : digF fuel s.data.toList 10 k false = some (ds, k')) (hlen : ds.length ≤ 4000000000)
    (hp : byteV s.data.toList k' = 46) (hd : digitB (byteV s.data.toList (k' + 1)) = true)
    (fuel1 k1 : Nat) (ds1 : List Int) (hk0 : k' + 1 ≤ s.size) (hF1 : digF fuel1 s.data.toList 10 (k' + 1) false = some (ds1, k1)) (hlen1 : ds1.length ≤ 4000000000)
    (he : eB (byteV s.data.toList k1) = true) (hn1 : byteV s.data.toList (k1 + 1) ≠ 43) (hn2 : byteV s.data.toList (k1 + 1) ≠ 45)
    (fuel2 k2 : Nat) (ds2 : List Int) (hk1 : k1 + 1 ≤ s.size) (hF2 : digF fuel2 s.data.toList 10 (k1 + 1) false = some (ds2, k2)) (hlen2 : ds2.length ≤ 4000000000) :
    Calls Tryd.prog 63 #[.pointer (some ⟨b, 0, none⟩)] w fun e w' =>
      e = .returned (.tuple #[.int .i64 4, .string ⟨(runL ds ++ 46 :: runL ds1 ++ 101 :: runL ds2).toArray⟩, .bool (!ds2.isEmpty)]) ∧ Scn w' b s k2 ln M T ∧ k2 ≤ s.size ∧ w.grownBy w' (some b) := by
  have c1 := h.c1
  have R1 := Lib.hid (run_any b s k ln M T w hs hk h fuel k' ds hF hlen)
  have R1' := fun W hs1 => run_any b s (k' + 1) ln M T W hs hk0 hs1 fuel1 k1 ds1 hF1 hlen1
  have R2' := fun W hs1 => run_any b s (k1 + 1) ln M T W hs hk1 hs1 fuel2 k2 ds2 hF2 hlen2
  have hl1 : (runL ds).length = ds.length := by simp [runL]
  have hl3 : (runL ds1).length = ds1.length := by simp [runL]
  have hl2 : (runL ds2).length = ds2.length := by simp [runL]
  have he2 : (runL ds2).isEmpty = ds2.isEmpty := by simp [runL]
  generalize runL ds = t1 at *
  generalize runL ds1 = t3 at *
  generalize runL ds2 = t2 at *
  go_enter Tryd.func63, Tryd.ntmps63
  go_wp2_with fail
  refine R1.out.mono ?_
  rintro e W1 ⟨rfl, h1, -, g1⟩
  clear c1 R1
  have c1 := h1.c1
  have B1 := Lib.hid (byteAt_any b s k' ln M T k' W1 (by unfold maxLen; omega) h1)
  have B2 := Lib.hid (byteAt_any b s k' ln M T (k' + 1) W1 (by unfold maxLen; omega) h1)
  rw [show ((k' + 1 : Nat) : Int) = (k' : Int) + 1 from by omega] at B2
  rw [hp] at B1
  have f1 := h1.fz 1
  have hs1 := h1.set1 ((k' : Int) + 1)
  have gs1 := g1.trans (grown_set (w := W1) b 1 (.int .i64 ((k' : Int) + 1)))
  have R2 := Lib.hid (R1' _ (by simpa using hs1))
  clear R1'
  have D1 := Lib.hid (isDigit_any (byteV s.data.toList (k' + 1)) W1)
  rw [hd] at D1
  have j1 : (k' : Int) ≤ 4000000000 := by omega
  generalize byteV s.data.toList (k' + 1) = m at *
  go_wp2_with fail
  refine B1.out.mono ?_
  rintro e w' ⟨rfl, rfl⟩
  go_wp2_with fail
  refine B2.out.mono ?_
  rintro e w' ⟨rfl, rfl⟩
  go_wp2_with fail
  refine D1.out.mono ?_
  rintro e w' ⟨rfl, rfl⟩
  go_wp2_with fail
  refine R2.out.mono ?_
  rintro e W2 ⟨rfl, h2, hk2, g2⟩
  have G2 := gs1.trans g2
  clear c1 f1 hs1 gs1 g1 g2 B1 B2 D1 R2 h1
  have c1 := h2.c1
  have f1 := h2.fz 1
  have j2 : (k1 : Int) ≤ 4000000000 := by omega
  have B1 := Lib.hid (byteAt_any b s k1 ln M T k1 W2 (by unfold maxLen; omega) h2)
  have hs1 := h2.set1 ((k1 : Int) + 1)
  have B2 := Lib.hid (byteAt_any b s (k1 + 1) ln M T (k1 + 1) _ (by unfold maxLen; omega) (by simpa using hs1))
  rw [show ((k1 + 1 : Nat) : Int) = (k1 : Int) + 1 from by omega] at B2
  have gs1 := G2.trans (grown_set (w := W2) b 1 (.int .i64 ((k1 : Int) + 1)))
  have R2 := Lib.hid (R2' _ (by simpa using hs1))
  clear R2'
  generalize byteV s.data.toList k1 = c at *
  generalize byteV s.data.toList (k1 + 1) = n at *
  have q1 : (n == 43) = false := by simp [hn1]
  have q2 : (n == 45) = false := by simp [hn2]
  unfold eB at he
  rw [beq_iff_eq] at he
  have c11 := hs1.c1
  clear hs1
  go_wp2_with fail
  refine B1.out.mono ?_
  rintro e w' ⟨rfl, rfl⟩
  go_wp2_with fail
  refine B2.out.mono ?_
  rintro e w' ⟨rfl, rfl⟩
  go_wp2_with fail
  refine R2.out.mono ?_
  rintro e w' ⟨rfl, h2, hk2, g2⟩
  go_wp2_with fail
  go_ret3
  refine ⟨?_, h2, hk2, gs1.trans g2⟩
  simp
  exact catP t1 t3 t2
end Go.Proofs.YtpebdfofnmojcaaDoor

/- Contracts: decimal (the method), with a point and a signed exponent. -/
namespace Go.Proofs.YtpebdfofnmojcaaDoor
open Go.RowKit

set_option maxRecDepth 100000 in
set_option maxHeartbeats 800000 in
/-- A point, and an 'e' with a sign. -/
theorem decimal_pointSign (b : Nat) (s : ByteArray) (k : Nat) (ln : Bool) (M T : Value) (w : World) (hs : s.size ≤ 4000000000) (hk : k ≤ s.size) (h : Scn w b s k ln M T)
    (fuel k' : Nat) (ds : List Int) (hF : digF fuel s.data.toList 10 k false = some (ds, k')) (hlen : ds.length ≤ 4000000000)
    (hp : byteV s.data.toList k' = 46) (hd : digitB (byteV s.data.toList (k' + 1)) = true)
    (fuel1 k1 : Nat) (ds1 : List Int) (hk0 : k' + 1 ≤ s.size) (hF1 : digF fuel1 s.data.toList 10 (k' + 1) false = some (ds1, k1)) (hlen1 : ds1.length ≤ 4000000000)
    (he : eB (byteV s.data.toList k1) = true) (sg : UInt8) (hsg : sg = 43 ∨ sg = 45) (hn1 : byteV s.data.toList (k1 + 1) = (sg.toNat : Int))
    (fuel2 k2 : Nat) (ds2 : List Int) (hk1 : k1 + 2 ≤ s.size) (hF2 : digF fuel2 s.data.toList 10 (k1 + 2) false = some (ds2, k2)) (hlen2 : ds2.length ≤ 4000000000) :
    Calls Tryd.prog 63 #[.pointer (some ⟨b, 0, none⟩)] w fun e w' =>
      e = .returned (.tuple #[.int .i64 4, .string ⟨(runL ds ++ 46 :: runL ds1 ++ 101 :: sg :: runL ds2).toArray⟩, .bool (!ds2.isEmpty)]) ∧ Scn w' b s k2 ln M T ∧ k2 ≤ s.size ∧ w.grownBy w' (some b) := by
  have c1 := h.c1
  have R1 := Lib.hid (run_any b s k ln M T w hs hk h fuel k' ds hF hlen)
  have R1' := fun W hs1 => run_any b s (k' + 1) ln M T W hs hk0 hs1 fuel1 k1 ds1 hF1 hlen1
  have R2' := fun W hs1 => run_any b s (k1 + 2) ln M T W hs hk1 hs1 fuel2 k2 ds2 hF2 hlen2
  have hl1 : (runL ds).length = ds.length := by simp [runL]
  have hl3 : (runL ds1).length = ds1.length := by simp [runL]
  have hl2 : (runL ds2).length = ds2.length := by simp [runL]
  have he2 : (runL ds2).isEmpty = ds2.isEmpty := by simp [runL]
  generalize runL ds = t1 at *
  generalize runL ds1 = t3 at *
  generalize runL ds2 = t2 at *
  go_enter Tryd.func63, Tryd.ntmps63
  go_wp2_with fail
  refine R1.out.mono ?_
  rintro e W1 ⟨rfl, h1, -, g1⟩
  clear c1 R1
  have c1 := h1.c1
  have B1 := Lib.hid (byteAt_any b s k' ln M T k' W1 (by unfold maxLen; omega) h1)
  have B2 := Lib.hid (byteAt_any b s k' ln M T (k' + 1) W1 (by unfold maxLen; omega) h1)
  rw [show ((k' + 1 : Nat) : Int) = (k' : Int) + 1 from by omega] at B2
  rw [hp] at B1
  have f1 := h1.fz 1
  have hs1 := h1.set1 ((k' : Int) + 1)
  have gs1 := g1.trans (grown_set (w := W1) b 1 (.int .i64 ((k' : Int) + 1)))
  have R2 := Lib.hid (R1' _ (by simpa using hs1))
  clear R1'
  have D1 := Lib.hid (isDigit_any (byteV s.data.toList (k' + 1)) W1)
  rw [hd] at D1
  have j1 : (k' : Int) ≤ 4000000000 := by omega
  generalize byteV s.data.toList (k' + 1) = m at *
  go_wp2_with fail
  refine B1.out.mono ?_
  rintro e w' ⟨rfl, rfl⟩
  go_wp2_with fail
  refine B2.out.mono ?_
  rintro e w' ⟨rfl, rfl⟩
  go_wp2_with fail
  refine D1.out.mono ?_
  rintro e w' ⟨rfl, rfl⟩
  go_wp2_with fail
  refine R2.out.mono ?_
  rintro e W2 ⟨rfl, h2, hk2, g2⟩
  have G2 := gs1.trans g2
  clear c1 f1 hs1 gs1 g1 g2 B1 B2 D1 R2 h1
  have c1 := h2.c1
  have f1 := h2.fz 1
  have j2 : (k1 : Int) ≤ 4000000000 := by omega
  have B1 := Lib.hid (byteAt_any b s k1 ln M T k1 W2 (by unfold maxLen; omega) h2)
  have hs1 := h2.set1 ((k1 : Int) + 1)
  have B2 := Lib.hid (byteAt_any b s (k1 + 1) ln M T (k1 + 1) _ (by unfold maxLen; omega) (by simpa using hs1))
  rw [show ((k1 + 1 : Nat) : Int) = (k1 : Int) + 1 from by omega] at B2
  have gs1 := G2.trans (grown_set (w := W2) b 1 (.int .i64 ((k1 : Int) + 1)))
  have f11 := hs1.fz 1
  have hs2 := hs1.set1 ((k1 : Int) + 1 + 1)
  have gs2 := gs1.trans (grown_set (w := W2.setCell ⟨b, 1, none⟩ (.int .i64 ((k1 : Int) + 1))) b 1 (.int .i64 ((k1 : Int) + 1 + 1)))
  have R2 := Lib.hid (R2' _ (by rw [show ((k1 + 2 : Nat) : Int) = (k1 : Int) + 1 + 1 from by omega]; exact hs2))
  clear R2' hs2
  generalize byteV s.data.toList k1 = c at *
  generalize byteV s.data.toList (k1 + 1) = n at *
  unfold eB at he
  rw [beq_iff_eq] at he
  have c11 := hs1.c1
  clear hs1
  go_wp2_with fail
  refine B1.out.mono ?_
  rintro e w' ⟨rfl, rfl⟩
  go_wp2_with fail
  refine B2.out.mono ?_
  rintro e w' ⟨rfl, rfl⟩
  rcases hsg with rfl | rfl
  · have z1 : ¬ 9223372036854775807 < ds.length + (1 + ds1.length) + 1 + (Utf8.encode 43).size := by rw [show (Utf8.encode 43).size = 1 from by decide]; omega
    have z2 : ¬ 9223372036854775807 < ds.length + (1 + ds1.length) + 1 + (Utf8.encode 43).size + ds2.length := by rw [show (Utf8.encode 43).size = 1 from by decide]; omega
    go_wp2_with fail
    refine R2.out.mono ?_
    rintro e w' ⟨rfl, h2, hk2, g2⟩
    go_wp2_with fail
    go_ret3
    refine ⟨?_, h2, hk2, gs2.trans g2⟩
    simp
    exact catPS t1 t3 t2 _ _ (by decide)
  · have z1 : ¬ 9223372036854775807 < ds.length + (1 + ds1.length) + 1 + (Utf8.encode 45).size := by rw [show (Utf8.encode 45).size = 1 from by decide]; omega
    have z2 : ¬ 9223372036854775807 < ds.length + (1 + ds1.length) + 1 + (Utf8.encode 45).size + ds2.length := by rw [show (Utf8.encode 45).size = 1 from by decide]; omega
    go_wp2_with fail
    refine R2.out.mono ?_
    rintro e w' ⟨rfl, h2, hk2, g2⟩
    go_wp2_with fail
    go_ret3
    refine ⟨?_, h2, hk2, gs2.trans g2⟩
    simp
    exact catPS t1 t3 t2 _ _ (by decide)
end Go.Proofs.YtpebdfofnmojcaaDoor

/- Contracts: number, over integers (hexadecimal, decimal). -/
namespace Go.Proofs.YtpebdfofnmojcaaDoor
open Go.RowKit

theorem prefix_at (s : ByteArray) (k : Nat) (t : ByteArray) (w : World) (hs : s.size ≤ 4000000000) (ht : t.size ≤ 100) :
    Calls Tryd.prog 54 #[.string (s.extract k s.size), .string t] w fun e w' => e = .returned (.bool (hasPre (s.data.toList.drop k) t.data.toList)) ∧ w = w' := by
  have e : (s.extract k s.size).data.toList = s.data.toList.drop k := by rw [extract_list]; exact List.take_of_length_le (by simp)
  have := prefix_any (s.extract k s.size) t w (by unfold maxLen; rw [← len_list, e]; simp; omega) (by unfold maxLen; omega)
  rwa [e] at this

set_option maxRecDepth 100000 in
set_option maxHeartbeats 400000 in
theorem number_hex (b : Nat) (s : ByteArray) (k : Nat) (ln : Bool) (M T : Value) (w : World) (hs : s.size ≤ 4000000000) (hk : k + 2 ≤ s.size) (h : Scn w b s k ln M T)
    (hp : hasPre (s.data.toList.drop k) [48, 120] = true)
    (fuel k' : Nat) (ds : List Int) (hF : digF fuel s.data.toList 16 (k + 2) false = some (ds, k')) (hv : valD 16 ds 0 < 18446744073709551616) (hds : ds.isEmpty = false)
    (hc : wordB (byteV s.data.toList k') = false) :
    Calls Tryd.prog 51 #[.pointer (some ⟨b, 0, none⟩)] w fun e w' =>
      e = .returned (.tuple #[.int .i64 3, .string ⟨(decL 40 (valD 16 ds 0) []).toArray⟩]) ∧ Scn w' b s k' ln M T ∧ k' ≤ s.size ∧ w.grownBy w' (some b) := by
  have c0 := h.c0
  have c1 := h.c1
  have f1 := h.fz 1
  have i1 : (k : Int) + 2 ≤ s.size := by omega
  have i2 : (s.size : Int) ≤ 4000000000 := by omega
  have P1 := Lib.hid (fun W => prefix_at s k ⟨#[48, 120]⟩ W hs (by decide))
  have hp' : hasPre (s.data.toList.drop k) (ByteArray.mk #[48, 120]).data.toList = true := hp
  rw [hp'] at P1
  have hs1 := h.set1 ((k : Int) + 2)
  have gs1 := grown_set (w := w) b 1 (.int .i64 ((k : Int) + 2))
  have I1 := Lib.hid (integer_small b s (k + 2) 16 (by omega) (by omega) ln M T (w.setCell ⟨b, 1, none⟩ (.int .i64 ((k : Int) + 2))) hs hk (by simpa using hs1) fuel k' ds hF hv)
  go_enter Tryd.func51, Tryd.ntmps51
  go_wp2_with fail
  refine (P1.out _).mono ?_
  rintro e w' ⟨rfl, rfl⟩
  go_wp2_with fail
  refine I1.out.mono ?_
  rintro e w' ⟨rfl, h2, hk2, g2⟩
  have B1 := Lib.hid (byteAt_any b s k' ln M T k' w' (by unfold maxLen; omega) h2)
  have W1 := Lib.hid (inWord_any (byteV s.data.toList k') w')
  rw [hc] at W1
  have c12 := h2.c1
  generalize byteV s.data.toList k' = c at *
  go_wp2_with fail
  refine B1.out.mono ?_
  rintro e w' ⟨rfl, rfl⟩
  go_wp2_with fail
  refine W1.out.mono ?_
  rintro e w' ⟨rfl, rfl⟩
  go_wp2_with fail
  go_ret2
  exact ⟨rfl, h2, hk2, gs1.trans g2⟩

set_option maxRecDepth 100000 in
set_option maxHeartbeats 400000 in
theorem number_int (b : Nat) (s : ByteArray) (k : Nat) (ln : Bool) (M T : Value) (w : World) (hs : s.size ≤ 4000000000) (hk : k ≤ s.size) (h : Scn w b s k ln M T)
    (hp : hasPre (s.data.toList.drop k) [48, 120] = false) (hp2 : hasPre (s.data.toList.drop k) [48, 98] = false)
    (fuel k' : Nat) (ds : List Int) (hF : digF fuel s.data.toList 10 k false = some (ds, k')) (hlen : ds.length ≤ 4000000000) (hv : valD 10 ds 0 < 18446744073709551616) (hds : ds.isEmpty = false)
    (hc : byteV s.data.toList k' = 46) (hn : byteV s.data.toList (k' + 1) = 101) :
    Calls Tryd.prog 51 #[.pointer (some ⟨b, 0, none⟩)] w fun e w' =>
      e = .returned (.tuple #[.int .i64 3, .string ⟨(decL 40 (valD 10 ds 0) []).toArray⟩]) ∧ Scn w' b s k' ln M T ∧ k' ≤ s.size ∧ w.grownBy w' (some b) := by
  have c0 := h.c0
  have c1 := h.c1
  have i1 : (k : Int) ≤ s.size := by omega
  have i2 : (s.size : Int) ≤ 4000000000 := by omega
  have P1 := Lib.hid (fun W => prefix_at s k ⟨#[48, 120]⟩ W hs (by decide))
  have P2 := Lib.hid (fun W => prefix_at s k ⟨#[48, 98]⟩ W hs (by decide))
  have hp' : hasPre (s.data.toList.drop k) (ByteArray.mk #[48, 120]).data.toList = false := hp
  have hp2' : hasPre (s.data.toList.drop k) (ByteArray.mk #[48, 98]).data.toList = false := hp2
  rw [hp'] at P1
  rw [hp2'] at P2
  have D1 := Lib.hid (decimal_int b s k ln M T w hs hk h fuel k' ds hF hlen hv hds hc hn)
  go_enter Tryd.func51, Tryd.ntmps51
  go_wp2_with fail
  refine (P1.out _).mono ?_
  rintro e w' ⟨rfl, rfl⟩
  go_wp2_with fail
  refine (P2.out _).mono ?_
  rintro e w' ⟨rfl, rfl⟩
  go_wp2_with fail
  refine D1.out.mono ?_
  rintro e w' ⟨rfl, h2, hk2, g2⟩
  have B1 := Lib.hid (byteAt_any b s k' ln M T k' w' (by unfold maxLen; omega) h2)
  rw [hc] at B1
  have W1 := Lib.hid (inWord_any 46 w')
  have ew : wordB 46 = false := by decide
  rw [ew] at W1
  have c12 := h2.c1
  go_wp2_with fail
  refine B1.out.mono ?_
  rintro e w' ⟨rfl, rfl⟩
  go_wp2_with fail
  refine W1.out.mono ?_
  rintro e w' ⟨rfl, rfl⟩
  go_wp2_with fail
  go_ret2
  exact ⟨rfl, h2, hk2, g2⟩
end Go.Proofs.YtpebdfofnmojcaaDoor

/- Contracts: ValidRune, coded, escape, at the letter A by its number. -/
namespace Go.Proofs.YtpebdfofnmojcaaDoor
open Go.RowKit

theorem validRune_65 (W : World) : Calls Tryd.prog 86 #[.int .i32 65] W fun e w' => e = .returned (.bool true) ∧ W = w' := by
  go_enter Tryd.func86, Tryd.ntmps86
  go_wp2
  go_ret
  exact ⟨rfl, rfl⟩

set_option maxRecDepth 100000 in
set_option maxHeartbeats 400000 in
theorem coded_65 (b : Nat) (s : ByteArray) (k st : Nat) (ln : Bool) (M T : Value) (w : World) (hs : s.size ≤ 4000000000) (hk : k + 2 ≤ s.size) (h : Scn w b s k ln M T)
    (h1 : byteV s.data.toList k = 52) (h2 : byteV s.data.toList (k + 1) = 49) :
    Calls Tryd.prog 83 #[.pointer (some ⟨b, 0, none⟩), .int .i64 st, .int .i64 2, .int .i32 127] w fun e w' =>
      e = .returned (.int .i32 65) ∧ Scn w' b s (k + 2 : Nat) ln M T ∧ w.grownBy w' (some b) := by
  have i1 : (k : Int) + 2 ≤ 4000000000 := by omega
  have VR := Lib.hid validRune_65
  have E1 : digitV 52 = 4 := by decide
  have E2 : digitV 49 = 1 := by decide
  have B := Lib.hid (fun (j : Nat) W (h : Scn W b s j ln M T) => byteAt_any b s j ln M T j W (by unfold maxLen; omega) h)
  have D1 := Lib.hid (fun W => digit_any 52 W (by omega) (by omega))
  have D2 := Lib.hid (fun W => digit_any 49 W (by omega) (by omega))
  rw [E1] at D1
  rw [E2] at D2
  go_enter Tryd.func83, Tryd.ntmps83
  go_wp2_with fail
  go_loopg [9, 12] 2 (fun g tr ti wr => ((g = 2 ∧ tr = .int .i32 0 ∧ ti = .int .i64 0 ∧ Scn wr b s k ln M T) ∨ (g = 1 ∧ tr = .int .i32 4 ∧ ti = .int .i64 1 ∧ Scn wr b s (k + 1 : Nat) ln M T) ∨ (g = 0 ∧ tr = .int .i32 65 ∧ ti = .int .i64 2 ∧ Scn wr b s (k + 2 : Nat) ln M T)) ∧ w.grownBy wr (some b))
  case atStart => exact ⟨.inl ⟨rfl, rfl, rfl, h⟩, ⟨rfl, rfl, rfl, Nat.le_refl _, fun _ _ _ => rfl⟩⟩
  case round =>
    obtain ⟨hc, hg⟩ := hrel
    rcases hc with ⟨rfl, rfl, rfl, hh⟩ | ⟨rfl, rfl, rfl, hh⟩ | ⟨rfl, rfl, rfl, hh⟩
    · have c1 := hh.c1
      have f1 := hh.fz 1
      have B1 := B.out k _ hh
      rw [h1] at B1
      have B1' := Lib.hid B1
      clear B1
      go_wp2_with fail
      refine B1'.out.mono ?_
      rintro e w' ⟨rfl, rfl⟩
      go_wp2_with fail
      refine (D1.out _).mono ?_
      rintro e w' ⟨rfl, rfl⟩
      go_wp2_with fail
      go_roundg 1
      case rel => exact ⟨.inr (.inl ⟨rfl, rfl, rfl, by simpa using hh.set1 ((k : Int) + 1)⟩), hg.trans (grown_set b 1 _)⟩
      case measure => omega
    · have c1 := hh.c1
      have f1 := hh.fz 1
      have B1 := B.out (k + 1) _ hh
      have e1 : ((k + 1 : Nat) : Int) = (k : Int) + 1 := by omega
      rw [h2, e1] at B1
      rw [e1] at c1
      clear e1
      have B1' := Lib.hid B1
      clear B1
      go_wp2_with fail
      refine B1'.out.mono ?_
      rintro e w' ⟨rfl, rfl⟩
      go_wp2_with fail
      refine (D2.out _).mono ?_
      rintro e w' ⟨rfl, rfl⟩
      go_wp2_with fail
      go_roundg 0
      case rel => exact ⟨.inr (.inr ⟨rfl, rfl, rfl, by simpa [Int.add_assoc] using hh.set1 ((k : Int) + 1 + 1)⟩), hg.trans (grown_set b 1 _)⟩
      case measure => omega
    · have V1 := Lib.hid (VR.out wr)
      go_wp2_with fail
      refine V1.out.mono ?_
      rintro e w' ⟨rfl, rfl⟩
      go_wp2_with fail
      go_ret
      exact ⟨rfl, hh, hg⟩

set_option maxRecDepth 100000 in
set_option maxHeartbeats 400000 in
theorem escape_65 (b : Nat) (s : ByteArray) (k st : Nat) (ln : Bool) (M T : Value) (w : World) (hs : s.size ≤ 4000000000) (hk : k + 4 ≤ s.size) (h : Scn w b s k ln M T)
    (h0 : byteV s.data.toList (k + 1) = 120) (h1 : byteV s.data.toList (k + 2) = 52) (h2 : byteV s.data.toList (k + 3) = 49) :
    Calls Tryd.prog 76 #[.pointer (some ⟨b, 0, none⟩), .int .i64 st] w fun e w' =>
      e = .returned (.int .i32 65) ∧ Scn w' b s (k + 4 : Nat) ln M T ∧ w.grownBy w' (some b) := by
  have i1 : (k : Int) + 4 ≤ 4000000000 := by omega
  have c1 := h.c1
  have f1 := h.fz 1
  have B1 := byteAt_any b s k ln M T (k + 1) w (by unfold maxLen; omega) h
  rw [h0, show ((k + 1 : Nat) : Int) = (k : Int) + 1 from by omega] at B1
  have B1' := Lib.hid B1
  have hs1 := h.set1 ((k : Int) + 2)
  have gs1 := grown_set (w := w) b 1 (.int .i64 ((k : Int) + 2))
  have C1 := Lib.hid (coded_65 b s (k + 2) st ln M T (w.setCell ⟨b, 1, none⟩ (.int .i64 ((k : Int) + 2))) hs hk (by simpa using hs1) h1 h2)
  clear B1
  go_enter Tryd.func76, Tryd.ntmps76
  go_wp2_with fail
  refine B1'.out.mono ?_
  rintro e w' ⟨rfl, rfl⟩
  go_wp2_with fail
  refine C1.out.mono ?_
  rintro e w' ⟨rfl, h3, g3⟩
  go_wp2_with fail
  go_ret
  exact ⟨rfl, h3, gs1.trans g3⟩
end Go.Proofs.YtpebdfofnmojcaaDoor

/- Contract: blanks. -/
namespace Go.Proofs.YtpebdfofnmojcaaDoor
open Go.RowKit

theorem rest_list (s : ByteArray) (k : Nat) : (s.extract k s.size).data.toList = s.data.toList.drop k := by
  rw [extract_list]; exact List.take_of_length_le (by simp)
theorem rest_size (s : ByteArray) (k : Nat) : (s.extract k s.size).size = s.size - k := by
  rw [← len_list, rest_list]; simp
theorem rest_first (s : ByteArray) (k : Nat) (h : k < s.size) : (s.extract k s.size)[0]'(by rw [rest_size]; omega) = s[k] := by
  simp [ByteArray.getElem_extract]

theorem grown_drewN (w : World) (n : Nat) (row : Option Nat) : w.grownBy (w.drewN n) row := ⟨rfl, rfl, rfl, Nat.le_refl _, fun _ _ _ => rfl⟩
set_option maxRecDepth 100000 in
set_option maxHeartbeats 1000000 in
theorem blanks_any (b : Nat) (hb4 : 5 ≤ b) (s : ByteArray) (k : Nat) (ln : Bool) (M T : Value) (w : World) (hs : s.size ≤ 4000000000) (hk : k ≤ s.size) (h : Scn w b s k ln M T) (hG : Glob w)
    (n k' : Nat) (ln' : Bool) (hF : blanksF n s.data.toList k ln = some (k', ln')) :
    Calls Tryd.prog 43 #[.pointer (some ⟨b, 0, none⟩)] w fun e w' => e = .returned (.tuple #[]) ∧ Scn w' b s k' ln' M T ∧ w.grownBy w' (some b) ∧ k' ≤ s.size := by
  have HF := Lib.hid hF
  clear hF
  go_enter Tryd.func43, Tryd.ntmps43
  go_wp2
  go_loopg [] n (fun g wr => ∃ (j : Nat) (l : Bool), j ≤ s.size ∧ Scn wr b s j l M T ∧ w.grownBy wr (some b) ∧ Hid (blanksF g s.data.toList j l = some (k', ln')))
  case atStart => exact ⟨k, ln, hk, h, World.grownBy.refl _ _, HF⟩
  case round =>
    obtain ⟨j, l, hj, hsc, hgr, hf⟩ := hrel
    have hGw : Glob wr := hG.grown hgr (fun q e => by cases e; exact hb4)
    have c0 := hsc.c0
    have c1 := hsc.c1
    have c2 := hsc.c2
    cases gk with
    | zero => have := hf.out; simp [blanksF] at this
    | succ g =>
      have hf2 := hf.out
      unfold blanksF at hf2
      rw [len_list] at hf2
      by_cases hlt : j < s.size
      · rw [if_neg (by omega), byteV_at s j hlt] at hf2
        have hd : decide ((j : Int) < (s.size : Int)) = true := by simp; omega
        have hr1 : ∀ h : 0 < (s.extract j s.size).size, (((s.extract j s.size)[0]'h).toNat : Int) = (s[j].toNat : Int) := fun _ => by rw [rest_first s j hlt]
        have hr2 := Lib.hid (rest_size s j)
        have hr3 := Lib.hid (rest_list s j)
        have hpos : 0 < (s.extract j s.size).size := by rw [rest_size]; omega
        have hji : (j : Int) ≤ (s.size : Int) := by omega
        go_wp2
        go_quiet (fail)
        have hs1 := hsc.drewN nq
        have hg1 := hgr.trans (grown_drewN wr nq (some b))
        have hG1 := hGw.drewN nq
        clear c0 c1 c2 hGw hsc hgr
        generalize wr.drewN nq = W1 at hs1 hg1 hG1 ⊢
        have c0 := hs1.c0
        have c1 := hs1.c1
        go_wp2
        go_quiet (fail)
        have hs2 := hs1.drewN nq
        have hg2 := hg1.trans (grown_drewN W1 nq (some b))
        have hG2 := hG1.drewN nq
        clear c0 c1 hs1 hg1 hG1
        generalize W1.drewN nq = W2 at hs2 hg2 hG2 ⊢
        generalize s.extract j s.size = r at *
        have hr1' := hr1 hpos
        clear hr1
        have c0 := hs2.c0
        have c1 := hs2.c1
        have c2 := hs2.c2
        have f1 := hs2.fz 1
        have f2 := hs2.fz 2
        by_cases h10 : (s[j].toNat : Int) = 10
        · rw [if_pos h10] at hf2
          have HF := Lib.hid hf2
          have t10 : ((r[0].toNat : Int) == 10) = true := by rw [hr1', h10]; rfl
          clear hf2 hf hr1' h10
          go_wp2
          go_roundg g
          case rel => exact ⟨j + 1, true, by omega, by simpa using (hs2.set2 true).set1 ((j : Int) + 1), (hg2.trans (grown_set b 2 _)).trans (grown_set b 1 _), HF⟩
          case measure => omega
        · rw [if_neg h10] at hf2
          have t10 : ((r[0].toNat : Int) == 10) = false := by rw [hr1']; simpa using h10
          by_cases h32 : (s[j].toNat : Int) = 32
          · rw [if_pos (.inl h32)] at hf2
            have t32 : ((r[0].toNat : Int) == 32) = true := by rw [hr1', h32]; rfl
            clear h32
            have HF := Lib.hid hf2
            clear hf2 hf hr1' h10
            go_wp2
            go_roundg g
            case rel => exact ⟨j + 1, l, by omega, by simpa using hs2.set1 ((j : Int) + 1), hg2.trans (grown_set b 1 _), HF⟩
            case measure => omega
          have t32 : ((r[0].toNat : Int) == 32) = false := by rw [hr1']; simpa using h32
          by_cases h9 : (s[j].toNat : Int) = 9
          · rw [if_pos (.inr (.inl h9))] at hf2
            have t9 : ((r[0].toNat : Int) == 9) = true := by rw [hr1', h9]; rfl
            clear h9 h32
            have HF := Lib.hid hf2
            clear hf2 hf hr1' h10
            go_wp2
            go_roundg g
            case rel => exact ⟨j + 1, l, by omega, by simpa using hs2.set1 ((j : Int) + 1), hg2.trans (grown_set b 1 _), HF⟩
            case measure => omega
          have t9 : ((r[0].toNat : Int) == 9) = false := by rw [hr1']; simpa using h9
          by_cases h13 : (s[j].toNat : Int) = 13
          · rw [if_pos (.inr (.inr h13))] at hf2
            have t13 : ((r[0].toNat : Int) == 13) = true := by rw [hr1', h13]; rfl
            clear h9 h32 h13
            have HF := Lib.hid hf2
            clear hf2 hf hr1' h10
            go_wp2
            go_roundg g
            case rel => exact ⟨j + 1, l, by omega, by simpa using hs2.set1 ((j : Int) + 1), hg2.trans (grown_set b 1 _), HF⟩
            case measure => omega
          have t13 : ((r[0].toNat : Int) == 13) = false := by rw [hr1']; simpa using h13
          have hno : ¬ ((s[j].toNat : Int) = 32 ∨ (s[j].toNat : Int) = 9 ∨ (s[j].toNat : Int) = 13) := fun h => h.elim h32 fun h => h.elim h9 h13
          rw [if_neg hno] at hf2
          clear hno
          clear h9 h32 h13 h10 hr1' hf
          have PA : ∀ W, Calls Tryd.prog 54 #[.string r, .string ⟨#[47, 47]⟩] W fun e w' => e = .returned (.bool (hasPre (s.data.toList.drop j) [47, 47])) ∧ W = w' := fun W => by
            have := prefix_any r ⟨#[47, 47]⟩ W (by unfold maxLen; rw [hr2.out]; omega) (by unfold maxLen; decide)
            rwa [hr3.out] at this
          have PB : ∀ W, Calls Tryd.prog 54 #[.string r, .string ⟨#[47, 42]⟩] W fun e w' => e = .returned (.bool (hasPre (s.data.toList.drop j) [47, 42])) ∧ W = w' := fun W => by
            have := prefix_any r ⟨#[47, 42]⟩ W (by unfold maxLen; rw [hr2.out]; omega) (by unfold maxLen; decide)
            rwa [hr3.out] at this
          cases hA : hasPre (s.data.toList.drop j) [47, 47] with
          | true =>
            rw [hA] at hf2 PA
            simp only [if_true] at hf2
            cases hV : Lib.validD ((s.data.toList.drop j).take (lineLen (s.data.toList.drop j))) with
            | false => rw [hV] at hf2; simp at hf2
            | true =>
              rw [hV] at hf2
              simp only [if_true] at hf2
              have HF := Lib.hid hf2
              have hll : lineLen (s.data.toList.drop j) ≤ s.size - j := by have := lineLen_le (s.data.toList.drop j); simpa using this
              have LC := lineComment_any b s r j l M T W2 hs (by rw [hr2.out]; omega) hs2 hG2 (by rw [hr3.out]; exact hV)
              rw [hr3.out] at LC
              have PA' := Lib.hid PA
              have LC' := Lib.hid LC
              clear PA PB LC hf2 hA hV c0 c1 c2 f1 f2
              go_wp2_with (first | (go_at_call 54; refine (PA'.out _).mono ?_; rintro e w' ⟨rfl, rfl⟩) | (go_at_call 55; refine LC'.out.mono ?_; rintro e w3 ⟨rfl, hs3, hg3⟩))
              go_roundg g
              case rel => exact ⟨_, l, by omega, hs3, hg2.trans hg3, HF⟩
              case measure => omega
          | false =>
            rw [hA] at hf2 PA
            simp only [Bool.false_eq_true, if_false] at hf2
            cases hB : hasPre (s.data.toList.drop j) [47, 42] with
            | true => rw [hB] at hf2; simp at hf2
            | false =>
              rw [hB] at hf2 PB
              simp only [Bool.false_eq_true, if_false] at hf2
              obtain ⟨rfl, rfl⟩ : j = k' ∧ l = ln' := by simpa using hf2
              have PA' := Lib.hid PA
              have PB' := Lib.hid PB
              clear PA PB hf2 hA hB c0 c1 c2 f1 f2
              go_wp2_with (fail)
              (refine (PA'.out _).mono ?_; rintro e w' ⟨rfl, rfl⟩)
              go_wp2_with (fail)
              (refine (PB'.out _).mono ?_; rintro e w' ⟨rfl, rfl⟩)
              go_wp2
              refine bodyPost_ret (results_none rfl _ _ _) rfl ?_
              exact ⟨rfl, hs2, hg2, hj⟩
      · rw [if_pos (by omega)] at hf2
        obtain ⟨rfl, rfl⟩ : j = k' ∧ l = ln' := by simpa using hf2
        clear hf hf2
        have hd : decide ((j : Int) < (s.size : Int)) = false := by simp; omega
        go_wp2
        go_quiet (fail)
        go_wp2
        go_end0
        exact ⟨rfl, hsc.drewN _, hgr.trans (grown_drewN _ _ _), hj⟩
end Go.Proofs.YtpebdfofnmojcaaDoor
