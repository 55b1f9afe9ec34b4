/- The plain tables of package cap, over integers. No program stands in it. -/
import Derived.RowKit
namespace Go.Proofs.YtblklbmolfddpaaDoor

def capB (c : Int) : Bool := decide (1 ≤ c) && decide (c ≤ 6)
def markB (m : Int) : Bool := decide (0 ≤ m) && decide (m ≤ 2)
/-- Is the bit c of t set? -/
def bitB (t : Int) (c : Nat) : Bool := bits BinOp.and IntKind.u64 (t / 2 ^ c) 1 != 0
def amongB (c t : Int) : Bool := capB c && bitB t c.toNat
def plainT : List Int := [0, 1, 4, 6, 7, 8, 9]
def markedV (c m : Int) : Int :=
  if !(capB c && markB m) then -1 else if 2 < c ∨ m = 0 then plainT.getD c.toNat 0 else if m = 1 then plainT.getD c.toNat 0 - 1 else plainT.getD c.toNat 0 + 1
def fitsT : List Int := [1023, 518, 516, 1016, 816, 800, 832, 896, 768, 512]
def fitsB (a m b o : Int) : Bool :=
  decide (0 ≤ markedV a m) && decide (0 ≤ markedV b o) && bitB (fitsT.getD (markedV a m).toNat 0) (markedV b o).toNat
def readsB (c : Int) : Bool := amongB c 62
def writesB (c : Int) : Bool := amongB c 14
def sendB (c : Int) : Bool := amongB c 82
def uniqueB (c : Int) : Bool := (c == 1) || (c == 2)
def viewsT : List Int :=
  [0, 0, 0, 0, 0, 0, 0,
   0, 1, 6, 6, 4, 6, 6,
   0, 1, 2, 5, 4, 5, 6,
   0, 1, 2, 3, 4, 5, 6,
   0, 4, 4, 4, 4, 4, 6,
   0, 6, 5, 5, 4, 5, 6,
   0, 0, 0, 0, 0, 0, 0]
def viewV (o f : Int) : Int := if capB o && capB f then viewsT.getD (o.toNat * 7 + f.toNat) 0 else 0
def localsT : List Int := [0, 64, 96, 104, 112, 124, 126]
def globalsT : List Int := [0, 64, 64, 64, 112, 112, 126]
def storesT : List Int := [0, 82, 86, 126, 0, 0, 0]
def namesT : List (List UInt8) := [[], [105, 115, 111], [116, 114, 110], [114, 101, 102], [118, 97, 108], [98, 111, 120], [116, 97, 103], [35, 114, 101, 97, 100], [35, 115, 101, 110, 100], [35, 115, 104, 97, 114, 101], [35, 97, 108, 105, 97, 115], [35, 97, 110, 121]]
def membersT : List Int := [0, 2, 4, 8, 16, 32, 64, 56, 82, 80, 120, 126]

/-- Any of the six is one of six. -/
theorem cap_cases {c : Int} (h : capB c = true) : c = 1 ∨ c = 2 ∨ c = 3 ∨ c = 4 ∨ c = 5 ∨ c = 6 := by
  simp [capB] at h; omega
theorem mark_cases {m : Int} (h : markB m = true) : m = 0 ∨ m = 1 ∨ m = 2 := by
  simp [markB] at h; omega
theorem marked_bd (c m : Int) : -1 ≤ markedV c m ∧ markedV c m ≤ 9 := by
  by_cases h : (capB c && markB m) = true
  · obtain ⟨h1, h2⟩ : capB c = true ∧ markB m = true := by simpa using h
    rcases cap_cases h1 with rfl | rfl | rfl | rfl | rfl | rfl <;> rcases mark_cases h2 with rfl | rfl | rfl <;> decide
  · unfold markedV; rw [Bool.not_eq_true] at h; simp [h]
theorem view_bd (o f : Int) : 0 ≤ viewV o f ∧ viewV o f ≤ 6 := by
  by_cases h : (capB o && capB f) = true
  · obtain ⟨h1, h2⟩ : capB o = true ∧ capB f = true := by simpa using h
    rcases cap_cases h1 with rfl | rfl | rfl | rfl | rfl | rfl <;> rcases cap_cases h2 with rfl | rfl | rfl | rfl | rfl | rfl <;> decide
  · unfold viewV; simp [h]
end Go.Proofs.YtblklbmolfddpaaDoor
