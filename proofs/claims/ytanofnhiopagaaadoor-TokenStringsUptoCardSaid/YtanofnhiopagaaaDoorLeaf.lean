/- Contracts of the leaves of package token: isLetter, isDigit, inWord, digit, wordEnd, byteAt. -/
import Derived.Test.YtanofnhiopagaaaDoorRows
import Derived.Test.YtanofnhiopagaaaDoorSpec
import Derived.WalkKit
import Derived.WalkSpells
import Derived.WalkLawsBesides
import Derived.Lib.Hide
namespace Go.Proofs.YtanofnhiopagaaaDoor
open Go.RowKit

theorem ret_bool {a b : Bool} (h : a = b) : Ending.returned (.bool a) = .returned (.bool b) := by rw [h]
theorem ret_int {k : IntKind} {a b : Int} (h : a = b) : Ending.returned (.int k a) = .returned (.int k b) := by rw [h]

set_option maxHeartbeats 400000 in
theorem isDigit_any (c : Int) (w : World) :
    Calls Tryd.prog 34 #[.int .u8 c] w fun e w' => e = .returned (.bool (digitB c)) ∧ w = w' := by
  go_enter Tryd.func34, Tryd.ntmps34
  go_wp2
  all_goals go_ret
  all_goals exact ⟨ret_bool (by simp only [digitB]; rw [Bool.eq_iff_iff]; simp; try omega), rfl⟩

set_option maxHeartbeats 400000 in
theorem isLetter_any (c : Int) (w : World) :
    Calls Tryd.prog 45 #[.int .u8 c] w fun e w' => e = .returned (.bool (letterB c)) ∧ w = w' := by
  go_enter Tryd.func45, Tryd.ntmps45
  go_wp2
  all_goals go_ret
  all_goals exact ⟨ret_bool (by simp only [letterB]; rw [Bool.eq_iff_iff]; simp; try omega), rfl⟩

set_option maxHeartbeats 400000 in
theorem inWord_any (c : Int) (w : World) :
    Calls Tryd.prog 35 #[.int .u8 c] w fun e w' => e = .returned (.bool (wordB c)) ∧ w = w' := by
  go_enter Tryd.func35, Tryd.ntmps35
  go_wp2_with (first | (go_at_call 45; refine (isLetter_any _ _).mono ?_; rintro e w' ⟨rfl, rfl⟩) | (go_at_call 34; refine (isDigit_any _ _).mono ?_; rintro e w' ⟨rfl, rfl⟩))
  all_goals go_ret
  all_goals exact ⟨ret_bool (by simp [wordB, *]), rfl⟩

set_option maxHeartbeats 400000 in
theorem digit_any (c : Int) (w : World) (h0 : 0 ≤ c) (h1 : c ≤ 255) :
    Calls Tryd.prog 80 #[.int .u8 c] w fun e w' => e = .returned (.int .i64 (digitV c)) ∧ w = w' := by
  go_enter Tryd.func80, Tryd.ntmps80
  go_wp2_with (first | (go_at_call 34; refine (isDigit_any _ _).mono ?_; rintro e w' ⟨rfl, rfl⟩))
  all_goals go_ret
  all_goals exact ⟨ret_int (by simp only [digitV, digitB, Bool.and_eq_true, Bool.and_eq_false_iff, decide_eq_true_eq, decide_eq_false_iff_not] at *; split <;> (try split) <;> (try split) <;> omega), rfl⟩

theorem byte_getD (s : ByteArray) (k : Nat) (h : k < s.size) : s.data.toList[k]'(by simpa using h) = s[k] := rfl

set_option maxHeartbeats 400000 in
theorem wordEnd_any (s : ByteArray) (a : Nat) (w : World) (hs : s.size ≤ maxLen) (ha : a ≤ s.size) :
    Calls Tryd.prog 36 #[.string s, .int .i64 a] w fun e w' => e = .returned (.int .i64 (wordEnd s.data.toList a)) ∧ w = w' := by
  unfold maxLen at hs
  have HR : Hid (wordEnd s.data.toList a = runEnd primeB s.data.toList (runEnd wordB s.data.toList a)) := rfl
  go_enter Tryd.func36, Tryd.ntmps36
  go_wp2
  go_loop [1] (fun i => ∃ k : Nat, k ≤ s.size ∧ i = .int .i64 k ∧ Hid (runEnd wordB s.data.toList a = runEnd wordB s.data.toList k)) (fun i => s.size - (intOf i).toNat)
  case atStart => exact ⟨a, ha, rfl, rfl⟩
  case round =>
    obtain ⟨k, hk, rfl, hr⟩ := hrel
    by_cases hc : ∃ h : k < s.size, wordB (s[k].toNat : Int) = true
    · obtain ⟨hlt, hp⟩ := hc
      have hg := Lib.hid (runEnd_go (p := wordB) (l := s.data.toList) (k := k) (by simpa using hlt) hp)
      go_wp2_with (first | (go_at_call 35; refine (inWord_any _ _).mono ?_; rintro e w' ⟨rfl, rfl⟩))
      go_round
      case rel => exact ⟨k + 1, by omega, by go_num, by rw [hr.out, hg.out]; exact rfl⟩
      case measure => simp [intOf]; omega
    · have HK : Hid (runEnd wordB s.data.toList a = k) := by
        rw [hr.out]
        by_cases hlt : k < s.size
        · exact runEnd_stop (by simpa using hlt) (by cases e : wordB (s[k].toNat : Int) with | false => exact e | true => exact absurd ⟨hlt, e⟩ hc)
        · exact runEnd_end (by simp; omega)
      clear hr
      have hp : ∀ h : k < s.size, wordB (s[k].toNat : Int) = false := fun h => by
        cases e : wordB (s[k].toNat : Int) with
        | false => rfl
        | true => exact absurd ⟨h, e⟩ hc
      clear hc
      by_cases hlt : k < s.size
      · have hp' := hp hlt
        clear hp
        go_wp2_with (first | (go_at_call 35; refine (inWord_any _ _).mono ?_; rintro e w' ⟨rfl, rfl⟩))
        (go_loop [1] (fun i => ∃ m : Nat, m ≤ s.size ∧ i = .int .i64 m ∧ Hid (runEnd primeB s.data.toList k = runEnd primeB s.data.toList m)) (fun i => s.size - (intOf i).toNat)
         case atStart => exact ⟨k, hk, rfl, rfl⟩
         case round =>
           obtain ⟨m, hm, rfl, hr⟩ := hrel
           by_cases hc : ∃ h : m < s.size, ((s[m].toNat : Int) == 39) = true
           · obtain ⟨hlt2, hp2⟩ := hc
             have hg := Lib.hid (runEnd_go (p := primeB) (l := s.data.toList) (k := m) (by simpa using hlt2) hp2)
             go_wp2
             go_round
             case rel => exact ⟨m + 1, by omega, by go_num, by rw [hr.out, hg.out]; exact rfl⟩
             case measure => simp [intOf]; omega
           · have HM : Hid (runEnd primeB s.data.toList k = m) := by
               rw [hr.out]
               by_cases hlt2 : m < s.size
               · exact runEnd_stop (by simpa using hlt2) (by cases e : primeB (s[m].toNat : Int) with | false => exact e | true => exact absurd ⟨hlt2, e⟩ hc)
               · exact runEnd_end (by simp; omega)
             clear hr
             have hp2 : ∀ h : m < s.size, ((s[m].toNat : Int) == 39) = false := fun h => by
               cases e : ((s[m].toNat : Int) == 39) with
               | false => rfl
               | true => exact absurd ⟨h, e⟩ hc
             clear hc
             by_cases hlt2 : m < s.size
             · have hp3 := hp2 hlt2
               clear hp2
               go_wp2
               go_ret
               exact ⟨ret_int (by rw [HR.out, HK.out, HM.out]), rfl⟩
             · clear hp2
               go_wp2
               go_ret
               exact ⟨ret_int (by rw [HR.out, HK.out, HM.out]), rfl⟩)
      · clear hp
        go_wp2_with (fail)
        (go_loop [1] (fun i => ∃ m : Nat, m ≤ s.size ∧ i = .int .i64 m ∧ Hid (runEnd primeB s.data.toList k = runEnd primeB s.data.toList m)) (fun i => s.size - (intOf i).toNat)
         case atStart => exact ⟨k, hk, rfl, rfl⟩
         case round =>
           obtain ⟨m, hm, rfl, hr⟩ := hrel
           by_cases hc : ∃ h : m < s.size, ((s[m].toNat : Int) == 39) = true
           · obtain ⟨hlt2, hp2⟩ := hc
             have hg := Lib.hid (runEnd_go (p := primeB) (l := s.data.toList) (k := m) (by simpa using hlt2) hp2)
             go_wp2
             go_round
             case rel => exact ⟨m + 1, by omega, by go_num, by rw [hr.out, hg.out]; exact rfl⟩
             case measure => simp [intOf]; omega
           · have HM : Hid (runEnd primeB s.data.toList k = m) := by
               rw [hr.out]
               by_cases hlt2 : m < s.size
               · exact runEnd_stop (by simpa using hlt2) (by cases e : primeB (s[m].toNat : Int) with | false => exact e | true => exact absurd ⟨hlt2, e⟩ hc)
               · exact runEnd_end (by simp; omega)
             clear hr
             have hp2 : ∀ h : m < s.size, ((s[m].toNat : Int) == 39) = false := fun h => by
               cases e : ((s[m].toNat : Int) == 39) with
               | false => rfl
               | true => exact absurd ⟨h, e⟩ hc
             clear hc
             by_cases hlt2 : m < s.size
             · have hp3 := hp2 hlt2
               clear hp2
               go_wp2
               go_ret
               exact ⟨ret_int (by rw [HR.out, HK.out, HM.out]), rfl⟩
             · clear hp2
               go_wp2
               go_ret
               exact ⟨ret_int (by rw [HR.out, HK.out, HM.out]), rfl⟩)
end Go.Proofs.YtanofnhiopagaaaDoor
