/- Contracts of the reference: letter, digit, word, at, ident. -/
import Derived.Test.YtanofnhiopagaaaDoorId
namespace Go.Proofs.YtanofnhiopagaaaDoor
open Go.RowKit

set_option maxHeartbeats 400000 in
theorem r_letter (c : Int) (w : World) :
    Calls Tryd.prog 37 #[.int .u8 c] w fun e w' => e = .returned (.bool (letterB c)) ∧ w = w' := by
  go_enter Tryd.func37, Tryd.ntmps37
  go_wp2
  all_goals go_ret
  all_goals exact ⟨ret_bool (by simp only [letterB]; rw [Bool.eq_iff_iff]; simp; try omega), rfl⟩

def digB (c b : Int) : Int := if digitV c < b then digitV c else -1
set_option maxHeartbeats 1000000 in
theorem r_digit (c : Int) (w : World) (h0 : 0 ≤ c) (h1 : c ≤ 255) :
    Calls Tryd.prog 46 #[.int .u8 c, .int .i64 10] w fun e w' => e = .returned (.int .i64 (digB c 10)) ∧ w = w' := by
  have HV : Hid (digB c 10 = if 48 ≤ c ∧ c ≤ 57 then c - 48 else -1) := Lib.hid (by
    unfold digB digitV
    by_cases a : 48 ≤ c ∧ c ≤ 57
    · rw [if_pos a, if_pos a, if_pos (by omega)]
    · rw [if_neg a, if_neg a]
      by_cases b : 97 ≤ c ∧ c ≤ 102
      · rw [if_pos b, if_neg (by omega)]
      · rw [if_neg b]
        by_cases d : 65 ≤ c ∧ c ≤ 70
        · rw [if_pos d, if_neg (by omega)]
        · rw [if_neg d, if_neg (by omega)])
  by_cases a : 48 ≤ c ∧ c ≤ 57
  · obtain ⟨a1, a2⟩ := a
    have d1 : decide (97 ≤ c) = false := by simp; omega
    have d2 : decide (65 ≤ c) = false := by simp; omega
    have d3 : decide (48 ≤ c) = true := by simp; omega
    have d4 : decide (c ≤ 57) = true := by simp; omega
    have d5 : decide (c - 48 ≥ 10) = false := by simp; omega
    have d6 : c - 48 < 10 := by omega
    go_enter Tryd.func46, Tryd.ntmps46
    go_wp2
    all_goals go_ret
    all_goals exact ⟨ret_int (by rw [HV.out, if_pos ⟨a1, a2⟩]), rfl⟩
  · go_enter Tryd.func46, Tryd.ntmps46
    go_wp2
    all_goals go_ret
    all_goals exact ⟨ret_int (by rw [HV.out, if_neg a]; try omega), rfl⟩

set_option maxHeartbeats 400000 in
theorem r_word (c : Int) (w : World) (h0 : 0 ≤ c) (h1 : c ≤ 255) :
    Calls Tryd.prog 39 #[.int .u8 c] w fun e w' => e = .returned (.bool (wordB c)) ∧ w = w' := by
  have e1 : Hid (wordB c = (letterB c || decide (0 ≤ digB c 10) || (c == 95))) := Lib.hid (by
    unfold wordB digB digitB digitV
    congr 2
    rw [Bool.eq_iff_iff]
    by_cases a : 48 ≤ c ∧ c ≤ 57
    · simp [a]; split <;> omega
    · simp [a]; split <;> split <;> (try split) <;> omega)
  go_enter Tryd.func39, Tryd.ntmps39
  go_wp2_with (first | (go_at_call 37; refine (r_letter _ _).mono ?_; rintro e w' ⟨rfl, rfl⟩) | (go_at_call 46; refine (r_digit _ _ h0 h1).mono ?_; rintro e w' ⟨rfl, rfl⟩))
  all_goals go_ret
  all_goals exact ⟨ret_bool (by rw [e1.out]; simp [*]), rfl⟩

def byte0 (l : List UInt8) (k : Nat) : Int := if h : k < l.length then (l[k].toNat : Int) else 0
set_option maxHeartbeats 400000 in
theorem r_at (s : ByteArray) (k : Nat) (w : World) (hs : s.size ≤ maxLen) :
    Calls Tryd.prog 38 #[.string s, .int .i64 k] w fun e w' => e = .returned (.int .u8 (byte0 s.data.toList k)) ∧ w = w' := by
  unfold maxLen at hs
  go_enter Tryd.func38, Tryd.ntmps38
  by_cases hlt : k < s.size
  · have HV : Hid (byte0 s.data.toList k = (s[k].toNat : Int)) := Lib.hid (by unfold byte0; rw [dif_pos (by simpa using hlt)]; rfl)
    go_wp2
    go_ret
    exact ⟨ret_int (by rw [HV.out]), rfl⟩
  · have HV : Hid (byte0 s.data.toList k = 0) := Lib.hid (by unfold byte0; rw [dif_neg (by simpa using hlt)])
    go_wp2
    go_ret
    exact ⟨ret_int (by rw [HV.out]), rfl⟩

def identR (l : List UInt8) : Nat := if letterB (byte0 l 0) = true ∨ byte0 l 0 = 95 then wordEnd l 0 else 0
set_option maxHeartbeats 1000000 in
theorem r_ident (s : ByteArray) (w : World) (hs : s.size ≤ maxLen) :
    Calls Tryd.prog 26 #[.string s, .int .i64 0] w fun e w' => e = .returned (.int .i64 (identR s.data.toList)) ∧ w = w' := by
  have C38 := Lib.hid (fun W => r_at s 0 W hs)
  unfold maxLen at hs
  by_cases hc : letterB (byte0 s.data.toList 0) = true ∨ byte0 s.data.toList 0 = 95
  · have HR : Hid (identR s.data.toList = runEnd primeB s.data.toList (runEnd wordB s.data.toList 0)) := Lib.hid (by unfold identR; rw [if_pos hc]; rfl)
    cases hl : letterB (byte0 s.data.toList 0) with
    | true =>
      clear hc
      go_enter Tryd.func26, Tryd.ntmps26
      go_wp2_with (first | (go_at_call 38; refine (C38.out _).mono ?_; rintro e w' ⟨rfl, rfl⟩) | (go_at_call 37; refine (r_letter _ _).mono ?_; rintro e w' ⟨rfl, rfl⟩))
      go_loop [1] (fun i => ∃ k : Nat, k ≤ s.size ∧ i = .int .i64 k ∧ Hid (runEnd wordB s.data.toList 0 = runEnd wordB s.data.toList k)) (fun i => s.size - (intOf i).toNat)
      case atStart => exact ⟨0, Nat.zero_le _, rfl, rfl⟩
      case round =>
        obtain ⟨k, hk, rfl, hr⟩ := hrel
        by_cases hc : ∃ h : k < s.size, wordB (s[k].toNat : Int) = true
        · obtain ⟨hlt, hp⟩ := hc
          have bb : (s[k].toNat : Int) ≤ 255 := by have := s[k].toNat_lt; omega
          have hg := Lib.hid (runEnd_go (p := wordB) (l := s.data.toList) (k := k) (by simpa using hlt) hp)
          go_wp2_with (first | (go_at_call 39; refine (r_word _ _ (by omega) (by omega)).mono ?_; rintro e w' ⟨rfl, rfl⟩))
          go_round
          case rel => exact ⟨k + 1, by omega, by go_num, by rw [hr.out, hg.out]; exact rfl⟩
          case measure => simp [intOf]; omega
        · have HK : Hid (runEnd wordB s.data.toList 0 = k) := by
            rw [hr.out]
            by_cases hlt : k < s.size
            · exact runEnd_stop (by simpa using hlt) (by cases e : wordB (s[k].toNat : Int) with | false => exact e | true => exact absurd ⟨hlt, e⟩ hc)
            · exact runEnd_end (by simp; omega)
          clear hr
          have hp : ∀ h : k < s.size, wordB (s[k].toNat : Int) = false := fun h => by
            cases e : wordB (s[k].toNat : Int) with
            | false => rfl
            | true => exact absurd ⟨h, e⟩ hc
          clear hc
          by_cases hlt : k < s.size
          · have hp' := hp hlt
            have bb : (s[k].toNat : Int) ≤ 255 := by have := s[k].toNat_lt; omega
            clear hp
            go_wp2_with (first | (go_at_call 39; refine (r_word _ _ (by omega) (by omega)).mono ?_; rintro e w' ⟨rfl, rfl⟩))
            (go_loop [1] (fun i => ∃ m : Nat, m ≤ s.size ∧ i = .int .i64 m ∧ Hid (runEnd primeB s.data.toList k = runEnd primeB s.data.toList m)) (fun i => s.size - (intOf i).toNat)
             case atStart => exact ⟨k, hk, rfl, rfl⟩
             case round =>
               obtain ⟨m, hm, rfl, hr⟩ := hrel
               by_cases hc : ∃ h : m < s.size, ((s[m].toNat : Int) == 39) = true
               · obtain ⟨hlt2, hp2⟩ := hc
                 have hg := Lib.hid (runEnd_go (p := primeB) (l := s.data.toList) (k := m) (by simpa using hlt2) hp2)
                 go_wp2
                 go_round
                 case rel => exact ⟨m + 1, by omega, by go_num, by rw [hr.out, hg.out]; exact rfl⟩
                 case measure => simp [intOf]; omega
               · have HM : Hid (runEnd primeB s.data.toList k = m) := by
                   rw [hr.out]
                   by_cases hlt2 : m < s.size
                   · exact runEnd_stop (by simpa using hlt2) (by cases e : primeB (s[m].toNat : Int) with | false => exact e | true => exact absurd ⟨hlt2, e⟩ hc)
                   · exact runEnd_end (by simp; omega)
                 clear hr
                 have hp2 : ∀ h : m < s.size, ((s[m].toNat : Int) == 39) = false := fun h => by
                   cases e : ((s[m].toNat : Int) == 39) with
                   | false => rfl
                   | true => exact absurd ⟨h, e⟩ hc
                 clear hc
                 by_cases hlt2 : m < s.size
                 · have hp3 := hp2 hlt2
                   clear hp2
                   go_wp2
                   go_ret
                   exact ⟨ret_int (by rw [HR.out, HK.out, HM.out]), rfl⟩
                 · clear hp2
                   go_wp2
                   go_ret
                   exact ⟨ret_int (by rw [HR.out, HK.out, HM.out]), rfl⟩)
          · clear hp
            go_wp2_with (fail)
            (go_loop [1] (fun i => ∃ m : Nat, m ≤ s.size ∧ i = .int .i64 m ∧ Hid (runEnd primeB s.data.toList k = runEnd primeB s.data.toList m)) (fun i => s.size - (intOf i).toNat)
             case atStart => exact ⟨k, hk, rfl, rfl⟩
             case round =>
               obtain ⟨m, hm, rfl, hr⟩ := hrel
               by_cases hc : ∃ h : m < s.size, ((s[m].toNat : Int) == 39) = true
               · obtain ⟨hlt2, hp2⟩ := hc
                 have hg := Lib.hid (runEnd_go (p := primeB) (l := s.data.toList) (k := m) (by simpa using hlt2) hp2)
                 go_wp2
                 go_round
                 case rel => exact ⟨m + 1, by omega, by go_num, by rw [hr.out, hg.out]; exact rfl⟩
                 case measure => simp [intOf]; omega
               · have HM : Hid (runEnd primeB s.data.toList k = m) := by
                   rw [hr.out]
                   by_cases hlt2 : m < s.size
                   · exact runEnd_stop (by simpa using hlt2) (by cases e : primeB (s[m].toNat : Int) with | false => exact e | true => exact absurd ⟨hlt2, e⟩ hc)
                   · exact runEnd_end (by simp; omega)
                 clear hr
                 have hp2 : ∀ h : m < s.size, ((s[m].toNat : Int) == 39) = false := fun h => by
                   cases e : ((s[m].toNat : Int) == 39) with
                   | false => rfl
                   | true => exact absurd ⟨h, e⟩ hc
                 clear hc
                 by_cases hlt2 : m < s.size
                 · have hp3 := hp2 hlt2
                   clear hp2
                   go_wp2
                   go_ret
                   exact ⟨ret_int (by rw [HR.out, HK.out, HM.out]), rfl⟩
                 · clear hp2
                   go_wp2
                   go_ret
                   exact ⟨ret_int (by rw [HR.out, HK.out, HM.out]), rfl⟩)
    | false =>
      have t95 : (byte0 s.data.toList 0 != 95) = false := by rcases hc with h | h; · rw [hl] at h; cases h
                                                             · rw [h]; rfl
      clear hc
      go_enter Tryd.func26, Tryd.ntmps26
      go_wp2_with (first | (go_at_call 38; refine (C38.out _).mono ?_; rintro e w' ⟨rfl, rfl⟩) | (go_at_call 37; refine (r_letter _ _).mono ?_; rintro e w' ⟨rfl, rfl⟩))
      go_loop [1] (fun i => ∃ k : Nat, k ≤ s.size ∧ i = .int .i64 k ∧ Hid (runEnd wordB s.data.toList 0 = runEnd wordB s.data.toList k)) (fun i => s.size - (intOf i).toNat)
      case atStart => exact ⟨0, Nat.zero_le _, rfl, rfl⟩
      case round =>
        obtain ⟨k, hk, rfl, hr⟩ := hrel
        by_cases hc : ∃ h : k < s.size, wordB (s[k].toNat : Int) = true
        · obtain ⟨hlt, hp⟩ := hc
          have bb : (s[k].toNat : Int) ≤ 255 := by have := s[k].toNat_lt; omega
          have hg := Lib.hid (runEnd_go (p := wordB) (l := s.data.toList) (k := k) (by simpa using hlt) hp)
          go_wp2_with (first | (go_at_call 39; refine (r_word _ _ (by omega) (by omega)).mono ?_; rintro e w' ⟨rfl, rfl⟩))
          go_round
          case rel => exact ⟨k + 1, by omega, by go_num, by rw [hr.out, hg.out]; exact rfl⟩
          case measure => simp [intOf]; omega
        · have HK : Hid (runEnd wordB s.data.toList 0 = k) := by
            rw [hr.out]
            by_cases hlt : k < s.size
            · exact runEnd_stop (by simpa using hlt) (by cases e : wordB (s[k].toNat : Int) with | false => exact e | true => exact absurd ⟨hlt, e⟩ hc)
            · exact runEnd_end (by simp; omega)
          clear hr
          have hp : ∀ h : k < s.size, wordB (s[k].toNat : Int) = false := fun h => by
            cases e : wordB (s[k].toNat : Int) with
            | false => rfl
            | true => exact absurd ⟨h, e⟩ hc
          clear hc
          by_cases hlt : k < s.size
          · have hp' := hp hlt
            have bb : (s[k].toNat : Int) ≤ 255 := by have := s[k].toNat_lt; omega
            clear hp
            go_wp2_with (first | (go_at_call 39; refine (r_word _ _ (by omega) (by omega)).mono ?_; rintro e w' ⟨rfl, rfl⟩))
            (go_loop [1] (fun i => ∃ m : Nat, m ≤ s.size ∧ i = .int .i64 m ∧ Hid (runEnd primeB s.data.toList k = runEnd primeB s.data.toList m)) (fun i => s.size - (intOf i).toNat)
             case atStart => exact ⟨k, hk, rfl, rfl⟩
             case round =>
               obtain ⟨m, hm, rfl, hr⟩ := hrel
               by_cases hc : ∃ h : m < s.size, ((s[m].toNat : Int) == 39) = true
               · obtain ⟨hlt2, hp2⟩ := hc
                 have hg := Lib.hid (runEnd_go (p := primeB) (l := s.data.toList) (k := m) (by simpa using hlt2) hp2)
                 go_wp2
                 go_round
                 case rel => exact ⟨m + 1, by omega, by go_num, by rw [hr.out, hg.out]; exact rfl⟩
                 case measure => simp [intOf]; omega
               · have HM : Hid (runEnd primeB s.data.toList k = m) := by
                   rw [hr.out]
                   by_cases hlt2 : m < s.size
                   · exact runEnd_stop (by simpa using hlt2) (by cases e : primeB (s[m].toNat : Int) with | false => exact e | true => exact absurd ⟨hlt2, e⟩ hc)
                   · exact runEnd_end (by simp; omega)
                 clear hr
                 have hp2 : ∀ h : m < s.size, ((s[m].toNat : Int) == 39) = false := fun h => by
                   cases e : ((s[m].toNat : Int) == 39) with
                   | false => rfl
                   | true => exact absurd ⟨h, e⟩ hc
                 clear hc
                 by_cases hlt2 : m < s.size
                 · have hp3 := hp2 hlt2
                   clear hp2
                   go_wp2
                   go_ret
                   exact ⟨ret_int (by rw [HR.out, HK.out, HM.out]), rfl⟩
                 · clear hp2
                   go_wp2
                   go_ret
                   exact ⟨ret_int (by rw [HR.out, HK.out, HM.out]), rfl⟩)
          · clear hp
            go_wp2_with (fail)
            (go_loop [1] (fun i => ∃ m : Nat, m ≤ s.size ∧ i = .int .i64 m ∧ Hid (runEnd primeB s.data.toList k = runEnd primeB s.data.toList m)) (fun i => s.size - (intOf i).toNat)
             case atStart => exact ⟨k, hk, rfl, rfl⟩
             case round =>
               obtain ⟨m, hm, rfl, hr⟩ := hrel
               by_cases hc : ∃ h : m < s.size, ((s[m].toNat : Int) == 39) = true
               · obtain ⟨hlt2, hp2⟩ := hc
                 have hg := Lib.hid (runEnd_go (p := primeB) (l := s.data.toList) (k := m) (by simpa using hlt2) hp2)
                 go_wp2
                 go_round
                 case rel => exact ⟨m + 1, by omega, by go_num, by rw [hr.out, hg.out]; exact rfl⟩
                 case measure => simp [intOf]; omega
               · have HM : Hid (runEnd primeB s.data.toList k = m) := by
                   rw [hr.out]
                   by_cases hlt2 : m < s.size
                   · exact runEnd_stop (by simpa using hlt2) (by cases e : primeB (s[m].toNat : Int) with | false => exact e | true => exact absurd ⟨hlt2, e⟩ hc)
                   · exact runEnd_end (by simp; omega)
                 clear hr
                 have hp2 : ∀ h : m < s.size, ((s[m].toNat : Int) == 39) = false := fun h => by
                   cases e : ((s[m].toNat : Int) == 39) with
                   | false => rfl
                   | true => exact absurd ⟨h, e⟩ hc
                 clear hc
                 by_cases hlt2 : m < s.size
                 · have hp3 := hp2 hlt2
                   clear hp2
                   go_wp2
                   go_ret
                   exact ⟨ret_int (by rw [HR.out, HK.out, HM.out]), rfl⟩
                 · clear hp2
                   go_wp2
                   go_ret
                   exact ⟨ret_int (by rw [HR.out, HK.out, HM.out]), rfl⟩)
  · have HR : Hid (identR s.data.toList = 0) := Lib.hid (by unfold identR; rw [if_neg hc])
    have hl : letterB (byte0 s.data.toList 0) = false := by simpa using fun h => hc (.inl h)
    have t95 : (byte0 s.data.toList 0 != 95) = true := by simpa using fun h => hc (.inr h)
    clear hc
    go_enter Tryd.func26, Tryd.ntmps26
    go_wp2_with (first | (go_at_call 38; refine (C38.out _).mono ?_; rintro e w' ⟨rfl, rfl⟩) | (go_at_call 37; refine (r_letter _ _).mono ?_; rintro e w' ⟨rfl, rfl⟩))
    go_ret
    exact ⟨ret_int (by rw [HR.out]; rfl), rfl⟩
end Go.Proofs.YtanofnhiopagaaaDoor
