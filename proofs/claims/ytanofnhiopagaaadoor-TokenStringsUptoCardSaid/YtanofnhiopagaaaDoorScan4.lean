/- Contract: blanks. -/
import Derived.Test.YtanofnhiopagaaaDoorScan3
namespace Go.Proofs.YtanofnhiopagaaaDoor
open Go.RowKit

theorem rest_list (s : ByteArray) (k : Nat) : (s.extract k s.size).data.toList = s.data.toList.drop k := by
  rw [extract_list]; exact List.take_of_length_le (by simp)
theorem rest_size (s : ByteArray) (k : Nat) : (s.extract k s.size).size = s.size - k := by
  rw [← len_list, rest_list]; simp
theorem rest_first (s : ByteArray) (k : Nat) (h : k < s.size) : (s.extract k s.size)[0]'(by rw [rest_size]; omega) = s[k] := by
  simp [ByteArray.getElem_extract]

theorem grown_drewN (w : World) (n : Nat) (row : Option Nat) : w.grownBy (w.drewN n) row := ⟨rfl, rfl, rfl, Nat.le_refl _, fun _ _ _ => rfl⟩
set_option maxRecDepth 100000 in
set_option maxHeartbeats 1000000 in
theorem blanks_any (b : Nat) (hb4 : 4 ≤ b) (s : ByteArray) (k : Nat) (ln : Bool) (M T : Value) (w : World) (hs : s.size ≤ 4000000000) (hk : k ≤ s.size) (h : Scn w b s k ln M T) (hG : Glob w)
    (n k' : Nat) (ln' : Bool) (hF : blanksF n s.data.toList k ln = some (k', ln')) :
    Calls Tryd.prog 43 #[.pointer (some ⟨b, 0, none⟩)] w fun e w' => e = .returned (.tuple #[]) ∧ Scn w' b s k' ln' M T ∧ w.grownBy w' (some b) ∧ k' ≤ s.size := by
  have HF := Lib.hid hF
  clear hF
  go_enter Tryd.func43, Tryd.ntmps43
  go_wp2
  go_loopg [] n (fun g wr => ∃ (j : Nat) (l : Bool), j ≤ s.size ∧ Scn wr b s j l M T ∧ w.grownBy wr (some b) ∧ Hid (blanksF g s.data.toList j l = some (k', ln')))
  case atStart => exact ⟨k, ln, hk, h, World.grownBy.refl _ _, HF⟩
  case round =>
    obtain ⟨j, l, hj, hsc, hgr, hf⟩ := hrel
    have hGw : Glob wr := hG.grown hgr (fun q e => by cases e; exact hb4)
    have c0 := hsc.c0
    have c1 := hsc.c1
    have c2 := hsc.c2
    cases gk with
    | zero => have := hf.out; simp [blanksF] at this
    | succ g =>
      have hf2 := hf.out
      unfold blanksF at hf2
      rw [len_list] at hf2
      by_cases hlt : j < s.size
      · rw [if_neg (by omega), byteV_at s j hlt] at hf2
        have hd : decide ((j : Int) < (s.size : Int)) = true := by simp; omega
        have hr1 : ∀ h : 0 < (s.extract j s.size).size, (((s.extract j s.size)[0]'h).toNat : Int) = (s[j].toNat : Int) := fun _ => by rw [rest_first s j hlt]
        have hr2 := Lib.hid (rest_size s j)
        have hr3 := Lib.hid (rest_list s j)
        have hpos : 0 < (s.extract j s.size).size := by rw [rest_size]; omega
        have hji : (j : Int) ≤ (s.size : Int) := by omega
        go_wp2
        go_quiet (fail)
        have hs1 := hsc.drewN nq
        have hg1 := hgr.trans (grown_drewN wr nq (some b))
        have hG1 := hGw.drewN nq
        clear c0 c1 c2 hGw hsc hgr
        generalize wr.drewN nq = W1 at hs1 hg1 hG1 ⊢
        have c0 := hs1.c0
        have c1 := hs1.c1
        go_wp2
        go_quiet (fail)
        have hs2 := hs1.drewN nq
        have hg2 := hg1.trans (grown_drewN W1 nq (some b))
        have hG2 := hG1.drewN nq
        clear c0 c1 hs1 hg1 hG1
        generalize W1.drewN nq = W2 at hs2 hg2 hG2 ⊢
        generalize s.extract j s.size = r at *
        have hr1' := hr1 hpos
        clear hr1
        have c0 := hs2.c0
        have c1 := hs2.c1
        have c2 := hs2.c2
        have f1 := hs2.fz 1
        have f2 := hs2.fz 2
        by_cases h10 : (s[j].toNat : Int) = 10
        · rw [if_pos h10] at hf2
          have HF := Lib.hid hf2
          have t10 : ((r[0].toNat : Int) == 10) = true := by rw [hr1', h10]; rfl
          clear hf2 hf hr1' h10
          go_wp2
          go_roundg g
          case rel => exact ⟨j + 1, true, by omega, by simpa using (hs2.set2 true).set1 ((j : Int) + 1), (hg2.trans (grown_set b 2 _)).trans (grown_set b 1 _), HF⟩
          case measure => omega
        · rw [if_neg h10] at hf2
          have t10 : ((r[0].toNat : Int) == 10) = false := by rw [hr1']; simpa using h10
          by_cases h32 : (s[j].toNat : Int) = 32
          · rw [if_pos (.inl h32)] at hf2
            have t32 : ((r[0].toNat : Int) == 32) = true := by rw [hr1', h32]; rfl
            clear h32
            have HF := Lib.hid hf2
            clear hf2 hf hr1' h10
            go_wp2
            go_roundg g
            case rel => exact ⟨j + 1, l, by omega, by simpa using hs2.set1 ((j : Int) + 1), hg2.trans (grown_set b 1 _), HF⟩
            case measure => omega
          have t32 : ((r[0].toNat : Int) == 32) = false := by rw [hr1']; simpa using h32
          by_cases h9 : (s[j].toNat : Int) = 9
          · rw [if_pos (.inr (.inl h9))] at hf2
            have t9 : ((r[0].toNat : Int) == 9) = true := by rw [hr1', h9]; rfl
            clear h9 h32
            have HF := Lib.hid hf2
            clear hf2 hf hr1' h10
            go_wp2
            go_roundg g
            case rel => exact ⟨j + 1, l, by omega, by simpa using hs2.set1 ((j : Int) + 1), hg2.trans (grown_set b 1 _), HF⟩
            case measure => omega
          have t9 : ((r[0].toNat : Int) == 9) = false := by rw [hr1']; simpa using h9
          by_cases h13 : (s[j].toNat : Int) = 13
          · rw [if_pos (.inr (.inr h13))] at hf2
            have t13 : ((r[0].toNat : Int) == 13) = true := by rw [hr1', h13]; rfl
            clear h9 h32 h13
            have HF := Lib.hid hf2
            clear hf2 hf hr1' h10
            go_wp2
            go_roundg g
            case rel => exact ⟨j + 1, l, by omega, by simpa using hs2.set1 ((j : Int) + 1), hg2.trans (grown_set b 1 _), HF⟩
            case measure => omega
          have t13 : ((r[0].toNat : Int) == 13) = false := by rw [hr1']; simpa using h13
          have hno : ¬ ((s[j].toNat : Int) = 32 ∨ (s[j].toNat : Int) = 9 ∨ (s[j].toNat : Int) = 13) := fun h => h.elim h32 fun h => h.elim h9 h13
          rw [if_neg hno] at hf2
          clear hno
          clear h9 h32 h13 h10 hr1' hf
          have PA : ∀ W, Calls Tryd.prog 54 #[.string r, .string ⟨#[47, 47]⟩] W fun e w' => e = .returned (.bool (hasPre (s.data.toList.drop j) [47, 47])) ∧ W = w' := fun W => by
            have := prefix_any r ⟨#[47, 47]⟩ W (by unfold maxLen; rw [hr2.out]; omega) (by unfold maxLen; decide)
            rwa [hr3.out] at this
          have PB : ∀ W, Calls Tryd.prog 54 #[.string r, .string ⟨#[47, 42]⟩] W fun e w' => e = .returned (.bool (hasPre (s.data.toList.drop j) [47, 42])) ∧ W = w' := fun W => by
            have := prefix_any r ⟨#[47, 42]⟩ W (by unfold maxLen; rw [hr2.out]; omega) (by unfold maxLen; decide)
            rwa [hr3.out] at this
          cases hA : hasPre (s.data.toList.drop j) [47, 47] with
          | true =>
            rw [hA] at hf2 PA
            simp only [if_true] at hf2
            cases hV : Lib.validD ((s.data.toList.drop j).take (lineLen (s.data.toList.drop j))) with
            | false => rw [hV] at hf2; simp at hf2
            | true =>
              rw [hV] at hf2
              simp only [if_true] at hf2
              have HF := Lib.hid hf2
              have hll : lineLen (s.data.toList.drop j) ≤ s.size - j := by have := lineLen_le (s.data.toList.drop j); simpa using this
              have LC := lineComment_any b s r j l M T W2 hs (by rw [hr2.out]; omega) hs2 hG2 (by rw [hr3.out]; exact hV)
              rw [hr3.out] at LC
              have PA' := Lib.hid PA
              have LC' := Lib.hid LC
              clear PA PB LC hf2 hA hV c0 c1 c2 f1 f2
              go_wp2_with (first | (go_at_call 54; refine (PA'.out _).mono ?_; rintro e w' ⟨rfl, rfl⟩) | (go_at_call 55; refine LC'.out.mono ?_; rintro e w3 ⟨rfl, hs3, hg3⟩))
              go_roundg g
              case rel => exact ⟨_, l, by omega, hs3, hg2.trans hg3, HF⟩
              case measure => omega
          | false =>
            rw [hA] at hf2 PA
            simp only [Bool.false_eq_true, if_false] at hf2
            cases hB : hasPre (s.data.toList.drop j) [47, 42] with
            | true => rw [hB] at hf2; simp at hf2
            | false =>
              rw [hB] at hf2 PB
              simp only [Bool.false_eq_true, if_false] at hf2
              obtain ⟨rfl, rfl⟩ : j = k' ∧ l = ln' := by simpa using hf2
              have PA' := Lib.hid PA
              have PB' := Lib.hid PB
              clear PA PB hf2 hA hB c0 c1 c2 f1 f2
              go_wp2_with (fail)
              (refine (PA'.out _).mono ?_; rintro e w' ⟨rfl, rfl⟩)
              go_wp2_with (fail)
              (refine (PB'.out _).mono ?_; rintro e w' ⟨rfl, rfl⟩)
              go_wp2
              refine bodyPost_ret (results_none rfl _ _ _) rfl ?_
              exact ⟨rfl, hs2, hg2, hj⟩
      · rw [if_pos (by omega)] at hf2
        obtain ⟨rfl, rfl⟩ : j = k' ∧ l = ln' := by simpa using hf2
        clear hf hf2
        have hd : decide ((j : Int) < (s.size : Int)) = false := by simp; omega
        go_wp2
        go_quiet (fail)
        go_wp2
        go_end0
        exact ⟨rfl, hsc.drewN _, hgr.trans (grown_drewN _ _ _), hj⟩
end Go.Proofs.YtanofnhiopagaaaDoor
