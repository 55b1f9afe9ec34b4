/- Contracts: the reference's Quote. -/
import Derived.Test.YtanofnhiopagaaaDoorQuo
import Derived.Test.YtanofnhiopagaaaDoorLibT
import Derived.Deep.LoopGhost
import Derived.BigQuiet
import Derived.Deep.Cut
import Derived.Deep.QuietTactic
namespace Go.Proofs.YtanofnhiopagaaaDoor
open Go.RowKit

/-- The text of a byte behind the first j letters that have one of their own. -/
def tq (c : UInt8) : Nat → List UInt8
  | 0 => if c.toNat < 32 ∨ c.toNat = 127 then [92, 120, hexB (c.toNat / 16), hexB (c.toNat % 16)] else [c]
  | j + 1 => if c = ([10, 9, 13, 0, 92, 34] : List UInt8).getD j 0 then [92, ([110, 116, 114, 48, 92, 34] : List UInt8).getD j 0] else tq c j
theorem tq_six (c : UInt8) : tq c 6 = qb c := by
  have : ∀ k : Fin 256, tq (UInt8.ofNat k.val) 6 = qb (UInt8.ofNat k.val) := by decide +kernel
  have h := this ⟨c.toNat, c.toNat_lt⟩
  simpa using h

theorem bytes_append (a b : List UInt8) : ByteArray.mk a.toArray ++ ByteArray.mk b.toArray = ⟨(a ++ b).toArray⟩ := by
  apply ByteArray.ext
  simp

theorem extract_one (s : ByteArray) (k : Nat) (h : k < s.size) (c : UInt8) (hc : s[k] = c) : s.extract k (k + 1) = ⟨[c].toArray⟩ := by
  apply ByteArray.ext
  simp only [ByteArray.data_extract]
  apply Array.ext
  · simp; have : s.data.size = s.size := rfl; omega
  · intro i h1 h2
    simp at h2
    subst h2
    simp only [Array.getElem_extract]
    exact hc
theorem bytes_at (m : Nat) (h : m < 6) (hh : m < (ByteArray.mk #[10, 9, 13, 0, 92, 34]).size) : (ByteArray.mk #[10, 9, 13, 0, 92, 34])[m]'hh = ([10, 9, 13, 0, 92, 34] : List UInt8).getD m 0 := by
  match m, h with
  | 0, _ => rfl
  | 1, _ => rfl
  | 2, _ => rfl
  | 3, _ => rfl
  | 4, _ => rfl
  | 5, _ => rfl
theorem tq_len (c : UInt8) (m : Nat) : (tq c m).length ≤ 4 := by
  induction m with
  | zero => unfold tq; split <;> simp
  | succ m ih => unfold tq; split <;> simp [ih]
theorem below_drewN {n : Nat} {w w' : World} (h : Below n w w') (q : Nat) : Below n w (w'.drewN q) := h.trans ⟨rfl, rfl, rfl, Nat.le_refl _, fun _ _ => rfl⟩
theorem hex_ext (n : Nat) (h : n < 16) : (ByteArray.mk #[48, 49, 50, 51, 52, 53, 54, 55, 56, 57, 65, 66, 67, 68, 69, 70]).extract n (n + 1) = ⟨[hexB n].toArray⟩ := by
  have : ∀ k : Fin 16, (ByteArray.mk #[48, 49, 50, 51, 52, 53, 54, 55, 56, 57, 65, 66, 67, 68, 69, 70]).extract k.val (k.val + 1) = ⟨[hexB k.val].toArray⟩ := by decide +kernel
  exact this ⟨n, h⟩
theorem hex_text (c : UInt8) (h : c.toNat < 32 ∨ c.toNat = 127) :
    ByteArray.mk #[92, 120] ++ (ByteArray.mk #[48, 49, 50, 51, 52, 53, 54, 55, 56, 57, 65, 66, 67, 68, 69, 70]).extract (c.toNat / 16) (c.toNat / 16 + 1) ++ (ByteArray.mk #[48, 49, 50, 51, 52, 53, 54, 55, 56, 57, 65, 66, 67, 68, 69, 70]).extract (c.toNat % 16) (c.toNat % 16 + 1) = ⟨(tq c 0).toArray⟩ := by
  rw [hex_ext _ (by omega), hex_ext _ (by omega), show tq c 0 = [92, 120, hexB (c.toNat / 16), hexB (c.toNat % 16)] from if_pos h, bytes_append [92, 120] [hexB (c.toNat / 16)], bytes_append]
  rfl
theorem names_at (m : Nat) (h : m < 6) : (ByteArray.mk #[110, 116, 114, 48, 92, 34]).extract m (m + 1) = ⟨[([110, 116, 114, 48, 92, 34] : List UInt8).getD m 0].toArray⟩ := by
  match m, h with
  | 0, _ => rfl
  | 1, _ => rfl
  | 2, _ => rfl
  | 3, _ => rfl
  | 4, _ => rfl
  | 5, _ => rfl

set_option maxRecDepth 100000 in
set_option maxHeartbeats 800000 in
theorem refQuote_bad (s : ByteArray) (w : World) (hs : s.size ≤ 4000) (hT : Lib.Utf8Tabs 2 3 w) (hv : Lib.validD s.data.toList = false) :
    Calls Tryd.prog 10 #[.string s] w fun e w' => e = .returned (.tuple #[.string ⟨#[]⟩, .int .i64 2]) ∧ Below w.heap.size w w' := by
  have V0 := Tryd.utf8_ValidString s w (by omega) hT
  rw [hv] at V0
  have V := Lib.hid V0
  clear V0 hv
  go_enter Tryd.func10, Tryd.ntmps10
  go_wp2_with fail
  refine V.out.mono ?_
  rintro e w0 ⟨rfl, hb0⟩
  go_wp2_with fail
  go_ret2
  exact ⟨rfl, hb0⟩

set_option maxRecDepth 100000 in
set_option maxHeartbeats 1600000 in
theorem refQuote_ok (s : ByteArray) (w : World) (hs : s.size ≤ 4000) (hT : Lib.Utf8Tabs 2 3 w) (hv : Lib.validD s.data.toList = true) :
    Calls Tryd.prog 10 #[.string s] w fun e w' => e = .returned (.tuple #[.string ⟨(qs s.data.toList ++ [34]).toArray⟩, .int .i64 0]) ∧ Below w.heap.size w w' := by
  have V0 := Tryd.utf8_ValidString s w (by omega) hT
  rw [hv] at V0
  have V := Lib.hid V0
  clear V0 hv
  go_enter Tryd.func10, Tryd.ntmps10
  go_wp2_with fail
  refine V.out.mono ?_
  rintro e w0 ⟨rfl, hb0⟩
  go_wp2_with fail
  go_loopw [7, 8] (fun o i wr => ∃ k : Nat, k ≤ s.size ∧ i = .int .i64 k ∧ o = .string ⟨(qs (s.data.toList.take k)).toArray⟩ ∧ Below w.heap.size w wr) (fun _ i _ => s.size - (intOf i).toNat)
  case atStart => exact ⟨0, Nat.zero_le _, rfl, rfl, hb0⟩
  case round =>
    obtain ⟨k, hk, rfl, rfl, hbr⟩ := hrel
    have hql := qs_len (s.data.toList.take k)
    simp only [List.length_take, len_list] at hql
    by_cases hlt : k < s.size
    · obtain ⟨c, hc⟩ : ∃ c, s[k] = c := ⟨_, rfl⟩
      have hst := qs_step s.data.toList k (by rw [len_list]; exact hlt)
      rw [show s.data.toList[k]'(by rw [len_list]; exact hlt) = c from by rw [← hc]; simp; rfl] at hst
      generalize qs (s.data.toList.take k) = q at *
      have i1 : (k : Int) < s.size := by omega
      have i2 : (s.size : Int) ≤ 4000 := by omega
      by_cases cx : c.toNat < 32 ∨ c.toNat = 127
      · rcases (by omega : c.toNat < 32 ∨ (¬ c.toNat < 32 ∧ c.toNat = 127)) with cy | cy
        · have hexT := Lib.hid (hex_text c cx)
          have x1 : (c.toNat : Int) < 32 := by omega
          have d0 : (0 : Int) ≤ (c.toNat : Int) / 16 := by omega
          have d1 : (c.toNat : Int) / 16 < 16 := by omega
          have d2 : (c.toNat : Int) / 16 + 1 ≤ 16 := by omega
          have m0 : (0 : Int) ≤ (c.toNat : Int) % 16 := by omega
          have m1 : (c.toNat : Int) % 16 < 16 := by omega
          have m2 : (c.toNat : Int) % 16 + 1 ≤ 16 := by omega
          have hcl : c.toNat < 128 := by omega
          clear cx cy
          go_upto_region 12 with fail
          go_quiet (fail)
          go_wp2_with fail
          go_loopw [9, 10] (fun t j wx => ∃ m : Nat, m ≤ 6 ∧ j = .int .i64 m ∧ t = .string ⟨(tq c m).toArray⟩ ∧ Below w.heap.size w wx) (fun _ j _ => 6 - (intOf j).toNat)
          case atStart =>
            exact ⟨0, Nat.zero_le _, rfl, congrArg Value.string hexT.out, below_drewN hbr _⟩
          case round =>
            obtain ⟨m, hm, rfl, rfl, hbx⟩ := hrel
            by_cases hm6 : m < 6
            · have j1 : (m : Int) < 6 := by omega
              have hn := Lib.hid (names_at m hm6)
              by_cases hq : c = ([10, 9, 13, 0, 92, 34] : List UInt8).getD m 0
              · have hq1 : ∀ h, ((c.toNat : Int) == ((ByteArray.mk #[10, 9, 13, 0, 92, 34])[m]'h).toNat) = true := fun h => by
                  rw [bytes_at m hm6 h, ← hq]; simp
                have hq2 : tq c (m + 1) = [92, ([110, 116, 114, 48, 92, 34] : List UInt8).getD m 0] := if_pos hq
                clear hq
                go_upto_region 16 with fail
                go_quiet (fail)
                go_wp2_with fail
                exact ⟨⟨m + 1, hm6, by simp, by rw [hq2, hn.out]; exact congrArg Value.string (bytes_append [92] _), below_drewN hbx nq⟩, by simp [intOf]; omega⟩
              · have hq1 : ∀ h, ((c.toNat : Int) == ((ByteArray.mk #[10, 9, 13, 0, 92, 34])[m]'h).toNat) = false := fun h => by
                  rw [bytes_at m hm6 h]
                  have : c.toNat ≠ (([10, 9, 13, 0, 92, 34] : List UInt8).getD m 0).toNat := fun e => hq (UInt8.toNat_inj.1 e)
                  simp only [beq_eq_false_iff_ne]; omega
                have hq2 : tq c (m + 1) = tq c m := if_neg hq
                clear hq
                go_upto_region 16 with fail
                go_quiet (fail)
                go_wp2_with fail
                exact ⟨⟨m + 1, hm6, by simp, by rw [hq2], below_drewN hbx nq⟩, by simp [intOf]; omega⟩
            · have j1 : ¬ (m : Int) < 6 := by omega
              have htl := tq_len c m
              have hnl : ¬ 9223372036854775807 < q.length + (tq c m).length := by omega
              go_wp2_with fail
              obtain rfl : m = 6 := by omega
              exact ⟨⟨k + 1, hlt, by simp, by rw [hst, ← tq_six, bytes_append], hbx⟩, by simp [intOf]; omega⟩
        · have hexT := Lib.hid (hex_text c cx)
          have x1 : ¬ (c.toNat : Int) < 32 := by omega
          have x2 : ((c.toNat : Int) == 127) = true := by simp; omega
          have d0 : (0 : Int) ≤ (c.toNat : Int) / 16 := by omega
          have d1 : (c.toNat : Int) / 16 < 16 := by omega
          have d2 : (c.toNat : Int) / 16 + 1 ≤ 16 := by omega
          have m0 : (0 : Int) ≤ (c.toNat : Int) % 16 := by omega
          have m1 : (c.toNat : Int) % 16 < 16 := by omega
          have m2 : (c.toNat : Int) % 16 + 1 ≤ 16 := by omega
          have hcl : c.toNat < 128 := by omega
          clear cx cy
          go_upto_region 12 with fail
          go_quiet (fail)
          go_wp2_with fail
          go_loopw [9, 10] (fun t j wx => ∃ m : Nat, m ≤ 6 ∧ j = .int .i64 m ∧ t = .string ⟨(tq c m).toArray⟩ ∧ Below w.heap.size w wx) (fun _ j _ => 6 - (intOf j).toNat)
          case atStart =>
            exact ⟨0, Nat.zero_le _, rfl, congrArg Value.string hexT.out, below_drewN hbr _⟩
          case round =>
            obtain ⟨m, hm, rfl, rfl, hbx⟩ := hrel
            by_cases hm6 : m < 6
            · have j1 : (m : Int) < 6 := by omega
              have hn := Lib.hid (names_at m hm6)
              by_cases hq : c = ([10, 9, 13, 0, 92, 34] : List UInt8).getD m 0
              · have hq1 : ∀ h, ((c.toNat : Int) == ((ByteArray.mk #[10, 9, 13, 0, 92, 34])[m]'h).toNat) = true := fun h => by
                  rw [bytes_at m hm6 h, ← hq]; simp
                have hq2 : tq c (m + 1) = [92, ([110, 116, 114, 48, 92, 34] : List UInt8).getD m 0] := if_pos hq
                clear hq
                go_upto_region 16 with fail
                go_quiet (fail)
                go_wp2_with fail
                exact ⟨⟨m + 1, hm6, by simp, by rw [hq2, hn.out]; exact congrArg Value.string (bytes_append [92] _), below_drewN hbx nq⟩, by simp [intOf]; omega⟩
              · have hq1 : ∀ h, ((c.toNat : Int) == ((ByteArray.mk #[10, 9, 13, 0, 92, 34])[m]'h).toNat) = false := fun h => by
                  rw [bytes_at m hm6 h]
                  have : c.toNat ≠ (([10, 9, 13, 0, 92, 34] : List UInt8).getD m 0).toNat := fun e => hq (UInt8.toNat_inj.1 e)
                  simp only [beq_eq_false_iff_ne]; omega
                have hq2 : tq c (m + 1) = tq c m := if_neg hq
                clear hq
                go_upto_region 16 with fail
                go_quiet (fail)
                go_wp2_with fail
                exact ⟨⟨m + 1, hm6, by simp, by rw [hq2], below_drewN hbx nq⟩, by simp [intOf]; omega⟩
            · have j1 : ¬ (m : Int) < 6 := by omega
              have htl := tq_len c m
              have hnl : ¬ 9223372036854775807 < q.length + (tq c m).length := by omega
              go_wp2_with fail
              obtain rfl : m = 6 := by omega
              exact ⟨⟨k + 1, hlt, by simp, by rw [hst, ← tq_six, bytes_append], hbx⟩, by simp [intOf]; omega⟩
      · have x1 : ¬ (c.toNat : Int) < 32 := by omega
        have x2 : ((c.toNat : Int) == 127) = false := by simp; omega
        have hex1 : s.extract k (k + 1) = ⟨(tq c 0).toArray⟩ := by
          rw [show tq c 0 = [c] from if_neg cx]
          exact extract_one s k hlt c hc
        go_wp2_with fail
        go_loopw [9, 10] (fun t j wx => ∃ m : Nat, m ≤ 6 ∧ j = .int .i64 m ∧ t = .string ⟨(tq c m).toArray⟩ ∧ Below w.heap.size w wx) (fun _ j _ => 6 - (intOf j).toNat)
        case atStart =>
          exact ⟨0, Nat.zero_le _, rfl, rfl, hbr⟩
        case round =>
          obtain ⟨m, hm, rfl, rfl, hbx⟩ := hrel
          by_cases hm6 : m < 6
          · have j1 : (m : Int) < 6 := by omega
            have hn := Lib.hid (names_at m hm6)
            by_cases hq : c = ([10, 9, 13, 0, 92, 34] : List UInt8).getD m 0
            · have hq1 : ∀ h, ((c.toNat : Int) == ((ByteArray.mk #[10, 9, 13, 0, 92, 34])[m]'h).toNat) = true := fun h => by
                rw [bytes_at m hm6 h, ← hq]; simp
              have hq2 : tq c (m + 1) = [92, ([110, 116, 114, 48, 92, 34] : List UInt8).getD m 0] := if_pos hq
              clear hq
              go_upto_region 16 with fail
              go_quiet (fail)
              go_wp2_with fail
              exact ⟨⟨m + 1, hm6, by simp, by rw [hq2, hn.out]; exact congrArg Value.string (bytes_append [92] _), below_drewN hbx nq⟩, by simp [intOf]; omega⟩
            · have hq1 : ∀ h, ((c.toNat : Int) == ((ByteArray.mk #[10, 9, 13, 0, 92, 34])[m]'h).toNat) = false := fun h => by
                rw [bytes_at m hm6 h]
                have : c.toNat ≠ (([10, 9, 13, 0, 92, 34] : List UInt8).getD m 0).toNat := fun e => hq (UInt8.toNat_inj.1 e)
                simp only [beq_eq_false_iff_ne]; omega
              have hq2 : tq c (m + 1) = tq c m := if_neg hq
              clear hq
              go_upto_region 16 with fail
              go_quiet (fail)
              go_wp2_with fail
              exact ⟨⟨m + 1, hm6, by simp, by rw [hq2], below_drewN hbx nq⟩, by simp [intOf]; omega⟩
          · have j1 : ¬ (m : Int) < 6 := by omega
            have htl := tq_len c m
            have hnl : ¬ 9223372036854775807 < q.length + (tq c m).length := by omega
            go_wp2_with fail
            obtain rfl : m = 6 := by omega
            exact ⟨⟨k + 1, hlt, by simp, by rw [hst, ← tq_six, bytes_append], hbx⟩, by simp [intOf]; omega⟩
    · obtain rfl : k = s.size := by omega
      have e2 : s.data.toList.take s.size = s.data.toList := List.take_of_length_le (by rw [len_list]; exact Nat.le_refl _)
      rw [e2] at hql ⊢
      have hql2 := qs_len s.data.toList
      rw [len_list] at hql2
      have hfin : ByteArray.mk (qs s.data.toList).toArray ++ ByteArray.mk #[34] = ⟨(qs s.data.toList ++ [34]).toArray⟩ := bytes_append _ [34]
      generalize hqq : qs s.data.toList = q at *
      go_wp2_with fail
      go_ret2
      exact ⟨by rw [hqq]; rfl, hbr⟩
end Go.Proofs.YtanofnhiopagaaaDoor
