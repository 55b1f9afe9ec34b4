/- Contracts of the reference: has, IsIdent. -/
import Derived.Test.YtanofnhiopagaaaDoorRef2
namespace Go.Proofs.YtanofnhiopagaaaDoor
open Go.RowKit

theorem heap_new (w : World) (o : Obj) : (w.alloc o).heap[w.heap.size]? = some o := by
  show (w.heap.push o)[w.heap.size]? = _
  simp
theorem cells_at (l : List (List UInt8)) (k : Nat) (hk : k < l.length) : (cellsOfL l)[k]? = some (.string (str (l.getD k []))) := by
  simp [cellsOfL, hk, List.getD, List.getElem?_eq_getElem hk]

set_option maxRecDepth 100000 in
set_option maxHeartbeats 400000 in
theorem r_has (s : ByteArray) (g : Nat) (w : World) (hg : w.heap[g]? = some (.cells (cellsOfL kwBytes) 9 (0, 0))) :
    Calls Tryd.prog 27 #[.slice (some ⟨g, 0, none⟩) 51 51, .string s] w fun e w' => e = .returned (.bool (isKw s.data.toList)) ∧ w = w' := by
  have hc : ∀ k, k < 51 → w.cell? ⟨g, k, none⟩ = some (.string (str (kwAt k))) := fun k hk => by
    have := cells_at kwBytes k (by rw [kw_len]; exact hk)
    simp [World.cell?, hg, this, kwAt]
  clear hg
  have Hc := Lib.hid hc
  clear hc
  go_enter Tryd.func27, Tryd.ntmps27
  go_wp2
  go_loop [5] (fun i => ∃ k : Nat, k ≤ 51 ∧ i = .int .i64 k ∧ Hid (kwBefore s.data.toList k = false)) (fun i => 51 - (intOf i).toNat)
  case atStart => exact ⟨0, Nat.zero_le _, rfl, by unfold kwBefore; exact rfl⟩
  case round =>
    obtain ⟨k, hk, rfl, hno⟩ := hrel
    by_cases hlt : k < 51
    · have hi := Hc.out k hlt
      have hst := kwBefore_step s.data.toList k hlt
      rw [hno.out, Bool.false_or] at hst
      have ha := kwBefore_all s.data.toList
      have ki : (k : Int) < 51 := by omega
      cases he : (s.data.toList == kwAt k) with
      | true =>
        have hkw : isKw s.data.toList = true := by
          rw [← ha]
          have : kwAt k = s.data.toList := (beq_iff_eq.1 he).symm
          unfold kwBefore
          rw [List.take_of_length_le (by rw [kw_len]; omega), ← this]
          have hlen : k < kwBytes.length := by rw [kw_len]; omega
          have e : kwAt k = kwBytes[k] := by simp [kwAt, List.getD, List.getElem?_eq_getElem hlen]
          rw [e]
          exact List.contains_iff_mem.2 (List.getElem_mem hlen)
        have HK := Lib.hid hkw
        have t1 : ((str (kwAt k)).toList == s.toList) = true := by rw [toList_data, toList_data, str_list]; exact beq_iff_eq.2 (beq_iff_eq.1 he).symm
        clear hst ha hkw hno he
        go_wp2
        go_ret
        exact ⟨ret_bool (by rw [HK.out]), rfl⟩
      | false =>
        rw [he] at hst
        have HS := Lib.hid hst
        have t1 : ((str (kwAt k)).toList == s.toList) = false := by rw [toList_data, toList_data, str_list]; exact beq_eq_false_iff_ne.2 (fun h => (beq_eq_false_iff_ne.1 he) h.symm)
        clear hst ha hno he
        go_wp2
        go_round
        case rel => exact ⟨k + 1, by omega, by go_num, HS⟩
        case measure => simp [intOf]; omega
    · obtain rfl : k = 51 := by omega
      have HK := Lib.hid (kwBefore_all s.data.toList)
      go_wp2
      go_ret
      exact ⟨ret_bool (by rw [← HK.out, hno.out]), rfl⟩

/-- The reference's IsIdent says the same. -/
theorem identR_spec (l : List UInt8) : (!l.isEmpty && decide (l.length ≤ 60) && (identR l == l.length) && !isKw l) = identB l := by
  unfold identB isWordB identR
  cases l with
  | nil => simp
  | cons x l =>
    have e0 : byte0 (x :: l) 0 = byteV (x :: l) 0 := by simp [byte0, byteV]
    rw [e0]
    have hd : ∀ c : Int, (digitB c = false ∧ wordB c = true) ↔ (letterB c = true ∨ c = 95) := fun c => by
      unfold wordB letterB digitB
      simp
      omega
    by_cases h : letterB (byteV (x :: l) 0) = true ∨ byteV (x :: l) 0 = 95
    · rw [if_pos h]
      obtain ⟨h1, h2⟩ := (hd _).2 h
      rw [h1, h2]
      simp
    · rw [if_neg h]
      have h0 : (0 == (x :: l).length) = false := by simp
      rw [h0]
      have : (!digitB (byteV (x :: l) 0) && wordB (byteV (x :: l) 0)) = false := by
        cases hc : (!digitB (byteV (x :: l) 0) && wordB (byteV (x :: l) 0)) with
        | false => rfl
        | true => exact absurd ((hd _).1 (by simpa using hc)) h
      simp only [List.isEmpty_cons, Bool.not_false, Bool.true_and, this, Bool.false_and, Bool.and_false]

set_option maxRecDepth 100000 in
set_option maxHeartbeats 1000000 in
theorem r_isIdent (s : ByteArray) (w : World) (hs : s.size ≤ maxLen) :
    Calls Tryd.prog 12 #[.string s] w fun e w' => e = .returned (.bool (identB s.data.toList)) ∧ w.grownBy w' none := by
  have C26 := Lib.hid (fun W => r_ident s W hs)
  have HV := Lib.hid (identR_spec s.data.toList)
  rw [len_list] at HV
  by_cases h0 : s.size = 0
  · have e : s.data.toList = [] := by rw [← List.length_eq_zero_iff, len_list, h0]
    have t1 : s.toList = [] := by rw [toList_data, e]
    rw [e] at HV
    go_enter Tryd.func12, Tryd.ntmps12
    go_wp2_with (fail)
    go_ret
    exact ⟨ret_bool (by rw [e, ← HV.out]; rfl), World.grownBy.refl _ _⟩
  · have hne : s.data.toList.isEmpty = false := by
      cases hl : s.data.toList with
      | nil => have := len_list s; rw [hl] at this; simp at this; omega
      | cons x l => rfl
    have t1 : ¬ s.toList = [] := by
      rw [toList_data]
      cases hl : s.data.toList with
      | nil => rw [hl] at hne; cases hne
      | cons x l => simp
    rw [hne] at HV
    by_cases h60 : s.size ≤ 60
    · have d60 : decide ((s.size : Int) ≤ 60) = true := by simp; omega
      cases hi : (identR s.data.toList == s.size) with
      | true =>
        have t2 : (((identR s.data.toList : Nat) : Int) == (s.size : Int)) = true := beq_iff_eq.2 (by have := beq_iff_eq.1 hi; omega)
        rw [hi] at HV
        have hnew : (w.alloc (.cells (cellsOfL kwBytes) 9)).heap[w.heap.size]? = some (.cells (cellsOfL kwBytes) 9 (0, 0)) := heap_new w _
        have C27 := Lib.hid (r_has s w.heap.size (w.alloc (.cells (cellsOfL kwBytes) 9)) hnew)
        clear hnew hi
        go_enter Tryd.func12, Tryd.ntmps12
        go_wp2_with (first | (go_at_call 26; refine (C26.out _).mono ?_; rintro e w' ⟨rfl, rfl⟩) | (go_at_call 15; refine (r_keywords _).mono ?_; rintro e w' ⟨rfl, rfl⟩) | (go_at_call 27; refine C27.out.mono ?_; rintro e w' ⟨rfl, rfl⟩))
        go_ret
        exact ⟨ret_bool (by rw [← HV.out]; simp [h60, t1]), World.grownBy_alloc _ _ _⟩
      | false =>
        have t2 : (((identR s.data.toList : Nat) : Int) == (s.size : Int)) = false := beq_eq_false_iff_ne.2 (by have := beq_eq_false_iff_ne.1 hi; omega)
        rw [hi] at HV
        clear hi
        go_enter Tryd.func12, Tryd.ntmps12
        go_wp2_with (first | (go_at_call 26; refine (C26.out _).mono ?_; rintro e w' ⟨rfl, rfl⟩))
        go_ret
        exact ⟨ret_bool (by rw [← HV.out]; simp), World.grownBy.refl _ _⟩
    · have d60 : decide ((s.size : Int) ≤ 60) = false := by simp; omega
      go_enter Tryd.func12, Tryd.ntmps12
      go_wp2_with (fail)
      go_ret
      exact ⟨ret_bool (by rw [← HV.out]; simp [h60]), World.grownBy.refl _ _⟩
end Go.Proofs.YtanofnhiopagaaaDoor
