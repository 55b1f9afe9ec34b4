/- Contracts: isKeyword, isWord, IsIdent. -/
import Derived.Test.YtanofnhiopagaaaDoorSpec2
namespace Go.Proofs.YtanofnhiopagaaaDoor
open Go.RowKit

def kwBefore (l : List UInt8) (k : Nat) : Bool := (kwBytes.take k).contains l
theorem kwBefore_step (l : List UInt8) (k : Nat) (hk : k < 51) : kwBefore l (k + 1) = (kwBefore l k || (l == kwAt k)) := by
  have hlen : k < kwBytes.length := by rw [kw_len]; omega
  unfold kwBefore
  rw [List.take_add_one, List.getElem?_eq_getElem hlen]
  simp only [Option.toList]
  rw [List.contains_append]
  have e : kwAt k = kwBytes[k] := by simp [kwAt, List.getD, List.getElem?_eq_getElem hlen]
  rw [e]
  simp only [List.contains_cons, List.contains_nil, Bool.or_false]
theorem kwBefore_all (l : List UInt8) : kwBefore l 51 = isKw l := by
  unfold kwBefore isKw
  rw [List.take_of_length_le (by rw [kw_len]; omega)]

set_option maxRecDepth 100000 in
set_option maxHeartbeats 400000 in
theorem isKeyword_any (s : ByteArray) (w : World) (hG : GKw w) :
    Calls Tryd.prog 25 #[.string s] w fun e w' => e = .returned (.bool (isKw s.data.toList)) ∧ w = w' := by
  obtain ⟨t, fr, hg⟩ := hG
  go_enter Tryd.func25, Tryd.ntmps25
  go_wp2_with (first | (refine wpList_load_row rfl 44 _ rfl 0 rfl t (cellsOfL kwBytes) fr (.array 51 9) hg Tryd.underlying44 rfl (by rw [info44, size_kw]) ?_))
  clear hg
  go_loop [6] (fun i => ∃ k : Nat, k ≤ 51 ∧ i = .int .i64 k ∧ Hid (kwBefore s.data.toList k = false)) (fun i => 51 - (intOf i).toNat)
  case atStart => exact ⟨0, Nat.zero_le _, rfl, by unfold kwBefore; exact rfl⟩
  case round =>
    obtain ⟨k, hk, rfl, hno⟩ := hrel
    by_cases hlt : k < 51
    · have hi := fun W => idx44' k hlt W
      have hst := kwBefore_step s.data.toList k hlt
      rw [hno.out, Bool.false_or] at hst
      have ha := kwBefore_all s.data.toList
      cases he : (s.data.toList == kwAt k) with
      | true =>
        have hkw : isKw s.data.toList = true := by
          rw [← ha]
          have : kwAt k = s.data.toList := (beq_iff_eq.1 he).symm
          unfold kwBefore
          rw [List.take_of_length_le (by rw [kw_len]; omega), ← this]
          have hlen : k < kwBytes.length := by rw [kw_len]; omega
          have e : kwAt k = kwBytes[k] := by simp [kwAt, List.getD, List.getElem?_eq_getElem hlen]
          rw [e]
          exact List.contains_iff_mem.2 (List.getElem_mem hlen)
        have HK := Lib.hid hkw
        have t1 : ((str (kwAt k)).toList == s.toList) = true := by rw [toList_data, toList_data, str_list]; exact beq_iff_eq.2 (beq_iff_eq.1 he).symm
        clear hst ha hkw hno he
        go_wp2
        go_ret
        exact ⟨ret_bool (by rw [HK.out]), rfl⟩
      | false =>
        rw [he] at hst
        have HS := Lib.hid hst
        have t1 : ((str (kwAt k)).toList == s.toList) = false := by rw [toList_data, toList_data, str_list]; exact beq_eq_false_iff_ne.2 (fun h => (beq_eq_false_iff_ne.1 he) h.symm)
        clear hst ha hno he
        go_wp2
        go_round
        case rel => exact ⟨k + 1, by omega, by go_num, HS⟩
        case measure => simp [intOf]; omega
    · obtain rfl : k = 51 := by omega
      have HK := Lib.hid (kwBefore_all s.data.toList)
      go_wp2
      go_ret
      exact ⟨ret_bool (by rw [← HK.out, hno.out]), rfl⟩

def isWordB (l : List UInt8) : Bool := !l.isEmpty && !digitB (byteV l 0) && wordB (byteV l 0) && (wordEnd l 0 == l.length)
set_option maxHeartbeats 800000 in
theorem isWord_any (s : ByteArray) (w : World) (hs : s.size ≤ maxLen) :
    Calls Tryd.prog 24 #[.string s] w fun e w' => e = .returned (.bool (isWordB s.data.toList)) ∧ w = w' := by
  have W36 := Lib.hid (wordEnd_any s 0 w hs (Nat.zero_le _))
  unfold maxLen at hs
  by_cases h0 : s.size = 0
  · have e : s.data.toList = [] := by rw [← List.length_eq_zero_iff, len_list, h0]
    have HV : Hid (isWordB s.data.toList = false) := Lib.hid (by rw [e]; rfl)
    have t1 : (s.toList == ([] : List UInt8)) = true := by rw [toList_data, e]; rfl
    clear e
    go_enter Tryd.func24, Tryd.ntmps24
    go_wp2
    go_ret
    exact ⟨ret_bool (by rw [HV.out]), rfl⟩
  · have hpos : 0 < s.size := by omega
    have t1 : (s.toList == ([] : List UInt8)) = false := by
      rw [toList_data]
      cases hl : s.data.toList with
      | nil => have := len_list s; rw [hl] at this; simp at this; omega
      | cons x l => rfl
    have hb := byteV_at s 0 hpos
    have HV : Hid (isWordB s.data.toList = (!digitB (byteV s.data.toList 0) && wordB (byteV s.data.toList 0) && (wordEnd s.data.toList 0 == s.size))) := Lib.hid (by
      unfold isWordB
      rw [toList_data] at t1
      have : s.data.toList.isEmpty = false := by cases hl : s.data.toList with | nil => rw [hl] at t1; simp at t1 | cons x l => rfl
      rw [this, len_list]; rfl)
    rw [hb] at HV
    clear hb
    cases hd : digitB (s[0].toNat : Int) with
    | true =>
      rw [hd] at HV
      go_enter Tryd.func24, Tryd.ntmps24
      go_wp2_with (first | (go_at_call 34; refine (isDigit_any _ _).mono ?_; rintro e w' ⟨rfl, rfl⟩) | (go_at_call 35; refine (inWord_any _ _).mono ?_; rintro e w' ⟨rfl, rfl⟩))
      go_ret
      exact ⟨ret_bool (by rw [HV.out]; rfl), rfl⟩
    | false =>
      rw [hd] at HV
      cases hw : wordB (s[0].toNat : Int) with
      | false =>
        rw [hw] at HV
        go_enter Tryd.func24, Tryd.ntmps24
        go_wp2_with (first | (go_at_call 34; refine (isDigit_any _ _).mono ?_; rintro e w' ⟨rfl, rfl⟩) | (go_at_call 35; refine (inWord_any _ _).mono ?_; rintro e w' ⟨rfl, rfl⟩))
        go_ret
        exact ⟨ret_bool (by rw [HV.out]; rfl), rfl⟩
      | true =>
        rw [hw] at HV
        go_enter Tryd.func24, Tryd.ntmps24
        go_wp2_with (first | (go_at_call 34; refine (isDigit_any _ _).mono ?_; rintro e w' ⟨rfl, rfl⟩) | (go_at_call 35; refine (inWord_any _ _).mono ?_; rintro e w' ⟨rfl, rfl⟩) | (go_at_call 36; refine W36.out.mono ?_; rintro e w' ⟨rfl, rfl⟩))
        go_ret
        exact ⟨ret_bool (by rw [HV.out]; rw [Bool.eq_iff_iff]; simp; try omega), rfl⟩

def identB (l : List UInt8) : Bool := decide (l.length ≤ 60) && isWordB l && !isKw l
set_option maxHeartbeats 800000 in
theorem isIdent_any (s : ByteArray) (w : World) (hs : s.size ≤ maxLen) (hG : GKw w) :
    Calls Tryd.prog 11 #[.string s] w fun e w' => e = .returned (.bool (identB s.data.toList)) ∧ w = w' := by
  have C24 := Lib.hid (fun W => isWord_any s W hs)
  have C25 := Lib.hid (isKeyword_any s w hG)
  have HV : Hid (identB s.data.toList = (decide (s.size ≤ 60) && isWordB s.data.toList && !isKw s.data.toList)) := Lib.hid (by unfold identB; rw [len_list])
  clear hG
  by_cases h60 : s.size ≤ 60
  · have hd : decide ((s.size : Int) ≤ 60) = true := by simp; omega
    cases hw : isWordB s.data.toList with
    | true =>
      rw [hw] at C24 HV
      go_enter Tryd.func11, Tryd.ntmps11
      go_wp2_with (first | (go_at_call 24; refine (C24.out _).mono ?_; rintro e w' ⟨rfl, rfl⟩) | (go_at_call 25; refine C25.out.mono ?_; rintro e w' ⟨rfl, rfl⟩))
      go_ret
      exact ⟨ret_bool (by rw [HV.out]; simp [h60]), rfl⟩
    | false =>
      rw [hw] at C24 HV
      go_enter Tryd.func11, Tryd.ntmps11
      go_wp2_with (first | (go_at_call 24; refine (C24.out _).mono ?_; rintro e w' ⟨rfl, rfl⟩) | (go_at_call 25; refine C25.out.mono ?_; rintro e w' ⟨rfl, rfl⟩))
      go_ret
      exact ⟨ret_bool (by rw [HV.out]; simp), rfl⟩
  · have hd : decide ((s.size : Int) ≤ 60) = false := by simp; omega
    go_enter Tryd.func11, Tryd.ntmps11
    go_wp2_with (fail)
    go_ret
    exact ⟨ret_bool (by rw [HV.out]; simp [h60]), rfl⟩
end Go.Proofs.YtanofnhiopagaaaDoor
