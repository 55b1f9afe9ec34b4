/- Contracts: strings.HasPrefix, longest. -/
import Derived.Test.YtanofnhiopagaaaDoorScan1
import Derived.Test.YtanofnhiopagaaaDoorTables
namespace Go.Proofs.YtanofnhiopagaaaDoor
open Go.RowKit

theorem prefix_spec (l t : List UInt8) (h : t.length ≤ l.length) : (l.take t.length == t) = t.isPrefixOf l := by
  induction t generalizing l with
  | nil => simp
  | cons x t ih =>
    cases l with
    | nil => simp at h
    | cons y l => simp [List.isPrefixOf, ← ih l (by simpa using h), Bool.beq_comm (a := x) (b := y)]
theorem prefix_long (l t : List UInt8) (h : l.length < t.length) : t.isPrefixOf l = false := by
  cases e : t.isPrefixOf l with
  | false => rfl
  | true => have := (List.isPrefixOf_iff_prefix.1 e).length_le; omega
theorem extract_list (s : ByteArray) (a b : Nat) : (s.extract a b).data.toList = (s.data.toList.drop a).take (b - a) := by
  simp [ByteArray.data_extract, List.extract_eq_drop_take']
theorem toList_data (s : ByteArray) : s.toList = s.data.toList := by
  simp [ByteArray.toList_eq]

set_option maxHeartbeats 400000 in
theorem prefix_in (s t : ByteArray) (w : World) (hs : s.size ≤ maxLen) (ht : t.size ≤ maxLen) :
    Calls Tryd.prog 68 #[.string s, .string t] w fun e w' => e = .returned (.bool (hasPre s.data.toList t.data.toList)) ∧ w = w' := by
  unfold maxLen at hs ht
  go_enter Tryd.func68, Tryd.ntmps68
  by_cases hle : t.size ≤ s.size
  · go_wp2
    go_ret
    exact ⟨ret_bool (by unfold hasPre; rw [← prefix_spec _ _ (by simpa using hle), toList_data, toList_data, extract_list]; simp), rfl⟩
  · go_wp2
    go_ret
    exact ⟨ret_bool (by unfold hasPre; rw [prefix_long _ _ (by simpa using hle)]), rfl⟩
set_option maxHeartbeats 400000 in
theorem prefix_any (s t : ByteArray) (w : World) (hs : s.size ≤ maxLen) (ht : t.size ≤ maxLen) :
    Calls Tryd.prog 54 #[.string s, .string t] w fun e w' => e = .returned (.bool (hasPre s.data.toList t.data.toList)) ∧ w = w' := by
  go_enter Tryd.func54, Tryd.ntmps54
  go_wp2_with (first | (go_at_call 68; refine (prefix_in _ _ _ hs ht).mono ?_; rintro e w' ⟨rfl, rfl⟩))
  go_ret
  exact ⟨rfl, rfl⟩

theorem quiet_w {P : Program} {f : FuncId} {args : Array Value} {w : World} {n : Nat} {v : Value}
    (h : Calls P f args (w.drewN n) fun e w' => e = .returned v ∧ w.drewN n = w') : Calls P f args (w.drewN n) fun e w'' => e = .returned v ∧ ∃ m, w'' = w.drewN m :=
  h.mono fun _ _ ⟨he, hm⟩ => ⟨he, n, hm.symm⟩
theorem sym_facts : ∀ k : Fin 43, 0 < (symAt k.1).length ∧ (symAt k.1).length ≤ 10 := by decide +kernel
def bestAt (l : List UInt8) (a k : Nat) : List UInt8 := longestIn l a (symBytes.take k)
theorem bestAt_step (l : List UInt8) (a k : Nat) (hk : k < 43) : bestAt l a (k + 1) = symStep l a (bestAt l a k) (symAt k) := by
  unfold bestAt
  rw [List.take_add_one, List.getElem?_eq_getElem (show k < symBytes.length by rw [sym_len]; exact hk)]
  simp only [Option.toList]
  rw [longestIn_snoc]
  simp [symAt, List.getD, List.getElem?_eq_getElem (show k < symBytes.length by rw [sym_len]; exact hk)]
theorem bestAt_len (l : List UInt8) (a k : Nat) (hk : k ≤ 43) : (bestAt l a k).length ≤ 10 := by
  induction k with
  | zero => simp [bestAt, longestIn]
  | succ k ih =>
    rw [bestAt_step l a k (by omega)]
    unfold symStep
    split
    · exact (sym_facts ⟨k, by omega⟩).2
    · exact ih (by omega)

set_option maxRecDepth 100000 in
set_option maxHeartbeats 800000 in
theorem longest_any (b : Nat) (s : ByteArray) (a : Nat) (ln : Bool) (M T : Value) (w : World) (hs : s.size ≤ 4000000000) (ha : a ≤ s.size) (h : Scn w b s a ln M T) (hG : GSym w) :
    Calls Tryd.prog 49 #[.pointer (some ⟨b, 0, none⟩)] w fun e w' => e = .returned (.string (str (bestAt s.data.toList a 43))) ∧ ∃ n, w' = w.drewN n := by
  obtain ⟨t, fr, hg⟩ := hG
  have h0 := h.c0
  have h1 := h.c1
  go_enter Tryd.func49, Tryd.ntmps49
  go_wp2_with (first | (refine wpList_load_row rfl 45 _ rfl 1 rfl t (cellsOfL symBytes) fr (.array 43 9) hg Tryd.underlying45 rfl (by rw [info45, size_sym]) ?_))
  clear hg
  go_loopw [3, 7] (fun v i wr => ∃ k : Nat, k ≤ 43 ∧ i = .int .i64 k ∧ v = .string (str (bestAt s.data.toList a k)) ∧ ∃ n, wr = w.drewN n) (fun _ i _ => 43 - (intOf i).toNat)
  case atStart => exact ⟨0, Nat.zero_le _, rfl, rfl, 0, rfl⟩
  case round =>
    obtain ⟨k, hk, rfl, rfl, n, rfl⟩ := hrel
    by_cases hlt : k < 43
    · have hi := fun W => idx45' k hlt W
      have hf := sym_facts ⟨k, hlt⟩
      have hb := bestAt_len s.data.toList a k hk
      have hst := Lib.hid (bestAt_step s.data.toList a k hlt)
      generalize bestAt s.data.toList a k = best at *
      generalize symAt k = sy at *
      have z1 := str_size best
      have z2 := str_size sy
      have hsc : Scn (w.drewN n) b s a ln M T := h.drewN n
      have e0 := hsc.c0
      have e1 := hsc.c1
      clear h0 h1 h
      obtain ⟨W, hW⟩ : ∃ W, W = w.drewN n := ⟨_, rfl⟩
      rw [← hW] at hsc e0 e1 ⊢
      have HW := Lib.hid hW
      clear hW
      have P1 : ∀ m, Calls Tryd.prog 54 #[.string (s.extract a s.size), .string (str sy)] (W.drewN m) fun e w' => e = .returned (.bool (hasPre (s.data.toList.drop a) sy)) ∧ W.drewN m = w' := fun m => by
        have e : (s.extract a s.size).data.toList = s.data.toList.drop a := by rw [extract_list]; exact List.take_of_length_le (by simp)
        have := prefix_any (s.extract a s.size) (str sy) (W.drewN m) (by unfold maxLen; rw [← len_list, e]; simp; omega) (by unfold maxLen; omega)
        rwa [e, str_list] at this
      have P2 : ∀ m, Calls Tryd.prog 61 #[.pointer (some ⟨b, 0, none⟩), .string (str sy)] (W.drewN m) fun e w' => e = .returned (.bool (goesOnB s.data.toList a sy)) ∧ W.drewN m = w' := fun m =>
        goesOn_any b s (str sy) a ln M T _ (by unfold maxLen; omega) (by omega) (by omega) ha (hsc.drewN m) hs
      by_cases hl : best.length < sy.length
      · have hl' : decide ((best.length : Int) < (sy.length : Int)) = true := by simpa using hl
        cases hp : hasPre (s.data.toList.drop a) sy with
        | true =>
          rw [hp] at P1
          cases hq : goesOnB s.data.toList a sy with
          | true =>
            rw [hq] at P2
            have P1' := Lib.hid P1
            have P2' := Lib.hid P2
            clear P1 P2
            have hst' := hst.out
            rw [symStep, if_neg (by simp [hp, hq])] at hst'
            have HS := Lib.hid hst'
            clear hst hst' hp hq
            go_wp2
            go_quiet ((first | (go_at_call 54; exact quiet_w (P1'.out _)) | (go_at_call 61; exact quiet_w (P2'.out _))))
            go_wp2
            go_roundw
            case rel => exact ⟨k + 1, by omega, by go_num, by rw [HS.out], _, by rw [HW.out, World.drewN_drewN]⟩
            case measure => simp [intOf]; omega
          | false =>
            rw [hq] at P2
            have P1' := Lib.hid P1
            have P2' := Lib.hid P2
            clear P1 P2
            have hst' := hst.out
            rw [symStep, if_pos ⟨hl, hp, hq⟩] at hst'
            have HS := Lib.hid hst'
            clear hst hst' hp hq
            go_wp2
            go_quiet ((first | (go_at_call 54; exact quiet_w (P1'.out _)) | (go_at_call 61; exact quiet_w (P2'.out _))))
            go_wp2
            go_roundw
            case rel => exact ⟨k + 1, by omega, by go_num, by rw [HS.out], _, by rw [HW.out, World.drewN_drewN]⟩
            case measure => simp [intOf]; omega
        | false =>
          rw [hp] at P1
          have P1' := Lib.hid P1
          clear P1 P2
          have hst' := hst.out
          rw [symStep, if_neg (by simp [hp])] at hst'
          have HS := Lib.hid hst'
          clear hst hst' hp
          go_wp2
          go_quiet ((first | (go_at_call 54; exact quiet_w (P1'.out _))))
          go_wp2
          go_roundw
          case rel => exact ⟨k + 1, by omega, by go_num, by rw [HS.out], _, by rw [HW.out, World.drewN_drewN]⟩
          case measure => simp [intOf]; omega
      · have hl' : decide ((best.length : Int) < (sy.length : Int)) = false := by simpa using hl
        clear P1 P2
        have hst' := hst.out
        rw [symStep, if_neg (by simp [hl])] at hst'
        have HS := Lib.hid hst'
        clear hst hst'
        go_wp2
        go_quiet (fail)
        go_wp2
        go_roundw
        case rel => exact ⟨k + 1, by omega, by go_num, by rw [HS.out], _, by rw [HW.out, World.drewN_drewN]⟩
        case measure => simp [intOf]; omega
    · obtain rfl : k = 43 := by omega
      go_wp2
      go_ret
      exact ⟨rfl, n, rfl⟩
end Go.Proofs.YtanofnhiopagaaaDoor
