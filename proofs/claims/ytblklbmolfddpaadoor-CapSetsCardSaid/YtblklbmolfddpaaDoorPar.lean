/- Contracts of Parse, of the package and of the reference. -/
import Derived.Test.YtblklbmolfddpaaDoorNam
namespace Go.Proofs.YtblklbmolfddpaaDoor
open Go.RowKit

theorem size_names : nameCells.size = 12 := rfl
theorem info50 : (Tryd.prog.info? 50).map (·.size) = some 12 := by kernel_rfl
theorem run_size9 (w : World) : (sizeOf 9).run Tryd.prog w = .ok 1 w := by kernel_rfl
theorem idx50 (k : Nat) (hk : k < 12) (w : World) : (Instr.index 50 (.agg nameCells) (.int .i64 k)).run Tryd.prog w = .ok (.string (str (nameAt k))) w := by
  have hc := nameCells_at k hk
  simp [Instr.index, run_underlying Tryd.underlying50, go_sem, run_size9, hc, hk]

/-- The first name from k on that is s. -/
def parseFrom : Nat → Nat → ByteArray → Int × Int
  | 0, _, _ => (0, 5)
  | n + 1, k, s => if 0 < k ∧ ((str (nameAt k)).toList == s.toList) = true then (k, 0) else parseFrom n (k + 1) s
def parseV (s : ByteArray) : Int × Int := parseFrom 12 0 s
theorem parse_step (n k : Nat) (s : ByteArray) (h : ¬ (0 < k ∧ ((str (nameAt k)).toList == s.toList) = true)) : parseFrom (n + 1) k s = parseFrom n (k + 1) s := if_neg h
theorem parse_hit (n k : Nat) (s : ByteArray) (h : 0 < k ∧ ((str (nameAt k)).toList == s.toList) = true) : parseFrom (n + 1) k s = ((k : Int), 0) := if_pos h

set_option maxRecDepth 100000 in
set_option maxHeartbeats 800000 in
theorem parse_any (s : ByteArray) (w : World) (hG : GNam w) :
    Calls Tryd.prog 9 #[.string s] w fun e w' => e = .returned (.tuple #[.int .i64 (parseV s).1, .int .i64 (parseV s).2]) ∧ w = w' := by
  obtain ⟨t, fr, hg⟩ := hG
  go_enter Tryd.func9, Tryd.ntmps9
  go_wp2_with (first | (refine wpList_load_row rfl 50 _ rfl 0 rfl t nameCells fr (.array 12 9) hg Tryd.underlying50 rfl (by rw [info50, size_names]) ?_))
  clear hg
  go_loop [7] (fun i => ∃ k : Nat, k ≤ 12 ∧ i = .int .i64 k ∧ Hid (parseV s = parseFrom (12 - k) k s)) (fun i => 12 - (intOf i).toNat)
  case atStart => exact ⟨0, Nat.zero_le _, rfl, rfl⟩
  case round =>
    obtain ⟨k, hk, rfl, hr⟩ := hrel
    by_cases hlt : k < 12
    · have hix := fun W => idx50 k hlt W
      by_cases hk0 : k = 0
      · subst hk0
        have hr' : Hid (parseV s = parseFrom (12 - (0 + 1)) (0 + 1) s) := rfl
        have hix : ∀ W, (Instr.index 50 (.agg nameCells) (.int .i64 0)).run Tryd.prog W = .ok (.string (str (nameAt 0))) W := fun W => idx50 0 hlt W
        clear hr
        go_wp2_with (first | go_in)
        go_round
        case rel => exact ⟨1, by omega, rfl, hr'⟩
        case measure => simp [intOf]
      · have hk1 : (0 : Int) < k := by omega
        have hk2 : 0 < k := by omega
        cases hq : ((str (nameAt k)).toList == s.toList) with
        | true =>
          have hr' : Hid (parseV s = ((k : Int), 0)) := by
            rw [hr.out, show 12 - k = (11 - k) + 1 from by omega]
            exact parse_hit _ k s ⟨hk2, hq⟩
          clear hr hk0
          go_wp2_with (first | go_in)
          go_ret2
          exact ⟨by rw [hr'.out]; try rfl, rfl⟩
        | false =>
          have hr' : Hid (parseV s = parseFrom (12 - (k + 1)) (k + 1) s) := by
            rw [hr.out, show 12 - k = (12 - (k + 1)) + 1 from by omega]
            exact parse_step _ k s (fun h => by rw [h.2] at hq; cases hq)
          clear hr hk0
          go_wp2_with (first | go_in)
          go_round
          case rel => exact ⟨k + 1, by omega, by go_num, hr'⟩
          case measure => simp [intOf]; omega
    · obtain rfl : k = 12 := by omega
      have hr' : Hid (parseV s = (0, 5)) := hr
      clear hr
      go_wp2
      go_ret2
      exact ⟨by rw [hr'.out]; try rfl, rfl⟩

set_option maxRecDepth 100000 in
set_option maxHeartbeats 800000 in
theorem r_parse (s : ByteArray) (w : World) (W : World) (hB : Bel w W) :
    Calls Tryd.prog 10 #[.string s] W fun e w' => e = .returned (.tuple #[.int .i64 (parseV s).1, .int .i64 (parseV s).2]) ∧ Bel w w' := by
  have N := Lib.hid (fun (k : Nat) (hk : k < 12) (W' : World) (hB : Bel w W') => ((r_name k W').mono fun _ _ ⟨he, hb⟩ => ⟨he.trans (by rw [name_in k hk]), hB.step hb⟩ : Calls Tryd.prog 12 #[.int .i64 k] W' fun e w' => e = .returned (.string (str (nameAt k))) ∧ Bel w w'))
  have hr0 : Hid (parseV s = parseFrom (12 - 1) 1 s) := rfl
  go_enter Tryd.func10, Tryd.ntmps10
  go_wp2
  go_loopw [4] (fun i wr => ∃ k : Nat, 1 ≤ k ∧ k ≤ 12 ∧ i = .int .i64 k ∧ Hid (parseV s = parseFrom (12 - k) k s) ∧ Bel w wr) (fun i _ => 12 - (intOf i).toNat)
  case atStart => exact ⟨1, Nat.le_refl _, by omega, rfl, hr0, hB⟩
  case round =>
    clear hr0 hB
    obtain ⟨k, hk2, hk, rfl, hr, hB⟩ := hrel
    by_cases hlt : k < 12
    · have hlt' : (k : Int) ≤ 11 := by omega
      have N1 := Lib.hid (N.out k hlt wr hB)
      clear N hB
      cases hq : ((str (nameAt k)).toList == s.toList) with
      | true =>
        have hr' : Hid (parseV s = ((k : Int), 0)) := by
          rw [hr.out, show 12 - k = (11 - k) + 1 from by omega]
          exact parse_hit _ k s ⟨hk2, hq⟩
        clear hr
        go_wp2_with fail
        refine N1.out.mono ?_
        rintro e w1 ⟨rfl, hB1⟩
        go_wp2_with fail
        go_ret2
        exact ⟨by rw [hr'.out]; try rfl, hB1⟩
      | false =>
        have hr' : Hid (parseV s = parseFrom (12 - (k + 1)) (k + 1) s) := by
          rw [hr.out, show 12 - k = (12 - (k + 1)) + 1 from by omega]
          exact parse_step _ k s (fun h => by rw [h.2] at hq; cases hq)
        clear hr
        go_wp2_with fail
        refine N1.out.mono ?_
        rintro e w1 ⟨rfl, hB1⟩
        go_wp2_with fail
        go_roundw
        case rel => exact ⟨k + 1, by omega, by omega, by go_num, hr', hB1⟩
        case measure => simp [intOf]; omega
    · obtain rfl : k = 12 := by omega
      have hr' : Hid (parseV s = (0, 5)) := hr
      clear hr
      go_wp2
      go_ret2
      exact ⟨by rw [hr'.out]; try rfl, hB⟩
end Go.Proofs.YtblklbmolfddpaaDoor
