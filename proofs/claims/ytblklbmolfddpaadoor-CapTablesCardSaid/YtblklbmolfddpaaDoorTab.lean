/- Contract of the statement's own function CapTables. -/
import Derived.Test.YtblklbmolfddpaaDoorRefD
namespace Go.Proofs.YtblklbmolfddpaaDoor
open Go.RowKit

set_option maxRecDepth 100000 in
set_option maxHeartbeats 3200000 in
theorem tables_any (a m b o : Int) (s : ByteArray) (w : World) (hV : GViews w) (hF : GFits w) (hN : GNam w) (hM : GMem w) :
    Calls Tryd.prog 3 #[.int .i64 a, .int .i64 m, .int .i64 b, .int .i64 o, .string s] w fun e w' => e = .returned (.bool true) ∧ Bel w w' := by
  have P1 := Lib.hid (fun (W : World) (h : Bel w W) => parse_any s W (hN.below h))
  have P2 := Lib.hid (fun (W : World) (h : Bel w W) => r_parse s w W h)
  have N1 := Lib.hid (fun (W : World) (h : Bel w W) => name_any a W (hN.below h))
  have N2 := Lib.hid (fun (W : World) (h : Bel w W) => ((r_name a W).mono fun _ _ ⟨he, hb⟩ => ⟨he, h.step hb⟩ : Calls Tryd.prog 12 #[.int .i64 a] W fun e w' => e = .returned (.string (str (nameV a))) ∧ Bel w w'))
  have I1 := Lib.hid (is_any a)
  have I2 := Lib.hid (r_is a)
  have M1 := Lib.hid (fun (W : World) (h : Bel w W) => members_any a W (hM.below h))
  have M2 := Lib.hid (fun (W : World) => r_members a W)
  have R1 := Lib.hid (reads_any a)
  have R2 := Lib.hid (r_reads a)
  have W1 := Lib.hid (writes_any a)
  have W2 := Lib.hid (r_writes a)
  have S1 := Lib.hid (send_any a)
  have S2 := Lib.hid (r_send a)
  have B1 := Lib.hid (sub_bel w hF a b)
  have B2 := Lib.hid (r_sub a b)
  have F1 := Lib.hid (fits_bel w hF a m b o)
  have F2 := Lib.hid (r_fits a m b o)
  have A1 := Lib.hid (alias_any a m)
  have A2 := Lib.hid (r_alias a m)
  have C1 := Lib.hid (consumed_any a m)
  have C2 := Lib.hid (r_consumed a m)
  have V1 := Lib.hid (recover_any a)
  have V2 := Lib.hid (r_recover a)
  have AW := Lib.hid (awake_bel w hV hF)
  have hlen : (membersV a).length ≤ 1000 := by
    unfold membersV
    split
    · exact Nat.le_trans (memL_len _ _) (by omega)
    · simp
  have EQ := Lib.hid (fun v1 v2 W h1 h2 => equal_ints v1 v2 (membersV a) W hlen h1 h2)
  have B0 := Bel.refl w
  clear hV hF hN hM hlen
  revert P1 P2 N1 N2 I1 I2 M1 M2 R1 R2 W1 W2 S1 S2 B1 B2 F1 F2 A1 A2 C1 C2 V1 V2 EQ
  generalize (parseV s).1 = p1
  generalize (parseV s).2 = p2
  generalize str (nameV a) = n1
  generalize capB a = i1
  generalize membersV a = l
  generalize readsB a = r1
  generalize writesB a = w1
  generalize sendB a = s1
  generalize fitsB a 1 b 0 = b1
  generalize fitsB a m b o = f1
  generalize (aliasV a m).1 = a1
  generalize (aliasV a m).2 = a2
  generalize (consumedV a m).1 = c1
  generalize (consumedV a m).2 = c2
  generalize (recoverV a).1 = v1
  generalize (recoverV a).2 = v2
  intro P1 P2 N1 N2 I1 I2 M1 M2 R1 R2 W1 W2 S1 S2 B1 B2 F1 F2 A1 A2 C1 C2 V1 V2 EQ
  go_enter Tryd.func3, Tryd.ntmps3
  go_wp2_with (first
    | ((with_reducible refine (P1.out _ (by assumption)).mono ?_); rintro e w' ⟨rfl, rfl⟩)
    | ((with_reducible refine (P2.out _ (by assumption)).mono ?_); rintro e w' ⟨rfl, B3⟩)
    | ((with_reducible refine (N1.out _ (by assumption)).mono ?_); rintro e w' ⟨rfl, rfl⟩)
    | ((with_reducible refine (N2.out _ (by assumption)).mono ?_); rintro e w' ⟨rfl, B4⟩)
    | ((with_reducible refine (I1.out _).mono ?_); rintro e w' ⟨rfl, rfl⟩)
    | ((with_reducible refine (I2.out _).mono ?_); rintro e w' ⟨rfl, rfl⟩)
    | fail)
  refine (M1.out _ (by assumption)).mono ?_
  rintro e w5 ⟨x1, rfl, J1, K1⟩
  have K5 := Bel.step (by assumption) K1
  go_wp2_with fail
  refine (M2.out _).mono ?_
  rintro e w6 ⟨x2, rfl, J2, K2⟩
  have K6 := Bel.step K5 K2
  have E1 := Lib.hid (EQ.out x1 x2 w6 (J1.below K2) J2)
  clear J1 J2 K1 K2 K5 EQ
  go_wp2_with fail
  refine E1.out.mono ?_
  rintro e w7 ⟨rfl, K3⟩
  have K7 := Bel.step K6 K3
  clear E1 K3 K6
  go_wp2_with (first
    | ((with_reducible refine (R1.out _).mono ?_); rintro e w' ⟨rfl, rfl⟩)
    | ((with_reducible refine (R2.out _).mono ?_); rintro e w' ⟨rfl, rfl⟩)
    | ((with_reducible refine (W1.out _).mono ?_); rintro e w' ⟨rfl, rfl⟩)
    | ((with_reducible refine (W2.out _).mono ?_); rintro e w' ⟨rfl, rfl⟩)
    | ((with_reducible refine (S1.out _).mono ?_); rintro e w' ⟨rfl, rfl⟩)
    | ((with_reducible refine (S2.out _).mono ?_); rintro e w' ⟨rfl, rfl⟩)
    | ((with_reducible refine (B1.out _ (by assumption)).mono ?_); rintro e w8 ⟨rfl, K8⟩)
    | ((with_reducible refine (B2.out _).mono ?_); rintro e w' ⟨rfl, rfl⟩)
    | ((with_reducible refine (F1.out _ (by assumption)).mono ?_); rintro e w9 ⟨rfl, K9⟩)
    | ((with_reducible refine (F2.out _).mono ?_); rintro e w' ⟨rfl, rfl⟩)
    | ((with_reducible refine (A1.out _).mono ?_); rintro e w' ⟨rfl, rfl⟩)
    | ((with_reducible refine (A2.out _).mono ?_); rintro e w' ⟨rfl, rfl⟩)
    | ((with_reducible refine (C1.out _).mono ?_); rintro e w' ⟨rfl, rfl⟩)
    | ((with_reducible refine (C2.out _).mono ?_); rintro e w' ⟨rfl, rfl⟩)
    | ((with_reducible refine (V1.out _).mono ?_); rintro e w' ⟨rfl, rfl⟩)
    | ((with_reducible refine (V2.out _).mono ?_); rintro e w' ⟨rfl, rfl⟩)
    | ((with_reducible refine (AW.out _ (by assumption)).mono ?_); rintro e w10 ⟨rfl, K10⟩))
  go_ret
  exact ⟨rfl, by assumption⟩
end Go.Proofs.YtblklbmolfddpaaDoor
