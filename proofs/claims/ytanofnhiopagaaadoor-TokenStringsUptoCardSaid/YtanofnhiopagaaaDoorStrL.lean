/- Contracts: Scan over two literals; the function of the statement TokenStrings. -/
import Derived.Test.YtanofnhiopagaaaDoorLit
import Derived.Test.YtanofnhiopagaaaDoorLaw
namespace Go.Proofs.YtanofnhiopagaaaDoor
open Go.RowKit Go.Maps Go.WideMaps

theorem reads_lit {s : ByteArray} {k : Nat} (hs : s.size ≤ 20000) (l X : List UInt8) (hd : s.data.toList.drop k = qs l ++ 34 :: X) (hv : Lib.validD l = true) (hp : hasPre (s.data.toList.drop k) [34, 34, 34] = false) {k2 : Nat} (hk2 : k2 = k + (qs l).length + 1)
    {text : ByteArray} (ht : (⟨l.toArray⟩ : ByteArray) = text) : Reads s k k2 5 text := by
  subst hk2 ht
  intro W b m T c hb hm hc' hM
  obtain ⟨hk, h0⟩ := byte_drop s k 34 _ (by rw [hd]; rfl)
  rw [hc' hk] at h0
  subst h0
  exact read_str (Q := fun w' => Scn w' b s (k + (qs l).length + 1 : Nat) false (.map (some m)) T ∧ W.grownBy w' (some b)) hM.box ⟨l.toArray⟩ (str_lit b hb s k false (.map (some m)) T W (by omega) (by omega) hM.scn hM.glob l X hd hv hp)

theorem blanks_34 (l : List UInt8) (k n : Nat) (ln : Bool) (Y : List UInt8) (hd : l.drop k = 34 :: Y) : blanksF (n + 1) l k ln = some (k, ln) := by
  have hk : k < l.length := by
    have := congrArg List.length hd
    simp at this; omega
  have hb : byteV l k = 34 := by
    have := byteV_drop l k 0
    rw [Nat.add_zero] at this
    rw [this, hd]; rfl
  unfold blanksF
  rw [if_neg (by omega), if_neg (by omega), if_neg (by omega), hd]
  rfl
theorem blanks_32 (l : List UInt8) (k n : Nat) (ln : Bool) (Y : List UInt8) (hd : l.drop k = 32 :: Y) : blanksF (n + 1) l k ln = blanksF n l (k + 1) ln := by
  have hk : k < l.length := by
    have := congrArg List.length hd
    simp at this; omega
  have hb : byteV l k = 32 := by
    have := byteV_drop l k 0
    rw [Nat.add_zero] at this
    rw [this, hd]; rfl
  conv => lhs; unfold blanksF
  rw [if_neg (by omega), if_neg (by omega), if_pos (by omega)]
theorem blanks_end (l : List UInt8) (k n : Nat) (ln : Bool) (hk : l.length ≤ k) : blanksF (n + 1) l k ln = some (k, ln) := by
  unfold blanksF; rw [if_pos hk]

theorem pre3 (l X : List UInt8) (hX : ∀ y Y, X = y :: Y → y ≠ 34) : hasPre (qs l ++ 34 :: X) [34, 34, 34] = false := by
  unfold qs hasPre
  cases l with
  | nil =>
    cases X with
    | nil => rfl
    | cons y Y =>
      have h := hX y Y rfl
      have h2 : ((34 : UInt8) == y) = false := by simpa using fun e : (34 : UInt8) = y => h e.symm
      simp [List.isPrefixOf, h2]
  | cons c l =>
    obtain ⟨x, y, e, hx⟩ := qb_head c
    have h2 : ((34 : UInt8) == x) = false := by simpa using fun e : (34 : UInt8) = x => hx e.symm
    rw [List.flatMap_cons, e]
    simp [List.isPrefixOf, h2]

theorem chain_two (S s t : ByteArray) (hS : S.data.toList = qs s.data.toList ++ 34 :: 32 :: (qs t.data.toList ++ [34])) (hs : S.size ≤ 20000) (hv1 : Lib.validD s.data.toList = true) (hv2 : Lib.validD t.data.toList = true) :
    Chain S 0 true [⟨5, s, 0, true⟩, ⟨5, t, (qs s.data.toList).length + 2, false⟩] := by
  have hlen := congrArg List.length hS
  simp only [List.length_append, List.length_cons, List.length_nil, len_list] at hlen
  have hq := qs_len s.data.toList
  have D0 : S.data.toList.drop 0 = qs s.data.toList ++ 34 :: 32 :: (qs t.data.toList ++ [34]) := by rw [List.drop_zero, hS]
  have D1 : S.data.toList.drop ((qs s.data.toList).length + 1) = 32 :: (qs t.data.toList ++ [34]) := by rw [hS, ← List.drop_drop]; simp
  have D2 : S.data.toList.drop ((qs s.data.toList).length + 2) = qs t.data.toList ++ [34] := by
    rw [show (qs s.data.toList).length + 2 = ((qs s.data.toList).length + 1) + 1 from rfl, ← List.drop_drop, D1]; rfl
  refine ⟨by omega, 1, (qs s.data.toList).length + 1, blanks_34 _ _ _ _ _ (by rw [D0]; rfl), by show 0 < S.size; omega, ?_, by omega, 2, S.size, ?_, by show (qs s.data.toList).length + 2 < S.size; omega, ?_, Nat.le_refl _, 1, false, ?_⟩
  · exact reads_lit hs s.data.toList (32 :: (qs t.data.toList ++ [34])) D0 hv1 (by rw [D0]; exact pre3 _ _ (fun y Y e => by cases e; decide)) (by omega) (by cases s; simp)
  · rw [blanks_32 _ _ _ _ _ D1, blanks_34 _ _ _ _ _ (by rw [D2]; rfl)]
  · exact reads_lit hs t.data.toList [] D2 hv2 (by rw [D2]; exact pre3 _ _ (fun y Y e => by cases e)) (by omega) (by cases t; simp)
  · rw [blanks_end _ _ _ _ (by rw [len_list]; exact Nat.le_refl _)]

set_option maxRecDepth 100000 in
set_option maxHeartbeats 400000 in
theorem quote_bad' (s : ByteArray) (w : World) (hs : s.size ≤ 4000000000) (hT : Lib.Utf8Tabs 2 3 w) (hv : Lib.validD s.data.toList = false) :
    Calls Tryd.prog 9 #[.string s] w fun e w' => e = .returned (.tuple #[.string ⟨#[]⟩, .int .i64 2]) ∧ w.grownBy w' none := by
  have V0 := Tryd.utf8_ValidString s w (by omega) hT
  rw [hv] at V0
  have V := Lib.hid V0
  clear V0 hv
  go_enter Tryd.func9, Tryd.ntmps9
  go_wp2_with fail
  refine V.out.mono ?_
  rintro e w0 ⟨rfl, hb0⟩
  go_wp2_with fail
  go_ret2
  exact ⟨rfl, grown_of_below hb0 none⟩

set_option maxRecDepth 100000 in
set_option maxHeartbeats 400000 in
theorem quote_ok' (s : ByteArray) (w : World) (hs : s.size ≤ 4000000000) (hT : Lib.Utf8Tabs 2 3 w) (hv : Lib.validD s.data.toList = true) :
    Calls Tryd.prog 9 #[.string s] w fun e w' => e = .returned (.tuple #[.string ⟨(qs s.data.toList ++ [34]).toArray⟩, .int .i64 0]) ∧ w.grownBy w' none := by
  have V0 := Tryd.utf8_ValidString s w (by omega) hT
  rw [hv] at V0
  have V := Lib.hid V0
  have Q := Lib.hid (fun W => quoted_any s W (by omega))
  clear V0 hv
  go_enter Tryd.func9, Tryd.ntmps9
  go_wp2_with fail
  refine V.out.mono ?_
  rintro e w0 ⟨rfl, hb0⟩
  go_wp2_with fail
  refine (Q.out _).mono ?_
  rintro e w1 ⟨rfl, hg⟩
  go_wp2_with fail
  go_ret2
  exact ⟨rfl, (grown_of_below hb0 none).trans hg⟩

theorem quote_both (s : ByteArray) (hs : s.size ≤ 4000000000) : ∃ (q : ByteArray) (k : Int), Hid (∀ W, Lib.Utf8Tabs 2 3 W → Calls Tryd.prog 9 #[.string s] W fun e w' => e = .returned (.tuple #[.string q, .int .i64 k]) ∧ W.grownBy w' none) ∧
    ((k = 0 ∧ Lib.validD s.data.toList = true ∧ q.data.toList = qs s.data.toList ++ [34]) ∨ k = 2) := by
  cases hv : Lib.validD s.data.toList with
  | false => exact ⟨_, _, Lib.hid (fun W hT => quote_bad' s W hs hT hv), .inr rfl⟩
  | true => exact ⟨_, _, Lib.hid (fun W hT => quote_ok' s W hs hT hv), .inl ⟨rfl, rfl, rfl⟩⟩

set_option maxRecDepth 100000 in
set_option maxHeartbeats 1600000 in
theorem strings_any (s t : ByteArray) (w : World) (hs : s.size ≤ 4000000000) (ht : t.size ≤ 4000000000) (hG : Glob w) : Calls Tryd.prog 7 #[.string s, .string t] w fun e w' => e = .returned (.bool true) ∧ w.grownBy w' none := by
  have AW := Lib.hid (fun W hG => awake_any W hG)
  have HG := Lib.hid hG
  obtain ⟨p, k1, Q1, K1⟩ := quote_both s hs
  obtain ⟨q, k2, Q2, K2⟩ := quote_both t ht
  have K1' := Lib.hid K1
  have K2' := Lib.hid K2
  clear hG K1 K2
  go_enter Tryd.func7, Tryd.ntmps7
  go_wp2_with fail
  refine (Q1.out _ HG.out.u8).mono ?_
  rintro e w1 ⟨rfl, g1⟩
  have HG1 := Lib.hid (HG.out.grown g1 (fun k h => by cases h))
  go_wp2_with fail
  refine (Q2.out _ HG1.out.u8).mono ?_
  rintro e w2 ⟨rfl, g2⟩
  have HG2 := Lib.hid (HG1.out.grown g2 (fun k h => by cases h))
  have g2' := g1.trans g2
  clear Q1 Q2
  by_cases h1 : s.size > 500
  · have i1 : (500 : Int) < s.size := by omega
    clear h1
    go_wp2_with fail
    refine (AW.out _ HG2.out).mono ?_
    rintro e w' ⟨rfl, hg⟩
    go_wp2_with fail
    go_ret
    exact ⟨rfl, g2'.trans hg⟩
  have i1 : ¬ (500 : Int) < s.size := by omega
  by_cases h2 : t.size > 500
  · have i2 : (500 : Int) < t.size := by omega
    clear h1 h2
    go_wp2_with fail
    refine (AW.out _ HG2.out).mono ?_
    rintro e w' ⟨rfl, hg⟩
    go_wp2_with fail
    go_ret
    exact ⟨rfl, g2'.trans hg⟩
  have i2 : ¬ (500 : Int) < t.size := by omega
  rcases K1'.out with ⟨rfl, v1, e1⟩ | rfl
  · rcases K2'.out with ⟨rfl, v2, e2⟩ | rfl
    · have z1 := congrArg List.length e1
      have z2 := congrArg List.length e2
      have y1 := qs_len s.data.toList
      have y2 := qs_len t.data.toList
      simp only [List.length_append, List.length_cons, List.length_nil, len_list] at z1 z2 y1 y2
      have b1 : ¬ 9223372036854775807 < p.size + 1 := by omega
      have b2 : ¬ 9223372036854775807 < p.size + 1 + q.size := by omega
      have hS : (p ++ ByteArray.mk #[32] ++ q).data.toList = qs s.data.toList ++ 34 :: 32 :: (qs t.data.toList ++ [34]) := by
        simp [e1, e2]
      have hz : (p ++ ByteArray.mk #[32] ++ q).size ≤ 20000 := by
        rw [← len_list, hS]; simp; omega
      have SC := Lib.hid (Scan_chain (p ++ ByteArray.mk #[32] ++ q) w2 hz HG2.out _ (by simp) (chain_two _ s t hS hz v1 v2))
      clear e1 e2 v1 v2 hS hz z1 z2 y1 y2 h1 h2 K1' K2'
      go_wp2_with fail
      refine SC.out.mono ?_
      rintro e w3 ⟨v, rfl, hr, g3⟩
      obtain ⟨g, cap, rfl, hb, hl, hc⟩ := row_at hr (by simp)
      have HG3 := Lib.hid (HG2.out.grown g3 (fun k h => by cases h))
      have a0 := hc 0 _ rfl
      have a1 := hc 1 _ rfl
      have a4 := hc 4 _ rfl
      have a5 := hc 5 _ rfl
      have g3' := g2'.trans g3
      simp only [List.length_cons, List.length_nil]
      clear hc hr hb hl SC
      go_wp2_with fail
      refine (AW.out _ HG3.out).mono ?_
      rintro e w4 ⟨rfl, g4⟩
      go_wp2_with fail
      go_ret
      exact ⟨rfl, g3'.trans g4⟩
    · clear h1 h2
      go_wp2_with fail
      refine (AW.out _ HG2.out).mono ?_
      rintro e w' ⟨rfl, hg⟩
      go_wp2_with fail
      go_ret
      exact ⟨rfl, g2'.trans hg⟩
  · clear h1 h2
    go_wp2_with fail
    refine (AW.out _ HG2.out).mono ?_
    rintro e w' ⟨rfl, hg⟩
    go_wp2_with fail
    go_ret
    exact ⟨rfl, g2'.trans hg⟩
end Go.Proofs.YtanofnhiopagaaaDoor
