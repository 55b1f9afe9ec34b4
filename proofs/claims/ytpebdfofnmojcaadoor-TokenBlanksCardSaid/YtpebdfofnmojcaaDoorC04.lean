/- Part 4 of the proof: Blc, Bld, Laid, Lad. -/
import Derived.Test.YtpebdfofnmojcaaDoorC03
import Derived.Deep.DeepCutAuto
import Derived.Test.YtpebdfofnmojcaaDoorRows
import Derived.Lib.LaidU8T
import Derived.Shelf.Vars
import Derived.ProofKit
/- Contract: the function of the statement TokenBlanks, where the text is one of tokens. -/
namespace Go.Proofs.YtpebdfofnmojcaaDoor
open Go.RowKit Go.Maps Go.WideMaps

theorem moved_bare (d : Nat) (l : List Tok) : (l.map (Tok.moved d)).map Tok.bare = l.map Tok.bare := by
  rw [List.map_map]
  rfl
theorem scan_ins {l : List UInt8} {n K : Nat} {toks : List Tok} (h : scanG n l 0 true = some (toks, none)) (hK : K < toks.length) (j : Nat) :
    ∃ toks', scanG ((ins l (blankOf j) toks[K].pos).length + 1) (ins l (blankOf j) toks[K].pos) 0 true = some (toks', none) ∧ toks'.length = toks.length ∧ toks.map Tok.bare = toks'.map Tok.bare ∧
      ∀ i, (h1 : i < toks.length) → (h2 : i < toks'.length) → toks'[i].line = if i = K then (toks[i].line || nlOf j) else toks[i].line := by
  have R := scanR_of l n 0 true toks h
  have e : toks = toks.take K ++ toks[K] :: toks.drop (K + 1) := by
    rw [List.getElem_cons_drop, List.take_append_drop]
  obtain ⟨t, ht⟩ : ∃ t, toks[K] = t := ⟨_, rfl⟩
  rw [ht] at e ⊢
  have hl : (toks.take K).length = K := by simp; omega
  generalize toks.take K = A at *
  generalize toks.drop (K + 1) = B at *
  subst e
  have hm := (scanR_mid R).2
  have I := scanR_ins (nl := nlOf j) (blankOf_stop j) (fun ln hs => blanks_ins l t.pos (by omega) j ln hs) R
  refine ⟨_, scanG_of _ _ _ _ _ I (by omega), by simp, ?_, ?_⟩
  · rw [List.map_append, List.map_append, List.map_cons, List.map_cons, moved_bare]
    rfl
  · intro i h1 h2
    rcases Nat.lt_trichotomy i K with g | g | g
    · rw [if_neg (by omega), List.getElem_append_left (by omega), List.getElem_append_left (by omega)]
    · subst g
      rw [if_pos rfl, List.getElem_append_right (by omega), List.getElem_append_right (by omega)]
      simp [hl]
    · rw [if_neg (by omega), List.getElem_append_right (by omega), List.getElem_append_right (by omega)]
      obtain ⟨d, hd⟩ : ∃ d, i - A.length = d + 1 := ⟨i - A.length - 1, by omega⟩
      simp [hd, Tok.moved]
/-- The blank, as a string. -/
def blankS (j : Nat) : ByteArray := ⟨(blankOf j).toArray⟩
theorem blankS_size (j : Nat) : (blankS j).size ≤ 19 := by
  match j with
  | 0 => decide
  | 1 => decide
  | 2 => decide
  | 3 => decide
  | 4 => decide
  | j + 5 => show ([32] : List UInt8).toArray.size ≤ 19; decide
theorem blankS_feed (j : Nat) : decide (0 ≤ Lib.indexByte (blankS j).data.toList 10) = nlOf j := by
  match j with
  | 0 => decide
  | 1 => decide
  | 2 => decide
  | 3 => decide
  | 4 => decide
  | j + 5 => show decide (0 ≤ Lib.indexByte [32] 10) = false; decide
theorem six_blanks (j : Nat) (hj : j < 6) (h : j < [Value.string ⟨#[32]⟩, .string ⟨#[10]⟩, .string ⟨#[9, 13]⟩, .string ⟨#[32, 47, 42, 32, 97, 32, 47, 42, 32, 98, 32, 42, 47, 32, 99, 32, 42, 47, 32]⟩, .string ⟨#[32, 47, 47, 32, 120, 10]⟩, .string ⟨#[32]⟩].length) :
    [Value.string ⟨#[32]⟩, .string ⟨#[10]⟩, .string ⟨#[9, 13]⟩, .string ⟨#[32, 47, 42, 32, 97, 32, 47, 42, 32, 98, 32, 42, 47, 32, 99, 32, 42, 47, 32]⟩, .string ⟨#[32, 47, 47, 32, 120, 10]⟩, .string ⟨#[32]⟩][j] = .string (blankS j) := by
  match j, hj with
  | 0, _ => rfl
  | 1, _ => rfl
  | 2, _ => rfl
  | 3, _ => rfl
  | 4, _ => rfl
  | 5, _ => rfl
theorem ins_str (s : ByteArray) (j q : Nat) (_hq : q ≤ s.size) : (s.extract 0 q ++ blankS j ++ s.extract q s.size).data.toList = ins s.data.toList (blankOf j) q := by
  unfold ins blankS
  have e1 : (s.extract 0 q).data.toList = s.data.toList.take q := by rw [extract_list]; simp
  have e2 : (s.extract q s.size).data.toList = s.data.toList.drop q := rest_list s q
  rw [← e1, ← e2]
  simp

set_option maxRecDepth 100000 in
set_option maxHeartbeats 1600000 in
theorem blanksT_good (s : ByteArray) (n a : Nat) (J : Nat) (w : World) (hs : s.size ≤ 500) (hn : n < 65536) (ha : (a : Int) % 6 = (J : Int)) (hJ : J < 6) (hG : Glob w) {toks : List Tok} (hr : scanG (s.size + 1) s.data.toList 0 true = some (toks, none)) (h0 : toks.length ≠ 0) : Calls Tryd.prog 6 #[.string s, .int .u16 n, .int .u16 (a : Int)] w fun e w' => e = .returned (.bool true) ∧ w.grownBy w' none := by
  have AW := Lib.hid (fun W hG => awake_any W hG)
  have HG := Lib.hid hG
  have S := Lib.hid (Scan_gen s w (by omega) hG (by omega) hr)
  have hlen := scanG_len _ _ _ _ _ hr
  simp only at hlen
  have HP := Lib.hid (scan_pos hr)
  obtain ⟨K, hK⟩ : ∃ K : Nat, (n : Int) % (toks.length : Int) = (K : Int) := ⟨n % toks.length, by omega⟩
  have hKl : K < toks.length := by have := Int.emod_lt_of_pos (n : Int) (show (0 : Int) < toks.length by omega); omega
  obtain ⟨toks', hI, hl', hb', hL⟩ := scan_ins hr hKl J
  have HI := Lib.hid hI
  have HB := Lib.hid hb'
  have HL := Lib.hid hL
  have i1 : (s.size : Int) ≤ 500 := by omega
  have i2 : (toks.length : Int) ≤ 500 := by omega
  have j5 : (K : Int) < toks.length := by omega
  have j6 : (0 : Int) ≤ K := by omega
  have j7 : ((toks.length : Int) == 0) = false := by simpa using h0
  have k1 : (J : Int) < 6 := by omega
  have k2 : (0 : Int) ≤ J := by omega
  have SB := six_blanks J hJ
  clear hG hs hr hI hb' hL
  go_enter Tryd.func6, Tryd.ntmps6
  go_wp2_with fail
  refine S.out.mono ?_
  rintro e w1 ⟨g1, v, rfl, hrow⟩
  have TI := toksIn_row hrow
  have HT := Lib.hid TI

  obtain ⟨p, cap, rfl, F⟩ := toksIn_form TI
  have ic : (toks.length : Int) ≤ cap := by have := toksIn_cap TI; omega
  have HG1 := Lib.hid (HG.out.grown g1 (fun k h => by cases h))
  obtain ⟨g, rfl, hgl, c⟩ := F (by omega)
  have hp := HP.out K hKl
  rw [len_list] at hp
  have HC := Lib.hid c
  have a2 : w1.cell? ⟨g, K * 4 + 2, none⟩ = some (.int .i64 toks[K].pos) := c K 2 hKl (by decide) _ rfl
  obtain ⟨q, hq⟩ : ∃ q, toks[K].pos = q := ⟨_, rfl⟩
  rw [hq] at a2 hp HI
  have j3 : (q : Int) ≤ s.size := by omega
  have j4 : (0 : Int) ≤ q := by omega
  have hz := ins_len s.data.toList (blankOf J) q (by rw [len_list]; omega)
  rw [len_list] at hz
  have hbz : (blankOf J).length ≤ 19 := blankS_size J
  have E := ins_str s J q (by omega)
  have NF := Lib.hid (blankS_feed J)
  have hBz := blankS_size J
  obtain ⟨x1, hx1⟩ : ∃ x, s.extract 0 q = x := ⟨_, rfl⟩
  obtain ⟨x2, hx2⟩ : ∃ x, s.extract q s.size = x := ⟨_, rfl⟩
  have z1 : x1.size ≤ 500 := by rw [← hx1, ← len_list, extract_list]; simp; omega
  have z2 : x2.size ≤ 500 := by rw [← hx2, rest_size]; omega
  rw [hx1, hx2] at E
  obtain ⟨B, hB⟩ : ∃ B, blankS J = B := ⟨_, rfl⟩
  rw [hB] at E SB NF hBz
  have X := HI.out
  rw [← E, len_list] at X
  have hz2 : (x1 ++ B ++ x2).size ≤ 600 := by rw [← len_list, E, hz]; omega
  have SC := Lib.hid (fun W hG => Scan_gen (x1 ++ B ++ x2) W (by omega) hG (by omega) X)
  have b1 : ¬ 9223372036854775807 < x1.size + B.size := by omega
  have b2 : ¬ 9223372036854775807 < x1.size + B.size + x2.size := by omega
  clear TI hrow F c hz hbz E z1 z2 hBz X hB hz2
  go_upto_region 7 with fail
  rw [hK]
  clear hK
  go_cut [13, 14, 15] (fun s13 s14 s15 wx => s15 = .int .i64 0 ∧ w1.grownBy wx none ∧ ToksIn wx s13 toks')
  case first =>
    go_region_with (go_at_call 18; refine (SC.out _ (HG1.out.grown (row := none) (by repeat (first | exact grown_alloc _ _ _ | refine grown_drew' ?_)) (fun k h => by cases h))).mono ?_; rintro e w2 ⟨g2, v2, rfl, r2⟩)
    all_goals
      have T2 := toksIn_row r2
      have gg : w1.grownBy w2 none := World.grownBy.trans (by repeat (first | exact grown_alloc _ _ _ | refine grown_drew' ?_)) g2
      clear r2 g2
      go_wp2_with fail
      go_meet
      exact ⟨rfl, gg, T2⟩
  case rest =>
    obtain ⟨rfl, g2, T2⟩ := hcut
    have T1 := toksIn_grown HT.out g2
    have HT2 := Lib.hid T2
    obtain ⟨p', cap', rfl, F'⟩ := toksIn_form T2
    obtain ⟨g', rfl, -, c'⟩ := F' (by omega)
    have HC' := Lib.hid c'
    clear F' c' HT2
    rw [hl'] at T2 ⊢
    have HT2 := Lib.hid T2
    have SA := Lib.hid (same_any _ _ _ _ wc (by omega) T1 T2 HB.out)
    have HL' := Lib.hid hl'
    have HG2 := Lib.hid (HG1.out.grown g2 (fun k h => by cases h))
    clear T1 T2 SC hx1 hx2 a2 SB b1 b2 hl'
    go_wp2_with (go_at_call 20; refine SA.out.mono ?_; rintro e w3 ⟨rfl, g3⟩)
    have CN0 := fun W => tryd_contains B W
    rw [NF.out] at CN0
    have CN := Lib.hid (fun W => (CN0 W).mono (R' := fun e w' => e = .returned (.bool (nlOf J)) ∧ W = w') fun _ _ h => ⟨h.1, h.2.symm⟩)
    clear CN0
    generalize nlOf J = nl at *
    have g23 := g2.trans g3
    have hKK := Lib.hid hKl
    have HLn := HL
    clear SA hp hKl hgl hq hlen NF
    go_loopw [75] (fun i wr => ∃ k : Nat, k ≤ toks.length ∧ i = .int .i64 k ∧ w3.grownBy wr none) (fun i _ => toks.length - (intOf i).toNat)
    case atStart => exact ⟨0, Nat.zero_le _, rfl, World.grownBy.refl _ _⟩
    case round =>
      obtain ⟨k, hk, rfl, hgr⟩ := hrel
      by_cases hlt : k < toks.length
      · have a3 : wr.cell? ⟨g, k * 4 + 3, none⟩ = some (.bool toks[k].line) := hgr.cell (g23.cell (HC.out k 3 hlt (by decide) _ rfl) (by simp)) (by simp)
        have b3 : wr.cell? ⟨g', k * 4 + 3, none⟩ = some (.bool (toks'[k]'(by have := HL'.out; omega)).line) := hgr.cell (g3.cell (HC'.out k 3 (by have := HL'.out; omega) (by decide) _ rfl) (by simp)) (by simp)
        rw [HLn.out k hlt (by have := HL'.out; omega)] at b3
        have j1 : (k : Int) < toks.length := by omega
        have j2 : (0 : Int) ≤ k := by omega
        generalize toks[k].line = x at *
        by_cases hkK : k = K
        · rw [if_pos hkK] at b3
          have d1 : ((k : Int) != (K : Int)) = false := by simp; omega
          have d2 : ((k : Int) == (K : Int)) = true := by simp; omega
          have n1 : (k != K) = false := by simp; omega
          have n2 : (k == K) = true := by simp; omega
          clear hkK
          cases x
          · cases nl
            all_goals
              go_wp2_with fail
              go_quiet ((go_at_call 21; exact quiet_w (CN.out _)))
              go_wp2_with fail
              go_roundw
              case rel => exact ⟨k + 1, by omega, by go_num, hgr.trans (grown_drewN wr nq none)⟩
              case measure => simp [intOf]; omega
          · go_wp2_with fail
            go_quiet (fail)
            go_wp2_with fail
            go_roundw
            case rel => exact ⟨k + 1, by omega, by go_num, hgr.trans (grown_drewN wr nq none)⟩
            case measure => simp [intOf]; omega
        · rw [if_neg hkK] at b3
          have d1 : ((k : Int) != (K : Int)) = true := by simp; omega
          have d2 : ((k : Int) == (K : Int)) = false := by simp; omega
          have n1 : (k != K) = true := by simp; omega
          have n2 : (k == K) = false := by simp; omega
          clear hkK
          cases x
          all_goals
            go_wp2_with fail
            go_quiet (fail)
            go_wp2_with fail
            go_roundw
            case rel => exact ⟨k + 1, by omega, by go_num, hgr.trans (grown_drewN wr nq none)⟩
            case measure => simp [intOf]; omega
      · obtain rfl : k = toks.length := by omega
        go_wp2_with (go_at_call 8; refine (AW.out _ ((HG2.out.grown g3 (fun k h => by cases h)).grown hgr (fun k h => by cases h))).mono ?_; rintro e w4 ⟨rfl, g4⟩)
        go_ret
        exact ⟨rfl, ((g1.trans g23).trans hgr).trans g4⟩
end Go.Proofs.YtpebdfofnmojcaaDoor

/- Contract: the function of the statement TokenBlanks, over every text. -/
namespace Go.Proofs.YtpebdfofnmojcaaDoor
open Go.RowKit Go.Maps Go.WideMaps

set_option maxRecDepth 100000 in
set_option maxHeartbeats 1600000 in
theorem blanksT_long (s : ByteArray) (n a : Nat) (w : World) (hs : 500 < s.size) (hG : Glob w) : Calls Tryd.prog 6 #[.string s, .int .u16 n, .int .u16 (a : Int)] w fun e w' => e = .returned (.bool true) ∧ w.grownBy w' none := by
  have AW := Lib.hid (fun W hG => awake_any W hG)
  have HG := Lib.hid hG
  have S : ∃ a c : Int, Hid (Calls Tryd.prog 18 #[.string s] w fun e w' => w.grownBy w' none ∧ ∃ v, e = .returned (.tuple #[v, .int .i64 a, .int .i64 c])) := by
    by_cases h : 20000 < s.size
    · refine ⟨0, 16, Lib.hid ((Scan_large s w h).mono ?_)⟩
      rintro e w' ⟨rfl, rfl⟩
      exact ⟨World.grownBy.refl _ _, _, rfl⟩
    · obtain ⟨⟨toks, o⟩, hr⟩ := scanG_total s.data.toList (s.size + 1) 0 true (by omega) (by rw [len_list]; omega)
      cases o with
      | none =>
        refine ⟨0, 0, Lib.hid ((Scan_gen s w (by omega) hG (by omega) hr).mono ?_)⟩
        rintro e w' ⟨h1, v, rfl, -⟩
        exact ⟨h1, v, rfl⟩
      | some p =>
        refine ⟨p.1, p.2, Lib.hid ((Scan_fails s w (by omega) hG (by omega) hr).mono ?_)⟩
        rintro e w' ⟨h1, rfl⟩
        exact ⟨h1, _, rfl⟩
  obtain ⟨at_, c, S⟩ := S
  have i1 : (500 : Int) < s.size := by omega
  clear hG hs
  go_enter Tryd.func6, Tryd.ntmps6
  go_wp2_with fail
  refine S.out.mono ?_
  rintro e w1 ⟨g1, v, rfl⟩
  have HG1 := Lib.hid (HG.out.grown g1 (fun k h => by cases h))
  go_wp2_with fail
  refine (AW.out _ HG1.out).mono ?_
  rintro e w2 ⟨rfl, g2⟩
  go_wp2_with fail
  go_ret
  exact ⟨rfl, g1.trans g2⟩

set_option maxRecDepth 100000 in
set_option maxHeartbeats 1600000 in
theorem blanksT_bad (s : ByteArray) (n a : Nat) (w : World) (hs : s.size ≤ 500) (hG : Glob w) {toks : List Tok} {p : Nat × Int} (hr : scanG (s.size + 1) s.data.toList 0 true = some (toks, some p)) : Calls Tryd.prog 6 #[.string s, .int .u16 n, .int .u16 (a : Int)] w fun e w' => e = .returned (.bool true) ∧ w.grownBy w' none := by
  have AW := Lib.hid (fun W hG => awake_any W hG)
  have HG := Lib.hid hG
  have S := Lib.hid (Scan_fails s w (by omega) hG (by omega) hr)
  have hc := scanG_code _ _ _ _ _ _ hr
  obtain ⟨p, c⟩ := p
  simp only at hc S
  have i1 : (s.size : Int) ≤ 500 := by omega
  have i4 : (c == 0) = false := by simpa using hc
  have i5 : (c != 0) = true := by simpa using hc
  clear hG hs hr
  go_enter Tryd.func6, Tryd.ntmps6
  go_wp2_with fail
  refine S.out.mono ?_
  rintro e w1 ⟨g1, rfl⟩
  have HG1 := Lib.hid (HG.out.grown g1 (fun k h => by cases h))
  go_wp2_with (go_at_call 8; refine (AW.out _ HG1.out).mono ?_; rintro e w2 ⟨rfl, g2⟩)
  go_ret
  exact ⟨rfl, g1.trans g2⟩

set_option maxRecDepth 100000 in
set_option maxHeartbeats 1600000 in
theorem blanksT_empty (s : ByteArray) (n a : Nat) (w : World) (hs : s.size ≤ 500) (hG : Glob w) (hr : scanG (s.size + 1) s.data.toList 0 true = some ([], none)) : Calls Tryd.prog 6 #[.string s, .int .u16 n, .int .u16 (a : Int)] w fun e w' => e = .returned (.bool true) ∧ w.grownBy w' none := by
  have AW := Lib.hid (fun W hG => awake_any W hG)
  have HG := Lib.hid hG
  have S := Lib.hid (Scan_gen s w (by omega) hG (by omega) hr)
  have i1 : (s.size : Int) ≤ 500 := by omega
  clear hG hs hr
  go_enter Tryd.func6, Tryd.ntmps6
  go_wp2_with fail
  refine S.out.mono ?_
  rintro e w1 ⟨g1, v, rfl, hrow⟩
  obtain ⟨p, cap, rfl, -⟩ := toksIn_form (toksIn_row hrow)
  have HG1 := Lib.hid (HG.out.grown g1 (fun k h => by cases h))
  simp only [List.length_nil]
  clear hrow
  go_wp2_with (go_at_call 8; refine (AW.out _ HG1.out).mono ?_; rintro e w2 ⟨rfl, g2⟩)
  go_ret
  exact ⟨rfl, g1.trans g2⟩

theorem blanksT_bel (s : ByteArray) (n a : Int) (w : World) (hn : 0 ≤ n ∧ n < 65536) (ha : 0 ≤ a ∧ a < 65536) (hG : Glob w) : Calls Tryd.prog 6 #[.string s, .int .u16 n, .int .u16 a] w fun e w' => e = .returned (.bool true) ∧ Below w.heap.size w w' := by
  obtain ⟨n, rfl⟩ := Int.eq_ofNat_of_zero_le hn.1
  obtain ⟨a, rfl⟩ := Int.eq_ofNat_of_zero_le ha.1
  have C : Calls Tryd.prog 6 #[.string s, .int .u16 n, .int .u16 (a : Int)] w fun e w' => e = .returned (.bool true) ∧ w.grownBy w' none := by
    by_cases hs : 500 < s.size
    · exact blanksT_long s n a w hs hG
    · obtain ⟨⟨toks, o⟩, hr⟩ := scanG_total s.data.toList (s.size + 1) 0 true (by omega) (by rw [len_list]; omega)
      cases o with
      | some p => exact blanksT_bad s n a w (by omega) hG hr
      | none =>
        cases toks with
        | nil => exact blanksT_empty s n a w (by omega) hG hr
        | cons t ts => exact blanksT_good s n a (a % 6) w (by omega) (by omega) (by omega) (Nat.mod_lt _ (by decide)) hG hr (by simp)
  exact C.mono fun _ _ ⟨h1, h2⟩ => ⟨h1, below_of_grown h2⟩
end Go.Proofs.YtpebdfofnmojcaaDoor

/- What the listed variables hold gives what the contracts ask of the world. -/
namespace Go.Proofs.YtpebdfofnmojcaaDoor
open Go.RowKit Go.Lib

theorem cells_of_strs {H : Type} {enc : TypeId × Value → H} {P : Program} {w : World} {base : Nat} {sp : Nat → Bool} {held : Bool} {fuel : Nat} {t e : TypeId} {n : Nat} {cs : List Value} {l : List (List UInt8)} {p : List MemPlace}
    (ht : P.underlying t = some (.array n e)) (he : P.underlying e = some .string) (hce : P.cellsOf e = 1) (_ : P.cellsOf t = n) (hln : l.length = n)
    (h : DataW.trod enc P w base sp held fuel t cs = some (.agg (l.map fun x => .lit (.string x)), p)) (hcl : cs.length = n) : cs = l.map fun x => Value.string (str x) := by
  apply List.ext_getElem?
  intro i
  by_cases hi : i < n
  · obtain ⟨f', d, q, hd, hf⟩ := array_elem ht h i hi
    rw [hce, Nat.mul_one] at hf
    obtain ⟨s, hc, hx, _⟩ := DataW.trod_string he hf
    have h1 : cs[i]? = some (.string s) := by
      have := congrArg (·[0]?) hc
      simpa [List.getElem?_take, List.getElem?_drop] using this
    have hil : i < l.length := by omega
    simp only [List.getElem?_map, List.getElem?_eq_getElem hil, Option.map_some, Option.some.injEq] at hd
    subst hd
    simp only [Prod.mk.injEq, DataW.lit.injEq, Lit.string.injEq] at hx
    rw [h1]
    simp only [List.getElem?_map, List.getElem?_eq_getElem hil, Option.map_some]
    rw [hx.1]
    rfl
  · rw [List.getElem?_eq_none (by omega), List.getElem?_eq_none (by simp; omega)]

theorem block_of_reads {w : World} {name : String} {g t : Nat} {n : Nat} {l : List (List UInt8)} (hg : Tryd.prog.globalNamed name = some g) (hty : (Tryd.prog.globals[g]?).map (·.type) = some t)
    (ht : Tryd.prog.underlying t = some (.array n 9)) (hce : Tryd.prog.cellsOf 9 = 1) (hct : Tryd.prog.cellsOf t = n) (hln : l.length = n)
    (h : VarReads Tryd.prog w name (.agg (l.map fun x => .lit (.string x)))) : ∃ t fr, w.heap[g]? = some (.cells (cellsOfL l) t fr) := by
  obtain ⟨g', t', cs, fuel, p, hg', hty', hvar, hd⟩ := h
  obtain rfl := Option.some.inj (hg.symm.trans hg')
  obtain rfl := Option.some.inj (hty.symm.trans hty')
  have hcl : cs.toList.length = n := by
    cases fuel with
    | zero => simp [DataW.trod] at hd
    | succ fuel =>
      simp only [DataW.trod, ht, hce, hct, Nat.mul_one] at hd
      split at hd
      · rename_i hl; simpa using hl
      · cases hd
  have hcs := cells_of_strs ht Tryd.underlying9 hce hct hln hd hcl
  unfold World.var? at hvar
  rw [hg] at hvar
  simp only [Option.bind_some] at hvar
  split at hvar
  · rename_i cs' t' fr heq
    cases hvar
    have e : cs = cellsOfL l := Array.toList_inj.1 (by rw [hcs]; unfold cellsOfL; rw [List.toList_toArray])
    exact ⟨t', fr, by rw [heq, e]⟩
  · cases hvar

set_option maxRecDepth 1000000 in
theorem kw_data : (Rows.laid_hackamore_token_keywords : DataW Unit) = .agg (kwBytes.map fun x => .lit (.string x)) := by kernel_rfl
set_option maxRecDepth 1000000 in
theorem sym_data : (Rows.laid_hackamore_token_symbols : DataW Unit) = .agg (symBytes.map fun x => .lit (.string x)) := by kernel_rfl
set_option maxRecDepth 1000000 in
theorem acc_data : (Rows.laid_unicode_utf8_acceptRanges : DataW Unit) = acceptData := by kernel_rfl
set_option maxRecDepth 1000000 in
theorem first_data : Rows.laid_unicode_utf8_first = firstData := by kernel_rfl

set_option maxRecDepth 1000000 in
theorem glob_of_laid {W : World} (h : laidMetH Tryd.prog Rows.tokenNamesRow.laid W) (hm : ∃ m, W.cell? ⟨4, 0, none⟩ = some (.int .i64 m)) : Glob W := by
  have hL : laidMet Tryd.prog [("unicode/utf8.acceptRanges", Rows.laid_unicode_utf8_acceptRanges), ("hackamore/token.keywords", Rows.laid_hackamore_token_keywords), ("hackamore/token.symbols", Rows.laid_hackamore_token_symbols), ("unicode/utf8.first", Rows.laid_unicode_utf8_first)] W := h
  have r1 := laidMet.reads hL (.head _)
  have r2 := laidMet.reads hL (.tail _ (.head _))
  have r3 := laidMet.reads hL (.tail _ (.tail _ (.head _)))
  have r4 := laidMet.reads hL (.tail _ (.tail _ (.tail _ (.head _))))
  rw [acc_data] at r1
  rw [kw_data] at r2
  rw [sym_data] at r3
  rw [first_data] at r4
  exact ⟨block_of_reads (g := 0) (t := 44) (n := 51) (by kernel_rfl) (by kernel_rfl) Tryd.underlying44 (by kernel_rfl) (by kernel_rfl) kw_len r2,
    block_of_reads (g := 1) (t := 45) (n := 43) (by kernel_rfl) (by kernel_rfl) Tryd.underlying45 (by kernel_rfl) (by kernel_rfl) sym_len r3,
    utf8Tabs_of_readsT (U8Types.of196 Tryd.laysValid) ⟨by kernel_rfl, by kernel_rfl, by kernel_rfl, by kernel_rfl, by kernel_rfl, by kernel_rfl, by kernel_rfl⟩ r4 r1, hm⟩
end Go.Proofs.YtpebdfofnmojcaaDoor

/- The tables and the variable of the library, as a row's world has them; a witness. -/
namespace Go.Proofs.YtpebdfofnmojcaaDoor
open Go.RowKit

set_option maxRecDepth 1000000 in
theorem glob_shaped {W : World} (h : laidMetH Tryd.prog Rows.tokenNamesRow.laid W) (hS : W.ShapedOpen Tryd.prog) : Glob W :=
  glob_of_laid h (cell_of_shapedOpen_int (g := 4) (t := 3) (zero := #[.int .i64 0]) hS (by decide +kernel) (by kernel_rfl) rfl (by kernel_rfl) (by kernel_rfl) Tryd.underlying3)
theorem own : ownKnob Tryd.prog.godebug = none := by kernel_rfl

/-- The witness: the settled world, the four variables holding what their initialisers lay. -/
noncomputable def laidWorld (os : Os) : World :=
  let w0 := World.holding Tryd.prog os ⟨#[], #[], []⟩
  let put (h : Array Obj) (g : Nat) (cs : Array Value) : Array Obj := h.modify g fun
    | .cells _ t frozen => .cells cs t frozen
    | o => o
  let h1 := put w0.heap 0 (cellsOfL kwBytes)
  let h2 := put h1 1 (cellsOfL symBytes)
  let h3 := put h2 2 (Lib.firstTab.map fun z => Value.int .u8 z).toArray
  let h4 := put h3 3 ((List.range 16).flatMap fun i => [Value.int .u8 (Lib.accLo i), Value.int .u8 (Lib.accHi i)]).toArray
  { w0 with heap := h4 }
end Go.Proofs.YtpebdfofnmojcaaDoor
