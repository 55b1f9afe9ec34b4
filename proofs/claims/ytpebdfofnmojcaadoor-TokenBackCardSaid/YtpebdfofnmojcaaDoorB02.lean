/- Part 2 of the proof: Spec2, Scan5, Sym, App, Rd, Rd2, Rec, Sca, Rcv, Scg, Shelf3, Blk, Bla, Rdx, Quo, Utf, Shelf2, Esc, Cdv, Lit, Cog, Esg, Syg. -/
import Derived.Test.YtpebdfofnmojcaaDoorB01
import Derived.StillTailTactics
import Derived.Deep.RegionWith
import Derived.Laws.EntriesVeiled
import Derived.Test.YtpebdfofnmojcaaDoorRows
import Derived.WalkKit
import Derived.Defers
import Derived.Recover
import Derived.BigQuiet
import Derived.OwnWalk
import Derived.Deep.Cut
import Derived.WalkLawsBesides
import Derived.Shelf.Strings.Search3
import Derived.Test.YtpebdfofnmojcaaDoorProg
import Derived.Lib.AppendStr
import Derived.Deep.RegionLaw
import Derived.Lib.MapLaws
import Derived.Lib.ValidLaws
import Derived.Shelf.Utf8.AppendRunePlain
import Derived.Shelf.Unicode.DecodeAny
import Derived.Laws.DeepBits32
/- More plain functions of the scanner. -/
namespace Go.Proofs.YtpebdfofnmojcaaDoor
open Go.Maps Go.WideMaps

/-- The longest symbol at a place. -/
def symOf (l : List UInt8) (k : Nat) : List UInt8 := bestAt l k 43
/-- Is it a keyword? -/
def isKw (l : List UInt8) : Bool := kwBytes.contains l
theorem kwSet_map (k : Nat) : IsMap (kwSet k) := by
  unfold kwSet
  exact (tidy_setOf _ _ (fun x hx => by
    obtain ⟨y, _, rfl⟩ := List.mem_map.1 hx
    exact trivial)).isMap
theorem kwSet_at (x : List UInt8) (k : Nat) (hk : k ≤ 51) : (kwSet k).atKey (.string x) (.lit (.bool false)) = .lit (.bool ((kwBytes.take k).contains x)) := by
  induction k with
  | zero => simp [kwSet, kwLits, setOf, DataW.atKey]
  | succ k ih =>
    have hlen : k < kwBytes.length := by rw [kw_len]; omega
    rw [kwSet_step k (by omega), List.take_add_one, List.getElem?_eq_getElem hlen]
    have e : kwAt k = kwBytes[k] := by simp [kwAt, List.getD, List.getElem?_eq_getElem hlen]
    by_cases hx : x = kwAt k
    · subst hx
      rw [atKey_put_same (kwSet_map k) (show WideAt.IsKeyLit (Lit.string (kwAt k)) from trivial)]
      have e2 : (kwBytes.take k ++ [kwBytes[k]]).contains (kwAt k) = true := by
        rw [List.contains_append, e]; simp only [List.contains_cons, beq_self_eq_true, Bool.true_or, Bool.or_true]
      simp only [Option.toList]
      rw [e2]
    · rw [atKey_put_other (by intro h; injection h with h; exact hx h), ih (by omega)]
      have h2 : (x == kwBytes[k]) = false := by rw [← e]; simpa using hx
      have e2 : (kwBytes.take k ++ [kwBytes[k]]).contains x = (kwBytes.take k).contains x := by
        rw [List.contains_append]; simp only [List.contains_cons, List.contains_nil, h2, Bool.or_false]
      simp only [Option.toList]
      rw [e2]
theorem kwSet_all (x : List UInt8) : (kwSet 51).atKey (.string x) (.lit (.bool false)) = .lit (.bool (isKw x)) := by
  rw [kwSet_at x 51 (by omega), List.take_of_length_le (by rw [kw_len]; omega)]
  rfl
theorem zero4 (w : World) : (zeroValue 4).run Tryd.prog w = .ok (.bool false) w := by kernel_rfl
theorem plainElem_bool_inv {P : Program} {t : TypeId} (he : P.underlying t = some .bool) {v : Value} {x : Bool} {ps : List MemPlace} (h : plainElem (H := Unit) P t v = some (.lit (.bool x), ps)) : v = .bool x := by
  unfold plainElem at h
  rw [he] at h
  cases v <;> simp at h
  rw [h.1]
/-- A look-up in the set of the keywords. -/
theorem kw_lookup {w : World} {m : Nat} (h : w.ownsMap Tryd.prog 9 (plainElem (H := Unit) Tryd.prog 4) m 51 (kwSet 51)) (x : ByteArray) (hx : x.size ≤ maxLen) :
    (Instr.lookup 63 (.map (some m)) (.string x) false).run Tryd.prog w = .ok (.bool (isKw x.data.toList)) w := by
  obtain ⟨v, ps, hrun, hv⟩ := h.lookup law9 Tryd.underlying63 (zero4 w) (plainElem_bool Tryd.underlying4 false) (keyOf_string_mk Tryd.underlying9 hx)
  rw [kwSet_all] at hv
  rw [hrun, plainElem_bool_inv Tryd.underlying4 hv]
end Go.Proofs.YtpebdfofnmojcaaDoor

/- Contracts: the closures of readers. -/
namespace Go.Proofs.YtpebdfofnmojcaaDoor
open Go.RowKit

def kwKind (l : List UInt8) : Int := if isKw l = true then 2 else 1
theorem grown_drew' {w w' : World} {row : Option Nat} (h : w.grownBy w' row) : w.grownBy w'.drew row := ⟨h.os, h.tape, h.output, h.size, h.block⟩
set_option maxRecDepth 100000 in
set_option maxHeartbeats 1000000 in
theorem word_any (b n : Nat) (s : ByteArray) (k : Nat) (ln : Bool) (m : Nat) (T : Value) (w : World) (hs : s.size ≤ 4000000000) (hk : k ≤ s.size) (hn : n ≠ b) (hm : m ≠ b) (h : Scn w b s k ln (.map (some m)) T)
    (hB : w.heap[n]? = some (.cells #[.pointer (some ⟨b, 0, none⟩)] 62 (0, 0)))
    (hM : w.ownsMap Tryd.prog 9 (plainElem (H := Unit) Tryd.prog 4) m 51 (kwSet 51)) :
    Calls Tryd.prog 47 #[.pointer (some ⟨n, 0, none⟩)] w fun e w' =>
      e = .returned (.tuple #[.int .i64 (kwKind ((s.data.toList.drop k).take (wordEnd s.data.toList k - k))), .string (s.extract k (wordEnd s.data.toList k))]) ∧ Scn w' b s (wordEnd s.data.toList k) ln (.map (some m)) T ∧ w.grownBy w' (some b) := by
  have cB : w.cell? ⟨n, 0, none⟩ = some (.pointer (some ⟨b, 0, none⟩)) := by simp [World.cell?, hB]
  have c0 := h.c0
  have c1 := h.c1
  have f1 := h.fz 1
  have W36 := fun W => wordEnd_any s k W (by unfold maxLen; omega) hk
  have hw1 := wordEnd_ge s.data.toList k
  have hw2 := wordEnd_le s.data.toList k (by simpa using hk)
  rw [len_list] at hw2
  generalize wordEnd s.data.toList k = we at *
  have W36' := Lib.hid W36
  have LK := kw_lookup hM (s.extract k we) (by unfold maxLen; rw [← len_list, extract_list]; simp; omega)
  have eL : (s.extract k we).data.toList = (s.data.toList.drop k).take (we - k) := extract_list _ _ _
  rw [eL] at LK
  clear W36 eL
  have i1 : (k : Int) ≤ (we : Int) := by omega
  have i2 : (we : Int) ≤ (s.size : Int) := by omega
  have hs1 := (h.set1 (we : Int)).drew
  have hg1 : w.grownBy (w.setCell ⟨b, 1, none⟩ (.int .i64 we)).drew (some b) := grown_drew' (grown_set b 1 _)
  have hm1 := (hM.kept hg1 (by simpa using hm))
  have hb1 : (w.setCell ⟨b, 1, none⟩ (.int .i64 we)).drew.heap[n]? = some (.cells #[.pointer (some ⟨b, 0, none⟩)] 62 (0, 0)) := (hg1.block n (Array.getElem?_eq_some_iff.1 hB).1 (by simpa using hn)).trans hB
  go_enter Tryd.func47, Tryd.ntmps47
  go_wp2
  go_region_with (go_at_call 36; refine (W36'.out _).mono ?_; rintro e w' ⟨rfl, rfl⟩)
  all_goals
    clear cB c0 c1 f1 h hB hM LK
    generalize (w.setCell ⟨b, 1, none⟩ (.int .i64 we)).drew = W1 at *
    have cB : W1.cell? ⟨n, 0, none⟩ = some (.pointer (some ⟨b, 0, none⟩)) := by simp [World.cell?, hb1]
    have c0 := hs1.c0
    have c1 := hs1.c1
    have c3 := hs1.c3
    have LK := fun q => kw_lookup (w := W1.drewN q) hm1 (s.extract k we) (by unfold maxLen; rw [← len_list, extract_list]; simp; omega)
    have eL : (s.extract k we).data.toList = (s.data.toList.drop k).take (we - k) := extract_list _ _ _
    rw [eL] at LK
    clear eL
    go_wp2
    go_quiet (fail)
    cases hk2 : isKw ((s.data.toList.drop k).take (we - k)) with
    | true =>
      rw [hk2] at LK
      have HK : Hid (kwKind ((s.data.toList.drop k).take (we - k)) = 2) := Lib.hid (by unfold kwKind; rw [if_pos hk2])
      clear hk2
      go_wp2
      go_ret2
      exact ⟨by rw [HK.out]; rfl, hs1.drewN _, hg1.trans (grown_drewN _ _ _)⟩
    | false =>
      rw [hk2] at LK
      have HK : Hid (kwKind ((s.data.toList.drop k).take (we - k)) = 1) := Lib.hid (by unfold kwKind; rw [hk2]; rfl)
      clear hk2
      go_wp2
      go_ret2
      exact ⟨by rw [HK.out]; rfl, hs1.drewN _, hg1.trans (grown_drewN _ _ _)⟩

set_option maxRecDepth 100000 in
set_option maxHeartbeats 1000000 in
theorem symbol_any (b n : Nat) (s : ByteArray) (k : Nat) (ln : Bool) (M T : Value) (w : World) (hs : s.size ≤ 4000000000) (hk : k ≤ s.size) (h : Scn w b s k ln M T) (hG : Glob w)
    (hB : w.heap[n]? = some (.cells #[.pointer (some ⟨b, 0, none⟩)] 62 (0, 0))) (hne : symOf s.data.toList k ≠ []) :
    Calls Tryd.prog 48 #[.pointer (some ⟨n, 0, none⟩)] w fun e w' =>
      e = .returned (.tuple #[.int .i64 6, .string (str (symOf s.data.toList k))]) ∧ Scn w' b s (k + (symOf s.data.toList k).length : Nat) ln M T ∧ w.grownBy w' (some b) := by
  have cB : w.cell? ⟨n, 0, none⟩ = some (.pointer (some ⟨b, 0, none⟩)) := by simp [World.cell?, hB]
  have hl : (symOf s.data.toList k).length ≤ 10 := bestAt_len _ _ _ (by omega)
  have LA := longest_any b s k ln M T w hs hk h hG.sym
  change Calls _ _ _ _ (fun e w' => e = .returned (.string (str (symOf s.data.toList k))) ∧ _) at LA
  generalize symOf s.data.toList k = sy at *
  have LA' := Lib.hid LA
  clear LA
  have z := str_size sy
  have hem : ((str sy).toList == ([] : List UInt8)) = false := by rw [toList_data, str_list]; simpa using hne
  go_enter Tryd.func48, Tryd.ntmps48
  go_wp2_with (first | (go_at_call 49; refine LA'.out.mono ?_; rintro e w1 ⟨rfl, q, rfl⟩; have hs1 := h.drewN q; have c1 := hs1.c1; have f1 := hs1.fz 1))
  go_ret2
  exact ⟨rfl, by simpa using hs1.set1 ((k : Int) + sy.length), (grown_drewN w q _).trans (grown_set b 1 _)⟩
end Go.Proofs.YtpebdfofnmojcaaDoor

/- Contracts: DecodeRuneInString and symbolic, over ASCII. -/
namespace Go.Proofs.YtpebdfofnmojcaaDoor
open Go.RowKit

set_option maxRecDepth 100000 in
set_option maxHeartbeats 400000 in
theorem decode_ascii (t : ByteArray) (c : UInt8) (w : World) (h1 : 0 < t.size) (h0 : t[0]'h1 = c) (hc : c.toNat < 128) :
    Calls Tryd.prog 77 #[.string t] w fun e w' => e = .returned (.tuple #[.int .i32 (c.toNat : Int), .int .i64 1]) ∧ w = w' := by
  have hne : t.toList.isEmpty = false := by
    rw [Lib.toList_data]
    cases h : t.data.toList with
    | nil => exact absurd (by rw [Lib.size_eq, h]; rfl) (Nat.ne_of_gt h1)
    | cons _ _ => rfl
  have hz0 : (0 : Int) < (t.size : Int) := by omega
  have haz : (c.toNat : Int) < 128 := by omega
  go_enter Tryd.func77, Tryd.ntmps77
  go_wp2
  go_ret2
  exact ⟨rfl, rfl⟩

theorem get_drop (s : ByteArray) (k : Nat) (hk : k < s.size) : ∃ h : 0 < (s.extract k s.size).size, (s.extract k s.size)[0]'h = s[k] := by
  refine ⟨by simp; omega, ?_⟩
  simp [ByteArray.getElem_extract]

set_option maxRecDepth 100000 in
set_option maxHeartbeats 400000 in
theorem symbolic_plain (b : Nat) (s : ByteArray) (k st : Nat) (ln : Bool) (M T : Value) (w : World) (hs : s.size ≤ 4000000000) (hk : k < s.size) (h : Scn w b s k ln M T)
    (c : UInt8) (h0 : s[k] = c) (hc : c.toNat < 128) (h10 : c.toNat ≠ 10) (h92 : c.toNat ≠ 92) :
    Calls Tryd.prog 66 #[.pointer (some ⟨b, 0, none⟩), .int .i64 st] w fun e w' =>
      e = .returned (.int .i32 (c.toNat : Int)) ∧ Scn w' b s (k + 1 : Nat) ln M T ∧ w.grownBy w' (some b) := by
  have i1 : (k : Int) < s.size := by omega
  have i2 : (s.size : Int) ≤ 4000000000 := by omega
  have i3 : (k : Int) ≤ s.size := by omega
  have c0 := h.c0
  have c1 := h.c1
  have f1 := h.fz 1
  obtain ⟨hp, hg⟩ := get_drop s k hk
  have D1 := Lib.hid (fun W => decode_ascii (s.extract k s.size) c W hp (hg.trans h0) hc)
  have j1 : ((c.toNat : Int) == 10) = false := by simp; omega
  have j2 : ((c.toNat : Int) == 92) = false := by simp; omega
  have j3 : ¬ (c.toNat : Int) = 65533 := by omega
  have SL : ∀ W, (Instr.sliceAt 9 (.string s) (some (.int .i64 (k : Int))) none none).run Tryd.prog W = .ok (.string (s.extract k s.size)) W := fun W => by
    rw [run_sliceAt_string W 9 _ _ _ _ Tryd.underlying9, run_slice_string_from_if W 9 s .i64 k Tryd.underlying9, if_pos ⟨by omega, i3⟩]; rfl
  clear hp hg
  go_enter Tryd.func66, Tryd.ntmps66
  go_wp2_with fail
  go_quiet (fail)
  go_wp2_with fail
  go_quiet (fail)
  go_wp2_with fail
  go_region_with (go_at_call 77; refine (D1.out _).mono ?_; rintro e w' ⟨rfl, rfl⟩)
  all_goals
    go_wp2_with fail
    go_ret
    exact ⟨rfl, by simpa using (h.drewN _).set1 ((k : Int) + 1), (grown_drewN _ _ _).trans (grown_set b 1 _)⟩

set_option maxRecDepth 100000 in
set_option maxHeartbeats 400000 in
theorem symbolic_65 (b : Nat) (s : ByteArray) (k st : Nat) (ln : Bool) (M T : Value) (w : World) (hs : s.size ≤ 4000000000) (hk : k + 4 ≤ s.size) (h : Scn w b s k ln M T)
    (h0 : s[k] = 92) (h1 : byteV s.data.toList (k + 1) = 120) (h2 : byteV s.data.toList (k + 2) = 52) (h3 : byteV s.data.toList (k + 3) = 49) :
    Calls Tryd.prog 66 #[.pointer (some ⟨b, 0, none⟩), .int .i64 st] w fun e w' =>
      e = .returned (.int .i32 65) ∧ Scn w' b s (k + 4 : Nat) ln M T ∧ w.grownBy w' (some b) := by
  have i1 : (k : Int) < s.size := by omega
  have hk1 : k < s.size := by omega
  have i2 : (s.size : Int) ≤ 4000000000 := by omega
  have c0 := h.c0
  have c1 := h.c1
  have E1 := Lib.hid (fun n => escape_65 b s k st ln M T (w.drewN n) hs hk (h.drewN n) h1 h2 h3)
  go_enter Tryd.func66, Tryd.ntmps66
  go_wp2_with fail
  go_quiet (fail)
  go_wp2_with fail
  go_quiet (fail)
  go_wp2_with fail
  refine (E1.out _).mono ?_
  rintro e w' ⟨rfl, hh, hg⟩
  go_wp2_with fail
  go_ret
  exact ⟨rfl, hh, (grown_drewN _ _ _).trans hg⟩
end Go.Proofs.YtpebdfofnmojcaaDoor

/- Contracts: AppendRune over ASCII; str at the string of awake. -/
namespace Go.Proofs.YtpebdfofnmojcaaDoor
open Go.RowKit


set_option maxRecDepth 100000 in
set_option maxHeartbeats 400000 in
theorem appendRune_ascii (B : Nat) (v : Value) (n : Nat) (xs : List Value) (c : Nat) (w : World) (hc : c < 128) (hn : n ≤ 1000000000) (hB : B ≤ w.heap.size) (hw : w.ownsRow B 5 1 v n xs) :
    Calls Tryd.prog 65 #[v, .int .i32 c] w fun e w' => ∃ v', e = .returned v' ∧ w'.ownsRow B 5 1 v' (n + 1) (xs ++ [.int .u8 c]) ∧ w.grownBy w' v.ownBlock := by
  have i1 : (c : Int) < 128 := by omega
  have i2 : (0 : Int) ≤ c := by omega
  obtain ⟨i0, hi, hz0, hz1', hz2⟩ := info_parts (P := Tryd.prog) (e := 5) (z := .int .u8 0) (size := 1) (bytes := 1) (by kernel_rfl)
  go_enter Tryd.func65, Tryd.ntmps65
  go_wp2_with (refine wpList_append_own _ rfl _ _ 46 rfl B 5 i0 (.int .u8 0) 1 1 Tryd.underlying46 hi hz0 hz1' hz2 rfl (by decide) v n xs rfl (hw.alloc _) ⟨w.heap.size, 0, none⟩ 1 1 [.int .u8 c] rfl rfl ?_ ?_ ?_ ?_ ?_ ?_)
  · intro j u hj
    match j, hj with
    | 0, hj => simp at hj; subst hj; simp [Addr.add]
    | (j + 1), hj => simp at hj
  · intro u hu; simp at hu; subst hu; rfl
  · unfold maxLen; omega
  · omega
  · simp; omega
  · intro v' w' hw' hg' _
    go_wp2
    go_ret
    exact ⟨v', rfl, hw', (grown_alloc w _ _).trans hg'⟩

theorem grown_own {w W W' : World} {b : Nat} {row : Option Nat} (h : w.grownBy W (some b)) (hg : W.grownBy W' row) (hr : ∀ q, row = some q → w.heap.size ≤ q) : w.grownBy W' (some b) :=
  ⟨hg.os.trans h.os, hg.tape.trans h.tape, hg.output.trans h.output, Nat.le_trans h.size hg.size, fun k hk hb => (hg.block k (Nat.lt_of_lt_of_le hk h.size) (fun e => by have := hr k e.symm; omega)).trans (h.block k hk hb)⟩

set_option maxRecDepth 100000 in
set_option maxHeartbeats 400000 in
theorem str_A (b : Nat) (s : ByteArray) (k : Nat) (ln : Bool) (M T : Value) (w : World) (hs : s.size ≤ 4000000000) (hk : k + 7 ≤ s.size) (h : Scn w b s k ln M T)
    (hp : hasPre (s.data.toList.drop k) [34, 34, 34] = false)
    (h1 : s[k + 1] = 97) (h2 : s[k + 2] = 92) (b1 : byteV s.data.toList (k + 1) = 97) (b2 : byteV s.data.toList (k + 2) = 92) (b3 : byteV s.data.toList (k + 3) = 120) (b4 : byteV s.data.toList (k + 4) = 52) (b5 : byteV s.data.toList (k + 5) = 49) (b6 : byteV s.data.toList (k + 6) = 34) :
    Calls Tryd.prog 52 #[.pointer (some ⟨b, 0, none⟩)] w fun e w' =>
      e = .returned (.string ⟨#[97, 65]⟩) ∧ Scn w' b s (k + 7 : Nat) ln M T ∧ w.grownBy w' (some b) := by
  have hbl := h.lt
  have c0 := h.c0
  have c1 := h.c1
  have f1 := h.fz 1
  have i1 : (k : Int) + 7 ≤ s.size := by omega
  have i2 : (s.size : Int) ≤ 4000000000 := by omega
  have P1 := Lib.hid (fun W => prefix_at s k ⟨#[34, 34, 34]⟩ W hs (by decide))
  have hp' : hasPre (s.data.toList.drop k) (ByteArray.mk #[34, 34, 34]).data.toList = false := hp
  rw [hp'] at P1
  have B := Lib.hid (fun (j : Nat) W (h : Scn W b s j ln M T) => byteAt_any b s j ln M T j W (by unfold maxLen; omega) h)
  have S1 := Lib.hid (fun W (h : Scn W b s (k + 1 : Nat) ln M T) => symbolic_plain b s (k + 1) k ln M T W hs (by omega) h 97 h1 (by decide) (by decide) (by decide))
  have S2 := Lib.hid (fun W (h : Scn W b s (k + 2 : Nat) ln M T) => symbolic_65 b s (k + 2) k ln M T W hs (by omega) h h2 b3 b4 b5)
  have A := Lib.hid (fun (v : Value) (n : Nat) (xs : List Value) (c : Nat) W hc hn hB hw => appendRune_ascii w.heap.size v n xs c W hc hn hB hw)
  have hs1 := h.set1 ((k : Int) + 1)
  have gs1 := grown_set (w := w) b 1 (.int .i64 ((k : Int) + 1))
  clear hp hp'
  go_enter Tryd.func52, Tryd.ntmps52
  go_wp2_with fail
  refine (P1.out _).mono ?_
  rintro e w' ⟨rfl, rfl⟩
  go_wp2_with fail
  go_loopg [6] 2 (fun g tv wr => ((g = 2 ∧ Scn wr b s (k + 1 : Nat) ln M T ∧ wr.ownsRow w.heap.size 5 1 tv 0 (u8s [])) ∨ (g = 1 ∧ Scn wr b s (k + 2 : Nat) ln M T ∧ wr.ownsRow w.heap.size 5 1 tv 1 (u8s [97])) ∨ (g = 0 ∧ Scn wr b s (k + 6 : Nat) ln M T ∧ wr.ownsRow w.heap.size 5 1 tv 2 (u8s [97, 65]))) ∧ w.grownBy wr (some b))
  case atStart => exact ⟨.inl ⟨rfl, by simpa using hs1, World.ownsRow_nil _ _ _ _⟩, gs1⟩
  case round =>
    obtain ⟨hc, hg⟩ := hrel
    have hgs := hg.size
    rcases hc with ⟨rfl, hh, ho⟩ | ⟨rfl, hh, ho⟩ | ⟨rfl, hh, ho⟩
    · have c1' := hh.c1
      have B1 := B.out (k + 1) _ hh
      rw [b1] at B1
      have B1' := Lib.hid B1
      have S1' := Lib.hid (S1.out _ hh)
      have HO := Lib.hid ho
      clear B1 ho c0 c1 f1
      go_wp2_with fail
      refine B1'.out.mono ?_
      rintro e w' ⟨rfl, rfl⟩
      go_wp2_with fail
      refine S1'.out.mono ?_
      rintro e w2 ⟨rfl, h3, g3⟩
      have ho2 := HO.out.kept g3 (by
        cases hv : (Value.ownBlock _) with
        | none => exact .inl rfl
        | some q => exact .inr (fun e => by have := (HO.out.lt q hv).1; cases e; omega))
      have hs3 := g3.size
      have A1 := Lib.hid (A.out _ 0 _ 97 w2 (by omega) (by omega) (by omega) ho2)
      have HL := HO.out.lt
      go_wp2_with fail
      refine A1.out.mono ?_
      rintro e w3 ⟨v', rfl, ho3, g4⟩
      go_wp2_with fail
      go_roundg 1
      case rel => exact ⟨.inr (.inl ⟨rfl, h3.grown g4 (fun e => by have := (HL b e.symm).1; omega), ho3⟩), grown_own (hg.trans g3) g4 (fun q e => (HL q e).1)⟩
      case measure => omega
    · have c1' := hh.c1
      have B1 := B.out (k + 2) _ hh
      rw [b2] at B1
      have B1' := Lib.hid B1
      have S2' := Lib.hid (S2.out _ hh)
      have HO := Lib.hid ho
      clear B1 ho c0 c1 f1
      go_wp2_with fail
      refine B1'.out.mono ?_
      rintro e w' ⟨rfl, rfl⟩
      go_wp2_with fail
      refine S2'.out.mono ?_
      rintro e w2 ⟨rfl, h3, g3⟩
      have ho2 := HO.out.kept g3 (by
        cases hv : (Value.ownBlock _) with
        | none => exact .inl rfl
        | some q => exact .inr (fun e => by have := (HO.out.lt q hv).1; cases e; omega))
      have hs3 := g3.size
      have A1 := Lib.hid (A.out _ 1 _ 65 w2 (by omega) (by omega) (by omega) ho2)
      have HL := HO.out.lt
      go_wp2_with fail
      refine A1.out.mono ?_
      rintro e w3 ⟨v', rfl, ho3, g4⟩
      go_wp2_with fail
      go_roundg 0
      case rel => exact ⟨.inr (.inr ⟨rfl, h3.grown g4 (fun e => by have := (HL b e.symm).1; omega), ho3⟩), grown_own (hg.trans g3) g4 (fun q e => (HL q e).1)⟩
      case measure => omega
    · have c1' := hh.c1
      have f1' := hh.fz 1
      have B1 := B.out (k + 6) _ hh
      rw [b6] at B1
      have e1 : ((k + 6 : Nat) : Int) = (k : Int) + 6 := by omega
      rw [e1] at B1 c1'
      clear e1
      have B1' := Lib.hid B1
      have CV : ∀ W', (∀ q, w.heap.size ≤ q → q < wr.heap.size → W'.heap[q]? = wr.heap[q]?) → (convert 46 9 _).run Tryd.prog W' = .ok (.string ⟨#[97, 65]⟩) W' := fun W' hW => conv_own (l := [97, 65]) (owns_kept ho fun q h1 h2 => hW q h2 h1)
      have CV' := CV (wr.setCell ⟨b, 1, none⟩ (.int .i64 ((k : Int) + 6 + 1))) (fun q h1 h2 => Below.heap_setCell _ _ _ _ (by simp; omega))
      clear B1 ho c0 c1 f1 CV
      go_wp2_with fail
      refine B1'.out.mono ?_
      rintro e w' ⟨rfl, rfl⟩
      go_wp2_with fail
      go_ret
      exact ⟨rfl, by simpa [Int.add_assoc] using hh.set1 ((k : Int) + 6 + 1), hg.trans (grown_set b 1 _)⟩
end Go.Proofs.YtpebdfofnmojcaaDoor

/- Contracts: readers, and the closure that it returns. -/
namespace Go.Proofs.YtpebdfofnmojcaaDoor
open Go.RowKit

/-- The boxes of the closures: the scanner's address, word, symbol. -/
structure RBox (W : World) (b B : Nat) : Prop where
  s : W.heap[B]? = some (.cells #[.pointer (some ⟨b, 0, none⟩)] 62 (0, 0))
  wd : W.heap[B + 1]? = some (.cells #[.func (.func 47) #[] #[.pointer (some ⟨B, 0, none⟩)]] 72 (0, 0))
  sy : W.heap[B + 2]? = some (.cells #[.func (.func 48) #[] #[.pointer (some ⟨B, 0, none⟩)]] 72 (0, 0))
theorem RBox.grown {w w' : World} {b B : Nat} {row : Option Nat} (h : RBox w b B) (hg : w.grownBy w' row) (h0 : ∀ q, row = some q → q < B ∨ B + 2 < q) : RBox w' b B :=
  ⟨(hg.block _ (Array.getElem?_eq_some_iff.1 h.s).1 (fun e => by have := h0 _ e.symm; omega)).trans h.s, (hg.block _ (Array.getElem?_eq_some_iff.1 h.wd).1 (fun e => by have := h0 _ e.symm; omega)).trans h.wd, (hg.block _ (Array.getElem?_eq_some_iff.1 h.sy).1 (fun e => by have := h0 _ e.symm; omega)).trans h.sy⟩

set_option maxRecDepth 100000 in
set_option maxHeartbeats 400000 in
theorem readers_any (b : Nat) (w : World) :
    Calls Tryd.prog 42 #[.pointer (some ⟨b, 0, none⟩)] w fun e w' =>
      e = .returned (.func (.func 50) #[] #[.pointer (some ⟨w.heap.size, 0, none⟩), .pointer (some ⟨w.heap.size + 1, 0, none⟩), .pointer (some ⟨w.heap.size + 2, 0, none⟩)]) ∧ RBox w' b w.heap.size ∧ Below w.heap.size w w' := by
  go_enter Tryd.func42, Tryd.ntmps42
  go_wp2
  go_ret
  refine ⟨rfl, ⟨?_, ?_, ?_⟩, ?_⟩
  · simp only [heap_alloc_if, World.size_alloc]
    rw [if_neg (by omega), if_neg (by omega)]
    simp
  · simp only [heap_alloc_if, World.size_alloc]
    rw [if_neg (by omega)]
    simp
  · simp only [heap_alloc_if, World.size_alloc]
    simp
  · exact (((Below.refl _ w).alloc (Nat.le_refl _) _).alloc (by simp) _).alloc (by simp; omega) _
end Go.Proofs.YtpebdfofnmojcaaDoor

/- Contracts: the closure that reads the token that begins with a byte. -/
namespace Go.Proofs.YtpebdfofnmojcaaDoor
open Go.RowKit

section
variable {b B : Nat} {w : World} {Q : World → Prop}
theorem RBox.cs (hx : RBox w b B) : w.cell? ⟨B, 0, none⟩ = some (.pointer (some ⟨b, 0, none⟩)) := by simp [World.cell?, hx.s]
theorem RBox.cw (hx : RBox w b B) : w.cell? ⟨B + 1, 0, none⟩ = some (.func (.func 47) #[] #[.pointer (some ⟨B, 0, none⟩)]) := by simp [World.cell?, hx.wd]
theorem RBox.cy (hx : RBox w b B) : w.cell? ⟨B + 2, 0, none⟩ = some (.func (.func 48) #[] #[.pointer (some ⟨B, 0, none⟩)]) := by simp [World.cell?, hx.sy]

set_option maxRecDepth 100000 in
set_option maxHeartbeats 400000 in
theorem read_number (hx : RBox w b B) (c n : Int) (t : ByteArray) (hc : digitB c = true) (h : Calls Tryd.prog 51 #[.pointer (some ⟨b, 0, none⟩)] w fun e w' => e = .returned (.tuple #[.int .i64 n, .string t]) ∧ Q w') :
    Calls Tryd.prog 50 #[.int .u8 c, .pointer (some ⟨B, 0, none⟩), .pointer (some ⟨B + 1, 0, none⟩), .pointer (some ⟨B + 2, 0, none⟩)] w fun e w' => e = .returned (.tuple #[.int .i64 n, .string t]) ∧ Q w' := by
  have cs := hx.cs
  have D := isDigit_any c w
  rw [hc] at D
  have D' := Lib.hid D
  have H := Lib.hid h
  clear D h
  go_enter Tryd.func50, Tryd.ntmps50
  go_wp2_with fail
  refine D'.out.mono ?_
  rintro e w' ⟨rfl, rfl⟩
  go_wp2_with fail
  refine H.out.mono ?_
  rintro e w' ⟨rfl, hq⟩
  go_wp2_with fail
  go_ret2
  exact ⟨rfl, hq⟩

set_option maxRecDepth 100000 in
set_option maxHeartbeats 400000 in
theorem read_word (hx : RBox w b B) (c n : Int) (t : ByteArray) (hc : digitB c = false) (hd : wordB c = true) (h : Calls Tryd.prog 47 #[.pointer (some ⟨B, 0, none⟩)] w fun e w' => e = .returned (.tuple #[.int .i64 n, .string t]) ∧ Q w') :
    Calls Tryd.prog 50 #[.int .u8 c, .pointer (some ⟨B, 0, none⟩), .pointer (some ⟨B + 1, 0, none⟩), .pointer (some ⟨B + 2, 0, none⟩)] w fun e w' => e = .returned (.tuple #[.int .i64 n, .string t]) ∧ Q w' := by
  have cw := hx.cw
  have D := isDigit_any c w
  rw [hc] at D
  have D' := Lib.hid D
  have E := inWord_any c w
  rw [hd] at E
  have E' := Lib.hid E
  have H := Lib.hid h
  clear D h E
  go_enter Tryd.func50, Tryd.ntmps50
  go_wp2_with fail
  refine D'.out.mono ?_
  rintro e w' ⟨rfl, rfl⟩
  go_wp2_with fail
  refine E'.out.mono ?_
  rintro e w' ⟨rfl, rfl⟩
  go_wp2_with fail
  refine H.out.mono ?_
  rintro e w' ⟨rfl, hq⟩
  go_wp2_with fail
  go_ret2
  exact ⟨rfl, hq⟩

set_option maxRecDepth 100000 in
set_option maxHeartbeats 400000 in
theorem read_str (hx : RBox w b B) (t : ByteArray) (h : Calls Tryd.prog 52 #[.pointer (some ⟨b, 0, none⟩)] w fun e w' => e = .returned (.string t) ∧ Q w') :
    Calls Tryd.prog 50 #[.int .u8 34, .pointer (some ⟨B, 0, none⟩), .pointer (some ⟨B + 1, 0, none⟩), .pointer (some ⟨B + 2, 0, none⟩)] w fun e w' => e = .returned (.tuple #[.int .i64 5, .string t]) ∧ Q w' := by
  have cs := hx.cs
  have D := isDigit_any 34 w
  rw [show digitB 34 = false by decide] at D
  have D' := Lib.hid D
  have E := inWord_any 34 w
  rw [show wordB 34 = false by decide] at E
  have E' := Lib.hid E
  have H := Lib.hid h
  clear D h E
  go_enter Tryd.func50, Tryd.ntmps50
  go_wp2_with fail
  refine D'.out.mono ?_
  rintro e w' ⟨rfl, rfl⟩
  go_wp2_with fail
  refine E'.out.mono ?_
  rintro e w' ⟨rfl, rfl⟩
  go_wp2_with fail
  refine H.out.mono ?_
  rintro e w' ⟨rfl, hq⟩
  go_wp2_with fail
  go_ret2
  exact ⟨rfl, hq⟩

set_option maxRecDepth 100000 in
set_option maxHeartbeats 400000 in
theorem read_symbol (hx : RBox w b B) (c n : Int) (t : ByteArray) (hc : digitB c = false) (hd : wordB c = false) (h34 : c ≠ 34) (h39 : c ≠ 39) (h : Calls Tryd.prog 48 #[.pointer (some ⟨B, 0, none⟩)] w fun e w' => e = .returned (.tuple #[.int .i64 n, .string t]) ∧ Q w') :
    Calls Tryd.prog 50 #[.int .u8 c, .pointer (some ⟨B, 0, none⟩), .pointer (some ⟨B + 1, 0, none⟩), .pointer (some ⟨B + 2, 0, none⟩)] w fun e w' => e = .returned (.tuple #[.int .i64 n, .string t]) ∧ Q w' := by
  have cy := hx.cy
  have j1 : (c == 34) = false := by simpa using h34
  have j2 : (c == 39) = false := by simpa using h39
  have D := isDigit_any c w
  rw [hc] at D
  have D' := Lib.hid D
  have E := inWord_any c w
  rw [hd] at E
  have E' := Lib.hid E
  have H := Lib.hid h
  clear D h E
  go_enter Tryd.func50, Tryd.ntmps50
  go_wp2_with fail
  refine D'.out.mono ?_
  rintro e w' ⟨rfl, rfl⟩
  go_wp2_with fail
  refine E'.out.mono ?_
  rintro e w' ⟨rfl, rfl⟩
  go_wp2_with fail
  refine H.out.mono ?_
  rintro e w' ⟨rfl, hq⟩
  go_wp2_with fail
  go_ret2
  exact ⟨rfl, hq⟩
end
end Go.Proofs.YtpebdfofnmojcaaDoor

/- Contract: the deferred closure of scan where nothing panics. -/
namespace Go.Proofs.YtpebdfofnmojcaaDoor
open Go.RowKit

theorem catch_idle (p q r : Addr) (w : World) :
    CallsD Tryd.prog 40 #[.pointer (some p), .pointer (some q), .pointer (some r)] .returning w fun e u' w' => e = .returned (.tuple #[]) ∧ u' = .returning ∧ w' = w := by
  refine callsD_of_wpS Tryd.func40 rfl fun c₀ cs hu => ?_
  apply wpS_seq
  apply wpS_region
  simp [wpOpsS, go_sem, recoverD, hu, Tryd.ntmps40, Exit.thenS]
  apply wpS_seq
  apply wpS_region
  simp [wpOpsS, go_sem, Exit.thenS]
  refine wpS_cond (t := false) (by simp [Act.eval, Array.replicate]) ?_
  simp only [Bool.false_eq_true, if_false]
  refine wpS_of_wp (wp_skip ?_)
  cases c₀
  simp_all [bodyPostS, results, Tryd.results40]
end Go.Proofs.YtpebdfofnmojcaaDoor

/- Contract: scan over a text whose tokens are read one behind the other. -/
namespace Go.Proofs.YtpebdfofnmojcaaDoor
open Go.RowKit Go.Maps Go.WideMaps

structure Tok where
  kind : Int
  text : ByteArray
  pos : Nat
  line : Bool
def Tok.cells (t : Tok) : List Value := [.int .i64 t.kind, .string t.text, .int .i64 t.pos, .bool t.line]
def tokCells (l : List Tok) : List Value := l.flatMap Tok.cells
theorem tokCells_snoc (l : List Tok) (t : Tok) : tokCells (l ++ [t]) = tokCells l ++ t.cells := by simp [tokCells, List.flatMap_append]

/-- What the scanner's memory holds: its block b, the boxes of its closures, its keywords m. -/
structure SM (W : World) (b m : Nat) (s : ByteArray) (k : Nat) (ln : Bool) (T : Value) : Prop where
  scn : Scn W b s k ln (.map (some m)) T
  box : RBox W b (b + 1)
  map : W.ownsMap Tryd.prog 9 (plainElem (H := Unit) Tryd.prog 4) m 51 (kwSet 51)
  glob : Glob W
  big : b + 4 ≤ W.heap.size

/-- The token that begins at k is read: its kind, its text, and where it ends. -/
def Reads (s : ByteArray) (k k2 : Nat) (kind : Int) (text : ByteArray) : Prop :=
  ∀ (W : World) (b m : Nat) (T : Value) (c : UInt8), 5 ≤ b → m < b → (∀ h : k < s.size, s[k]'h = c) → SM W b m s k false T →
    Calls Tryd.prog 50 #[.int .u8 c.toNat, .pointer (some ⟨b + 1, 0, none⟩), .pointer (some ⟨b + 2, 0, none⟩), .pointer (some ⟨b + 3, 0, none⟩)] W fun e w' =>
      e = .returned (.tuple #[.int .i64 kind, .string text]) ∧ (Scn w' b s k2 false (.map (some m)) T ∧ W.grownBy w' (some b))

def Chain (s : ByteArray) : Nat → Bool → List Tok → Prop
  | k, ln, [] => k ≤ s.size ∧ ∃ n ln', blanksF n s.data.toList k ln = some (s.size, ln')
  | k, ln, t :: ts => k ≤ s.size ∧ ∃ n k2, blanksF n s.data.toList k ln = some (t.pos, t.line) ∧ t.pos < s.size ∧ Reads s t.pos k2 t.kind t.text ∧ Chain s k2 false ts
/-- Behind the blanks. -/
def Head (s : ByteArray) (k : Nat) (ln : Bool) : List Tok → Prop
  | [] => k = s.size
  | t :: ts => k = t.pos ∧ ln = t.line ∧ t.pos < s.size ∧ ∃ k2, Reads s t.pos k2 t.kind t.text ∧ Chain s k2 false ts
theorem Chain.blanks {s : ByteArray} {k : Nat} {ln : Bool} {l : List Tok} (h : Chain s k ln l) : k ≤ s.size ∧ ∃ n k' ln', blanksF n s.data.toList k ln = some (k', ln') ∧ Head s k' ln' l := by
  cases l with
  | nil => obtain ⟨hk, n, ln', h⟩ := h; exact ⟨hk, n, s.size, ln', h, rfl⟩
  | cons t ts => obtain ⟨hk, n, k2, h, h1, h2, h3⟩ := h; exact ⟨hk, n, t.pos, t.line, h, rfl, rfl, h1, k2, h2, h3⟩

theorem SM.next {W W' : World} {b m : Nat} {s : ByteArray} {k k' : Nat} {ln ln' : Bool} {T T' : Value} (h : SM W b m s k ln T) (hm : m < b) (hb : 5 ≤ b) (hg : W.grownBy W' (some b)) (hs : Scn W' b s k' ln' (.map (some m)) T') : SM W' b m s k' ln' T' :=
  ⟨hs, h.box.grown hg (fun q e => by cases e; omega), h.map.kept hg (fun e => by cases e; omega), h.glob.grown hg (fun q e => by cases e; omega), Nat.le_trans h.big hg.size⟩

theorem SM.append {W W' : World} {b m : Nat} {s : ByteArray} {k : Nat} {ln : Bool} {T : Value} {row : Option Nat} (h : SM W b m s k ln T) (hg : W.grownBy W' row) (hr : ∀ q, row = some q → b + 4 ≤ q) (hm : m < b) (_ : 5 ≤ b) : SM W' b m s k ln T :=
  ⟨h.scn.grown hg (fun e => by have := hr b e.symm; omega), h.box.grown hg (fun q e => by have := hr q e; omega), h.map.kept hg (fun e => by have := hr m e.symm; omega), h.glob.grown hg (fun q e => by have := hr q e; omega), Nat.le_trans h.big hg.size⟩
theorem grown_app {w W W' : World} {row : Option Nat} (h : w.grownBy W none) (hg : W.grownBy W' row) (hr : ∀ q, row = some q → w.heap.size ≤ q) : w.grownBy W' none :=
  ⟨hg.os.trans h.os, hg.tape.trans h.tape, hg.output.trans h.output, Nat.le_trans h.size hg.size, fun k hk hb => (hg.block k (Nat.lt_of_lt_of_le hk h.size) (fun e => by have := hr k e.symm; omega)).trans (h.block k hk hb)⟩

theorem row_slice {W : World} {B : Nat} {e : TypeId} {size : Nat} {v : Value} {n : Nat} {xs : List Value} (h : W.ownsRow B e size v n xs) : ∃ a n c, v = .slice a n c := by
  rcases h.2 with ⟨rfl, _⟩ | ⟨g, cap, cur, rfl, _⟩ <;> exact ⟨_, _, _, rfl⟩

theorem row_base {W : World} {B B' : Nat} {e : TypeId} {size : Nat} {v : Value} {n : Nat} {xs : List Value} (h : W.ownsRow B e size v n xs) (hb : B' ≤ B) : W.ownsRow B' e size v n xs := by
  refine ⟨h.1, ?_⟩
  rcases h.2 with hn | ⟨g, cap, cur, rfl, h1, rest⟩
  · exact .inl hn
  · exact .inr ⟨g, cap, cur, rfl, by omega, rest⟩

theorem grown_over {w W W' : World} (h : w.grownBy W none) (hg : W.grownBy W' (some w.heap.size)) : w.grownBy W' none :=
  ⟨hg.os.trans h.os, hg.tape.trans h.tape, hg.output.trans h.output, Nat.le_trans h.size hg.size, fun k hk hb => (hg.block k (Nat.lt_of_lt_of_le hk h.size) (fun e => by cases e; omega)).trans (h.block k hk hb)⟩

set_option maxRecDepth 100000 in
set_option maxHeartbeats 800000 in
theorem scan_chain (s : ByteArray) (w : World) (hs : s.size ≤ 20000) (hG : Glob w) (toks : List Tok) (hlen : toks.length ≤ 20000) (hch : Chain s 0 true toks) :
    Calls Tryd.prog 28 #[.string s] w fun e w' => ∃ v, e = .returned (.tuple #[v, .int .i64 0, .int .i64 0]) ∧ w'.ownsRow w.heap.size 36 4 v toks.length (tokCells toks) ∧ w.grownBy w' none := by
  have hmf : ∀ (fn : Fn) (first cap : Array Value) (w : World), (Instr.makeFunc fn first cap).run Tryd.prog w = .ok (.func fn first cap) w := fun _ _ _ _ => rfl
  have K := Lib.hid (fun W (h : GKw W) => keywordSet_any W h)
  have RD := Lib.hid (fun b W => readers_any b W)
  have hG4 := hG.size
  have g0 : w.grownBy (((w.alloc (.cells #[.slice none 0 0] 30)).alloc (.cells #[.int .i64 0] 3)).alloc (.cells #[.int .i64 0] 23)) none := ((grown_alloc w _ none).trans (grown_alloc _ _ none)).trans (grown_alloc _ _ none)
  have gk := (hG.grown g0 (fun k h => by cases h)).kw
  go_enter_defers Tryd.func28, Tryd.ntmps28
  go_wp2_with fail
  refine (K.out _ gk).mono ?_
  rintro e w1 ⟨rfl, hM, hg1⟩
  have H0 : ∀ k, k < w.heap.size + 3 → w1.heap[k]? = (((w.alloc (.cells #[.slice none 0 0] 30)).alloc (.cells #[.int .i64 0] 3)).alloc (.cells #[.int .i64 0] 23)).heap[k]? := fun k hk => hg1.block k (by simp; omega) (by simp)
  have C0 : w1.heap[w.heap.size]? = some (.cells #[.slice none 0 0] 30 (0, 0)) := by
    rw [H0 _ (by omega)]; simp only [heap_alloc_if, World.size_alloc]; rw [if_neg (by omega), if_neg (by omega)]; simp
  have C1 : w1.heap[w.heap.size + 1]? = some (.cells #[.int .i64 0] 3 (0, 0)) := by
    rw [H0 _ (by omega)]; simp only [heap_alloc_if, World.size_alloc]; rw [if_neg (by omega)]; simp
  have C2 : w1.heap[w.heap.size + 2]? = some (.cells #[.int .i64 0] 23 (0, 0)) := by
    rw [H0 _ (by omega)]; simp only [heap_alloc_if, World.size_alloc]; simp
  have gw1 : w.grownBy w1 none := g0.trans hg1
  have hs1 := hg1.size
  simp only [World.size_alloc] at hs1 hM
  have hm1 := hM.lt
  simp only [World.size_alloc]
  clear H0 hg1 g0 K gk
  have hG1 := hG.grown gw1 (fun k h => by cases h)
  go_wp2_with fail
  refine (RD.out w1.heap.size _).mono ?_
  rintro e w2 ⟨rfl, hB, hb2⟩
  simp only [World.size_alloc] at hB hb2 ⊢
  have hs2 := hb2.size
  have g2 : w1.grownBy w2 none := (grown_alloc w1 _ none).trans (grown_of_below (by simpa using hb2) none)
  have S2 : Scn w2 w1.heap.size s 0 true (.map (some (w.heap.size + 1 + 1 + 1))) (.slice none 0 0) := by
    unfold Scn
    rw [hb2.block _ (by omega)]
    simp only [heap_alloc_if, if_true]
  have M2 : SM w2 w1.heap.size (w.heap.size + 1 + 1 + 1) s (0 : Nat) true (.slice none 0 0) :=
    ⟨S2, hB, hM.kept g2 (by simp), hG1.grown g2 (fun k h => by cases h), by have := (Array.getElem?_eq_some_iff.1 hB.sy).1; omega⟩
  clear hb2 RD hB S2 hM
  obtain ⟨hk0, n0, k0, ln0, hF0, hh0⟩ := hch.blanks
  have BL := Lib.hid (fun k ln T W hk (h : SM W w1.heap.size (w.heap.size + 1 + 1 + 1) s k ln T) n k' ln' hF => blanks_any w1.heap.size (by omega) s k ln (.map (some (w.heap.size + 1 + 1 + 1))) T W (by omega) hk h.scn h.glob n k' ln' hF)
  go_wp2_with fail
  refine (BL.out 0 true _ w2 hk0 M2 n0 k0 ln0 hF0).mono ?_
  rintro e w3 ⟨rfl, h3, g3, hk3⟩
  have M3 := M2.next (by omega) (by omega) g3 h3
  have G3 : w1.grownBy w3 none := grown_over g2 g3
  clear M2 g2 g3 h3 hF0
  obtain ⟨i0, hi, hz0, hz1, hz2⟩ := info_parts (P := Tryd.prog) (e := 36) (z := .agg #[.int .i64 0, .string ⟨#[]⟩, .int .i64 0, .bool false]) (size := 4) (bytes := 40) (by kernel_rfl)
  go_wp2_with fail
  go_loopg [7] toks.length (fun g _ wr => ∃ don rest k ln T, toks = don ++ rest ∧ rest.length = g ∧ Head s k ln rest ∧ k ≤ s.size ∧ SM wr w1.heap.size (w.heap.size + 1 + 1 + 1) s k ln T ∧ w1.grownBy wr none ∧ wr.ownsRow (w1.heap.size + 4) 36 4 T don.length (tokCells don))
  case atStart => exact ⟨[], toks, k0, ln0, _, rfl, rfl, hh0, hk3, M3, G3, World.ownsRow_nil _ _ _ _⟩
  case round =>
    obtain ⟨don, rest, k, ln, T, rfl, rfl, hh, hk, hM, hg, hrow⟩ := hrel
    have hgs := hg.size
    cases rest with
    | nil =>
      have e1 : k = s.size := hh
      subst e1
      have c1 := hM.scn.c1
      obtain ⟨va, vn, vc, rfl⟩ := row_slice hrow
      have c4 := hM.scn.c4
      have i1 : ¬ (s.size : Int) < s.size := by omega
      have i2 : (s.size : Int) ≤ 20000 := by omega
      have D0 : wr.heap[w.heap.size]? = some (.cells #[.slice none 0 0] 30 (0, 0)) := (hg.block _ (by omega) (by simp)).trans C0
      have D1 : wr.heap[w.heap.size + 1]? = some (.cells #[.int .i64 0] 3 (0, 0)) := (hg.block _ (by omega) (by simp)).trans C1
      have D2 : wr.heap[w.heap.size + 2]? = some (.cells #[.int .i64 0] 23 (0, 0)) := (hg.block _ (by omega) (by simp)).trans C2
      have e0 : wr.cell? ⟨w.heap.size, 0, none⟩ = some (.slice none 0 0) := by simp [World.cell?, D0]
      have e1 : wr.cell? ⟨w.heap.size + 1, 0, none⟩ = some (.int .i64 0) := by simp [World.cell?, D1]
      have e2 : wr.cell? ⟨w.heap.size + 1 + 1, 0, none⟩ = some (.int .i64 0) := by simp [World.cell?, D2]
      have f0 : wr.frozen? ⟨w.heap.size, 0, none⟩ = false := by simp [World.frozen?, D0]
      have f1 : wr.frozen? ⟨w.heap.size + 1, 0, none⟩ = false := by simp [World.frozen?, D1]
      have f2 : wr.frozen? ⟨w.heap.size + 1 + 1, 0, none⟩ = false := by simp [World.frozen?, D2]
      have X1 : w.grownBy wr none := gw1.trans hg
      have kp : ∀ (W : World) (q i : Nat) (v : Value), q < w1.heap.size → W.ownsRow (w1.heap.size + 4) 36 4 (.slice va vn vc) don.length (tokCells don) → (W.setCell ⟨q, i, none⟩ v).ownsRow (w1.heap.size + 4) 36 4 (.slice va vn vc) don.length (tokCells don) := fun W q i v hq h =>
        h.kept (grown_set q i v) (by
          cases hv : (Value.ownBlock (.slice va vn vc)) with
          | none => exact .inl rfl
          | some j => exact .inr (fun e => by have := (h.lt j hv).1; cases e; omega))
      have gp : ∀ (W : World) (q i : Nat) (v : Value), w.heap.size ≤ q → w.grownBy W none → w.grownBy (W.setCell ⟨q, i, none⟩ v) none := fun W q i v hq h => grown_app h (grown_set q i v) (fun j e => by cases e; exact hq)
      go_wp2_with fail
      refine leaves_cons (f := 40) (args := #[.pointer (some ⟨w.heap.size, 0, none⟩), .pointer (some ⟨w.heap.size + 1, 0, none⟩), .pointer (some ⟨w.heap.size + 1 + 1, 0, none⟩)]) (by simp) (by simp [go_sem]) ?_
      refine (catch_idle _ _ _ _).mono ?_
      rintro e u' w'' ⟨rfl, rfl, rfl⟩
      simp [Leaves, settle, results, Tryd.results28, go_sem, e0, e1, e2]
      exact ⟨row_base (kp _ _ _ _ (by omega) (kp _ _ _ _ (by omega) (kp _ _ _ _ (by omega) hrow))) (by omega), gp _ _ _ _ (by omega) (gp _ _ _ _ (by omega) (gp _ _ _ _ (by omega) X1))⟩
    | cons t ts =>
      obtain ⟨rfl, rfl, hlt, k2, hR, hC⟩ := hh
      have c1 := hM.scn.c1
      have c2 := hM.scn.c2
      have f2 := hM.scn.fz 2
      have i1 : (t.pos : Int) < s.size := by omega
      have i2 : (s.size : Int) ≤ 20000 := by omega
      obtain ⟨c, hc⟩ : ∃ c, s[t.pos] = c := ⟨_, rfl⟩
      have hc' : ∀ h : t.pos < s.size, s[t.pos]'h = c := fun _ => hc
      have hM1 : ∀ n, SM ((wr.drewN n).setCell ⟨w1.heap.size, 2, none⟩ (.bool false)) w1.heap.size (w.heap.size + 1 + 1 + 1) s t.pos false T := fun n =>
        hM.next (by omega) (by omega) ((grown_drewN wr n _).trans (grown_set _ _ _)) ((hM.scn.drewN n).set2 false)
      have R := Lib.hid (fun n => hR _ w1.heap.size (w.heap.size + 1 + 1 + 1) T c (by omega) (by omega) hc' (hM1 n))
      have HM1 := Lib.hid hM1
      have HM := Lib.hid hM
      clear hR hc' hM1 hM
      go_wp2_with fail
      go_quiet (fail)
      go_wp2_with fail
      refine (R.out _).mono ?_
      rintro e w4 ⟨rfl, h4, g4⟩
      have M4 := (HM1.out nq).next (by omega) (by omega) g4 h4
      have gw4 : wr.grownBy w4 (some w1.heap.size) := ((grown_drewN wr nq _).trans (grown_set _ _ _)).trans g4
      have G4 := grown_over hg gw4
      have row4 := hrow.kept gw4 (by
        cases hv : (Value.ownBlock T) with
        | none => exact .inl rfl
        | some q => exact .inr (fun e => by have := (hrow.lt q hv).1; cases e; omega))
      have c4 := h4.c4
      have f4 := h4.fz 4
      have big4 := M4.big
      have hbl := M4.scn.lt
      clear g4 h4 R HM1 c1 c2 f2 hrow
      go_wp2_with (refine wpList_append_own _ rfl _ _ 30 rfl (w1.heap.size + 4) 36 i0 (.agg #[.int .i64 0, .string ⟨#[]⟩, .int .i64 0, .bool false]) 4 40 Tryd.underlying30 hi hz0 hz1 hz2 rfl (by decide) T don.length _ rfl (row4.alloc _) ⟨w4.heap.size, 0, none⟩ 1 1 t.cells rfl rfl ?_ ?_ ?_ ?_ ?_ ?_)
      · intro j u hj
        match j, hj with
        | 0, hj => simp [Tok.cells] at hj; subst hj; simp [Addr.add]
        | 1, hj => simp [Tok.cells] at hj; subst hj; simp [Addr.add]
        | 2, hj => simp [Tok.cells] at hj; subst hj; simp [Addr.add]
        | 3, hj => simp [Tok.cells] at hj; subst hj; simp [Addr.add]
        | (j + 4), hj => simp [Tok.cells] at hj
      · intro u hu; simp [Tok.cells] at hu; rcases hu with rfl | rfl | rfl | rfl <;> rfl
      · simp at hlen; unfold maxLen; omega
      · simp at hlen; omega
      · simp; omega
      · intro v' w5 ho5 hg5 _
        have hL := row4.lt
        have M5 := M4.append ((grown_alloc w4 _ _).trans hg5) (fun q e => (hL q e).1) (by omega) (by omega)
        have G5 : w1.grownBy w5 none := grown_app G4 ((grown_alloc w4 _ _).trans hg5) (fun q e => by have := (hL q e).1; omega)
        have hs5 := M5.big
        have c5 := M5.scn.c4
        have f5 := M5.scn.fz 4
        have M6 := M5.next (T' := v') (by omega) (by omega) (grown_set w1.heap.size 4 v') (M5.scn.set4 v')
        have G6 := grown_over G5 (grown_set w1.heap.size 4 v')
        have ho6 := ho5.kept (grown_set w1.heap.size 4 v') (by
          cases hv : (Value.ownBlock v') with
          | none => exact .inl rfl
          | some q => exact .inr (fun e => by have := (ho5.lt q hv).1; cases e; omega))
        obtain ⟨hk2, n', k', ln', hF', hh'⟩ := hC.blanks
        obtain ⟨va, vn, vc, rfl⟩ := row_slice ho5
        have B6 := Lib.hid (BL.out k2 false _ _ hk2 M6 n' k' ln' hF')
        have M6' := Lib.hid M6
        clear hg5 row4 c4 f4 hL M5 G5 M4 G4 M6 ho5 BL
        go_wp2_with fail
        refine B6.out.mono ?_
        rintro e w7 ⟨rfl, h7, g7, hk7⟩
        have M7 := M6'.out.next (by omega) (by omega) g7 h7
        have G7 := grown_over G6 g7
        have ho7 := ho6.kept g7 (by
          cases hv : (Value.ownBlock (.slice va vn vc)) with
          | none => exact .inl rfl
          | some q => exact .inr (fun e => by have := (ho6.lt q hv).1; cases e; omega))
        go_wp2_with fail
        go_roundg ts.length
        case rel => exact ⟨don ++ [t], ts, k', ln', _, by simp, rfl, hh', hk7, M7, G7, by rw [tokCells_snoc, List.length_append]; exact ho7⟩
        case measure => simp
end Go.Proofs.YtpebdfofnmojcaaDoor

/- Contract: the deferred closure of scan where a fault panics: it recovers, and lays the three results. -/
namespace Go.Proofs.YtpebdfofnmojcaaDoor
open Go.RowKit

/-- What a panic of the scanner's own hands on: the place and the code. -/
def fltV (k : Nat) (code : Int) : Value := .iface 60 (.agg #[.int .i64 (k : Int), .int .i64 code])
def fltE (k : Nat) (code : Int) : Ending := .panicked [{ v := fltV k code, recovered := false }]

theorem assert60 (W : World) (v : Value) : (Instr.typeAssert (.iface 60 v) 20 60 true).run Tryd.prog W = .ok (.tuple #[v, .bool true]) W := by kernel_rfl

set_option maxRecDepth 100000 in
set_option maxHeartbeats 800000 in
theorem catch_fault (h0 : Nat) (k : Nat) (code : Int) (older : List PanicEntry) (w : World) (v0 v1 v2 : Value)
    (D0 : w.heap[h0]? = some (.cells #[v0] 30 (0, 0))) (D1 : w.heap[h0 + 1]? = some (.cells #[v1] 3 (0, 0))) (D2 : w.heap[h0 + 2]? = some (.cells #[v2] 23 (0, 0))) (hs : h0 + 2 < w.heap.size) :
    CallsD Tryd.prog 40 #[.pointer (some ⟨h0, 0, none⟩), .pointer (some ⟨h0 + 1, 0, none⟩), .pointer (some ⟨h0 + 2, 0, none⟩)] (.panicking ({ v := fltV k code, recovered := false } :: older)) w fun e u' w' =>
      e = .returned (.tuple #[]) ∧ u' = .panicking ({ v := fltV k code, recovered := true } :: older) ∧
      w'.cell? ⟨h0, 0, none⟩ = some (.slice none 0 0) ∧ w'.cell? ⟨h0 + 1, 0, none⟩ = some (.int .i64 (k : Int)) ∧ w'.cell? ⟨h0 + 2, 0, none⟩ = some (.int .i64 code) ∧ Below h0 w w' := by
  unfold fltV
  have e0 : w.cell? ⟨h0, 0, none⟩ = some v0 := by simp [World.cell?, D0]
  have e1 : w.cell? ⟨h0 + 1, 0, none⟩ = some v1 := by simp [World.cell?, D1]
  have e2 : w.cell? ⟨h0 + 2, 0, none⟩ = some v2 := by simp [World.cell?, D2]
  have f0 : w.frozen? ⟨h0, 0, none⟩ = false := by simp [World.frozen?, D0]
  have f1 : w.frozen? ⟨h0 + 1, 0, none⟩ = false := by simp [World.frozen?, D1]
  have f2 : w.frozen? ⟨h0 + 2, 0, none⟩ = false := by simp [World.frozen?, D2]
  have hta := fun W v => assert60 W v
  refine callsD_of_wpS Tryd.func40 rfl fun c₀ cs hu => ?_
  apply wpS_seq
  apply wpS_region
  simp [wpOpsS, go_sem, recoverD, hu, Tryd.ntmps40, Exit.thenS]
  apply wpS_seq
  apply wpS_region
  simp [wpOpsS, go_sem, Exit.thenS]
  refine wpS_cond (t := true) (by simp [Act.eval, Array.replicate]) ?_
  simp only [if_true]
  refine wpS_of_wp ?_
  have r18 : Array.replicate 18 undef = #[undef, undef, undef, undef, undef, undef, undef, undef, undef, undef, undef, undef, undef, undef, undef, undef, undef, undef] := rfl
  rw [r18]
  simp only [List.setIfInBounds_toArray, List.set_cons_succ, List.set_cons_zero, List.append_toArray, List.cons_append, List.nil_append]
  clear hu r18
  go_upto_region 5 with fail
  have E0 : (w.alloc (.cells #[.int .i64 (k : Int), .int .i64 code] 60)).cell? ⟨h0, 0, none⟩ = some v0 := (World.cell?_of_block (Below.heap_alloc w _ _ (by dsimp only; omega))).trans e0
  have E1 : (w.alloc (.cells #[.int .i64 (k : Int), .int .i64 code] 60)).cell? ⟨h0 + 1, 0, none⟩ = some v1 := (World.cell?_of_block (Below.heap_alloc w _ _ (by dsimp only; omega))).trans e1
  have E2 : (w.alloc (.cells #[.int .i64 (k : Int), .int .i64 code] 60)).cell? ⟨h0 + 2, 0, none⟩ = some v2 := (World.cell?_of_block (Below.heap_alloc w _ _ (by dsimp only; omega))).trans e2
  have F0 : (w.alloc (.cells #[.int .i64 (k : Int), .int .i64 code] 60)).frozen? ⟨h0, 0, none⟩ = false := (World.frozen?_of_block (Below.heap_alloc w _ _ (by dsimp only; omega))).trans f0
  have F1 : (w.alloc (.cells #[.int .i64 (k : Int), .int .i64 code] 60)).frozen? ⟨h0 + 1, 0, none⟩ = false := (World.frozen?_of_block (Below.heap_alloc w _ _ (by dsimp only; omega))).trans f1
  have F2 : (w.alloc (.cells #[.int .i64 (k : Int), .int .i64 code] 60)).frozen? ⟨h0 + 2, 0, none⟩ = false := (World.frozen?_of_block (Below.heap_alloc w _ _ (by dsimp only; omega))).trans f2
  have T0 : (w.alloc (.cells #[.int .i64 (k : Int), .int .i64 code] 60)).cell? ⟨w.heap.size, 0, none⟩ = some (.int .i64 (k : Int)) := by unfold World.cell?; rw [show (w.alloc (.cells #[.int .i64 (k : Int), .int .i64 code] 60)).heap[w.heap.size]? = _ from heap_alloc_new w _]; rfl
  have T1 : (w.alloc (.cells #[.int .i64 (k : Int), .int .i64 code] 60)).cell? ⟨w.heap.size, 1, none⟩ = some (.int .i64 code) := by unfold World.cell?; rw [show (w.alloc (.cells #[.int .i64 (k : Int), .int .i64 code] 60)).heap[w.heap.size]? = _ from heap_alloc_new w _]; rfl
  have BL : Below h0 w (w.alloc (.cells #[.int .i64 (k : Int), .int .i64 code] 60)) := (Below.refl _ w).alloc (by omega) _
  have SZ : (w.alloc (.cells #[.int .i64 (k : Int), .int .i64 code] 60)).heap.size = w.heap.size + 1 := by simp
  generalize hW : w.alloc (.cells #[.int .i64 (k : Int), .int .i64 code] 60) = W1 at *
  obtain ⟨g, hg⟩ : ∃ g, w.heap.size = g := ⟨_, rfl⟩
  rw [hg] at hs T0 T1 ⊢
  have n1 : ¬ g = h0 := by omega
  have n2 : ¬ g = h0 + 1 := by omega
  have n3 : ¬ g = h0 + 2 := by omega
  clear D0 D1 D2 e0 e1 e2 f0 f1 f2 hW hg SZ
  go_region
  refine ⟨rfl, _, rfl, .tuple #[], by simp [results, Tryd.results40], rfl, rfl, ?_, ?_, ?_, ?_⟩
  · simp [go_sem, E0]
  · simp [go_sem, E1]
  · simp [go_sem, E2]
  · have st : ∀ (W : World) (q : Nat) (v : Value), h0 ≤ q → Below h0 w W → Below h0 w (W.setCell ⟨q, 0, none⟩ v) := fun W q v hq h =>
      ⟨h.os, h.tape, h.output, by have := h.size; simpa using this, fun j hj => (Below.heap_setCell W ⟨q, 0, none⟩ v j (by dsimp only; omega)).trans (h.block j hj)⟩
    have fin := st _ (h0 + 2) (.int .i64 code) (by omega) (st _ (h0 + 1) (.int .i64 (k : Int)) (by omega) (st W1 h0 (.slice none 0 0) (Nat.le_refl _) BL))
    exact ⟨fin.os, fin.tape, fin.output, fin.size, fin.block⟩
end Go.Proofs.YtpebdfofnmojcaaDoor

/- Contract: scan over every text whose blanks and tokens are known, one behind the other, up to the end or to the first fault. -/
namespace Go.Proofs.YtpebdfofnmojcaaDoor
open Go.RowKit Go.Maps Go.WideMaps

/-- Blanks and comments go from k to k'. -/
def BReads (s : ByteArray) (k : Nat) (ln : Bool) (k' : Nat) (ln' : Bool) : Prop :=
  k' ≤ s.size ∧ ∀ (W : World) (b m : Nat) (T : Value), 5 ≤ b → m < b → SM W b m s k ln T →
    Calls Tryd.prog 43 #[.pointer (some ⟨b, 0, none⟩)] W fun e w' => e = .returned (.tuple #[]) ∧ (Scn w' b s k' ln' (.map (some m)) T ∧ W.grownBy w' (some b))
/-- They end in a fault. -/
def BFails (s : ByteArray) (k : Nat) (ln : Bool) (p : Nat) (code : Int) : Prop :=
  ∀ (W : World) (b m : Nat) (T : Value), 5 ≤ b → m < b → SM W b m s k ln T →
    Calls Tryd.prog 43 #[.pointer (some ⟨b, 0, none⟩)] W fun e w' => e = fltE p code ∧ W.grownBy w' (some b)
/-- The token that begins at k is none. -/
def Fails (s : ByteArray) (k p : Nat) (code : Int) : Prop :=
  ∀ (W : World) (b m : Nat) (T : Value) (c : UInt8), 5 ≤ b → m < b → (∀ h : k < s.size, s[k]'h = c) → SM W b m s k false T →
    Calls Tryd.prog 50 #[.int .u8 c.toNat, .pointer (some ⟨b + 1, 0, none⟩), .pointer (some ⟨b + 2, 0, none⟩), .pointer (some ⟨b + 3, 0, none⟩)] W fun e w' => e = fltE p code ∧ W.grownBy w' (some b)

/-- Ahead of blanks: the tokens that are read from k on, up to the end. -/
def Runs (s : ByteArray) : Nat → Bool → List Tok → Prop
  | k, ln, [] => ∃ ln', BReads s k ln s.size ln'
  | k, ln, t :: ts => BReads s k ln t.pos t.line ∧ t.pos < s.size ∧ ∃ k2, Reads s t.pos k2 t.kind t.text ∧ Runs s k2 false ts
/-- The same up to a fault. -/
def RunsE (s : ByteArray) (p : Nat) (code : Int) : Nat → Bool → List Tok → Prop
  | k, ln, [] => BFails s k ln p code ∨ ∃ k' ln', BReads s k ln k' ln' ∧ k' < s.size ∧ Fails s k' p code
  | k, ln, t :: ts => BReads s k ln t.pos t.line ∧ t.pos < s.size ∧ ∃ k2, Reads s t.pos k2 t.kind t.text ∧ RunsE s p code k2 false ts
def HeadG (s : ByteArray) (k : Nat) (ln : Bool) : List Tok → Prop
  | [] => k = s.size
  | t :: ts => k = t.pos ∧ ln = t.line ∧ t.pos < s.size ∧ ∃ k2, Reads s t.pos k2 t.kind t.text ∧ Runs s k2 false ts
theorem Runs.blanks {s : ByteArray} {k : Nat} {ln : Bool} {l : List Tok} (h : Runs s k ln l) : ∃ k' ln', BReads s k ln k' ln' ∧ HeadG s k' ln' l := by
  cases l with
  | nil => obtain ⟨ln', h⟩ := h; exact ⟨s.size, ln', h, rfl⟩
  | cons t ts => obtain ⟨h, h1, k2, h2, h3⟩ := h; exact ⟨t.pos, t.line, h, rfl, rfl, h1, k2, h2, h3⟩
def HeadE (s : ByteArray) (p : Nat) (code : Int) (k : Nat) (ln : Bool) : List Tok → Prop
  | [] => k < s.size ∧ Fails s k p code
  | t :: ts => k = t.pos ∧ ln = t.line ∧ t.pos < s.size ∧ ∃ k2, Reads s t.pos k2 t.kind t.text ∧ RunsE s p code k2 false ts
theorem RunsE.blanks {s : ByteArray} {p : Nat} {code : Int} {k : Nat} {ln : Bool} {l : List Tok} (h : RunsE s p code k ln l) : (BFails s k ln p code ∧ l = []) ∨ ∃ k' ln', BReads s k ln k' ln' ∧ HeadE s p code k' ln' l := by
  cases l with
  | nil =>
    rcases h with h | ⟨k', ln', h, h1, h2⟩
    · exact .inl ⟨h, rfl⟩
    · exact .inr ⟨k', ln', h, h1, h2⟩
  | cons t ts => obtain ⟨h, h1, k2, h2, h3⟩ := h; exact .inr ⟨t.pos, t.line, h, rfl, rfl, h1, k2, h2, h3⟩

set_option maxRecDepth 100000 in
set_option maxHeartbeats 800000 in
theorem scan_runs (s : ByteArray) (w : World) (hs : s.size ≤ 20000) (hG : Glob w) (toks : List Tok) (hlen : toks.length ≤ 20000) (hch : Runs s 0 true toks) :
    Calls Tryd.prog 28 #[.string s] w fun e w' => ∃ v, e = .returned (.tuple #[v, .int .i64 0, .int .i64 0]) ∧ w'.ownsRow w.heap.size 36 4 v toks.length (tokCells toks) ∧ w.grownBy w' none := by
  have hmf : ∀ (fn : Fn) (first cap : Array Value) (w : World), (Instr.makeFunc fn first cap).run Tryd.prog w = .ok (.func fn first cap) w := fun _ _ _ _ => rfl
  have K := Lib.hid (fun W (h : GKw W) => keywordSet_any W h)
  have RD := Lib.hid (fun b W => readers_any b W)
  have hG4 := hG.size
  have g0 : w.grownBy (((w.alloc (.cells #[.slice none 0 0] 30)).alloc (.cells #[.int .i64 0] 3)).alloc (.cells #[.int .i64 0] 23)) none := ((grown_alloc w _ none).trans (grown_alloc _ _ none)).trans (grown_alloc _ _ none)
  have gk := (hG.grown g0 (fun k h => by cases h)).kw
  go_enter_defers Tryd.func28, Tryd.ntmps28
  go_wp2_with fail
  refine (K.out _ gk).mono ?_
  rintro e w1 ⟨rfl, hM, hg1⟩
  have H0 : ∀ k, k < w.heap.size + 3 → w1.heap[k]? = (((w.alloc (.cells #[.slice none 0 0] 30)).alloc (.cells #[.int .i64 0] 3)).alloc (.cells #[.int .i64 0] 23)).heap[k]? := fun k hk => hg1.block k (by simp; omega) (by simp)
  have C0 : w1.heap[w.heap.size]? = some (.cells #[.slice none 0 0] 30 (0, 0)) := by
    rw [H0 _ (by omega)]; simp only [heap_alloc_if, World.size_alloc]; rw [if_neg (by omega), if_neg (by omega)]; simp
  have C1 : w1.heap[w.heap.size + 1]? = some (.cells #[.int .i64 0] 3 (0, 0)) := by
    rw [H0 _ (by omega)]; simp only [heap_alloc_if, World.size_alloc]; rw [if_neg (by omega)]; simp
  have C2 : w1.heap[w.heap.size + 2]? = some (.cells #[.int .i64 0] 23 (0, 0)) := by
    rw [H0 _ (by omega)]; simp only [heap_alloc_if, World.size_alloc]; simp
  have gw1 : w.grownBy w1 none := g0.trans hg1
  have hs1 := hg1.size
  simp only [World.size_alloc] at hs1 hM
  have hm1 := hM.lt
  simp only [World.size_alloc]
  clear H0 hg1 g0 K gk
  have hG1 := hG.grown gw1 (fun k h => by cases h)
  go_wp2_with fail
  refine (RD.out w1.heap.size _).mono ?_
  rintro e w2 ⟨rfl, hB, hb2⟩
  simp only [World.size_alloc] at hB hb2 ⊢
  have hs2 := hb2.size
  have g2 : w1.grownBy w2 none := (grown_alloc w1 _ none).trans (grown_of_below (by simpa using hb2) none)
  have S2 : Scn w2 w1.heap.size s 0 true (.map (some (w.heap.size + 1 + 1 + 1))) (.slice none 0 0) := by
    unfold Scn
    rw [hb2.block _ (by omega)]
    simp only [heap_alloc_if, if_true]
  have M2 : SM w2 w1.heap.size (w.heap.size + 1 + 1 + 1) s (0 : Nat) true (.slice none 0 0) :=
    ⟨S2, hB, hM.kept g2 (by simp), hG1.grown g2 (fun k h => by cases h), by have := (Array.getElem?_eq_some_iff.1 hB.sy).1; omega⟩
  clear hb2 RD hB S2 hM
  obtain ⟨k0, ln0, hF0, hh0⟩ := hch.blanks
  go_wp2_with fail
  have hk3 := hF0.1
  refine (hF0.2 w2 w1.heap.size (w.heap.size + 1 + 1 + 1) _ (by omega) (by omega) M2).mono ?_
  rintro e w3 ⟨rfl, h3, g3⟩
  have M3 := M2.next (by omega) (by omega) g3 h3
  have G3 : w1.grownBy w3 none := grown_over g2 g3
  clear M2 g2 g3 h3 hF0
  obtain ⟨i0, hi, hz0, hz1, hz2⟩ := info_parts (P := Tryd.prog) (e := 36) (z := .agg #[.int .i64 0, .string ⟨#[]⟩, .int .i64 0, .bool false]) (size := 4) (bytes := 40) (by kernel_rfl)
  go_wp2_with fail
  go_loopg [7] toks.length (fun g _ wr => ∃ don rest k ln T, toks = don ++ rest ∧ rest.length = g ∧ HeadG s k ln rest ∧ k ≤ s.size ∧ SM wr w1.heap.size (w.heap.size + 1 + 1 + 1) s k ln T ∧ w1.grownBy wr none ∧ wr.ownsRow (w1.heap.size + 4) 36 4 T don.length (tokCells don))
  case atStart => exact ⟨[], toks, k0, ln0, _, rfl, rfl, hh0, hk3, M3, G3, World.ownsRow_nil _ _ _ _⟩
  case round =>
    obtain ⟨don, rest, k, ln, T, rfl, rfl, hh, hk, hM, hg, hrow⟩ := hrel
    have hgs := hg.size
    cases rest with
    | nil =>
      have e1 : k = s.size := hh
      subst e1
      have c1 := hM.scn.c1
      obtain ⟨va, vn, vc, rfl⟩ := row_slice hrow
      have c4 := hM.scn.c4
      have i1 : ¬ (s.size : Int) < s.size := by omega
      have i2 : (s.size : Int) ≤ 20000 := by omega
      have D0 : wr.heap[w.heap.size]? = some (.cells #[.slice none 0 0] 30 (0, 0)) := (hg.block _ (by omega) (by simp)).trans C0
      have D1 : wr.heap[w.heap.size + 1]? = some (.cells #[.int .i64 0] 3 (0, 0)) := (hg.block _ (by omega) (by simp)).trans C1
      have D2 : wr.heap[w.heap.size + 2]? = some (.cells #[.int .i64 0] 23 (0, 0)) := (hg.block _ (by omega) (by simp)).trans C2
      have e0 : wr.cell? ⟨w.heap.size, 0, none⟩ = some (.slice none 0 0) := by simp [World.cell?, D0]
      have e1 : wr.cell? ⟨w.heap.size + 1, 0, none⟩ = some (.int .i64 0) := by simp [World.cell?, D1]
      have e2 : wr.cell? ⟨w.heap.size + 1 + 1, 0, none⟩ = some (.int .i64 0) := by simp [World.cell?, D2]
      have f0 : wr.frozen? ⟨w.heap.size, 0, none⟩ = false := by simp [World.frozen?, D0]
      have f1 : wr.frozen? ⟨w.heap.size + 1, 0, none⟩ = false := by simp [World.frozen?, D1]
      have f2 : wr.frozen? ⟨w.heap.size + 1 + 1, 0, none⟩ = false := by simp [World.frozen?, D2]
      have X1 : w.grownBy wr none := gw1.trans hg
      have kp : ∀ (W : World) (q i : Nat) (v : Value), q < w1.heap.size → W.ownsRow (w1.heap.size + 4) 36 4 (.slice va vn vc) don.length (tokCells don) → (W.setCell ⟨q, i, none⟩ v).ownsRow (w1.heap.size + 4) 36 4 (.slice va vn vc) don.length (tokCells don) := fun W q i v hq h =>
        h.kept (grown_set q i v) (by
          cases hv : (Value.ownBlock (.slice va vn vc)) with
          | none => exact .inl rfl
          | some j => exact .inr (fun e => by have := (h.lt j hv).1; cases e; omega))
      have gp : ∀ (W : World) (q i : Nat) (v : Value), w.heap.size ≤ q → w.grownBy W none → w.grownBy (W.setCell ⟨q, i, none⟩ v) none := fun W q i v hq h => grown_app h (grown_set q i v) (fun j e => by cases e; exact hq)
      go_wp2_with fail
      refine leaves_cons (f := 40) (args := #[.pointer (some ⟨w.heap.size, 0, none⟩), .pointer (some ⟨w.heap.size + 1, 0, none⟩), .pointer (some ⟨w.heap.size + 1 + 1, 0, none⟩)]) (by simp) (by simp [go_sem]) ?_
      refine (catch_idle _ _ _ _).mono ?_
      rintro e u' w'' ⟨rfl, rfl, rfl⟩
      simp [Leaves, settle, results, Tryd.results28, go_sem, e0, e1, e2]
      exact ⟨row_base (kp _ _ _ _ (by omega) (kp _ _ _ _ (by omega) (kp _ _ _ _ (by omega) hrow))) (by omega), gp _ _ _ _ (by omega) (gp _ _ _ _ (by omega) (gp _ _ _ _ (by omega) X1))⟩
    | cons t ts =>
      obtain ⟨rfl, rfl, hlt, k2, hR, hC⟩ := hh
      have c1 := hM.scn.c1
      have c2 := hM.scn.c2
      have f2 := hM.scn.fz 2
      have i1 : (t.pos : Int) < s.size := by omega
      have i2 : (s.size : Int) ≤ 20000 := by omega
      obtain ⟨c, hc⟩ : ∃ c, s[t.pos] = c := ⟨_, rfl⟩
      have hc' : ∀ h : t.pos < s.size, s[t.pos]'h = c := fun _ => hc
      have hM1 : ∀ n, SM ((wr.drewN n).setCell ⟨w1.heap.size, 2, none⟩ (.bool false)) w1.heap.size (w.heap.size + 1 + 1 + 1) s t.pos false T := fun n =>
        hM.next (by omega) (by omega) ((grown_drewN wr n _).trans (grown_set _ _ _)) ((hM.scn.drewN n).set2 false)
      have R := Lib.hid (fun n => hR _ w1.heap.size (w.heap.size + 1 + 1 + 1) T c (by omega) (by omega) hc' (hM1 n))
      have HM1 := Lib.hid hM1
      have HM := Lib.hid hM
      clear hR hc' hM1 hM
      go_wp2_with fail
      go_quiet (fail)
      go_wp2_with fail
      refine (R.out _).mono ?_
      rintro e w4 ⟨rfl, h4, g4⟩
      have M4 := (HM1.out nq).next (by omega) (by omega) g4 h4
      have gw4 : wr.grownBy w4 (some w1.heap.size) := ((grown_drewN wr nq _).trans (grown_set _ _ _)).trans g4
      have G4 := grown_over hg gw4
      have row4 := hrow.kept gw4 (by
        cases hv : (Value.ownBlock T) with
        | none => exact .inl rfl
        | some q => exact .inr (fun e => by have := (hrow.lt q hv).1; cases e; omega))
      have c4 := h4.c4
      have f4 := h4.fz 4
      have big4 := M4.big
      have hbl := M4.scn.lt
      clear g4 h4 R HM1 c1 c2 f2 hrow
      go_wp2_with (refine wpList_append_own _ rfl _ _ 30 rfl (w1.heap.size + 4) 36 i0 (.agg #[.int .i64 0, .string ⟨#[]⟩, .int .i64 0, .bool false]) 4 40 Tryd.underlying30 hi hz0 hz1 hz2 rfl (by decide) T don.length _ rfl (row4.alloc _) ⟨w4.heap.size, 0, none⟩ 1 1 t.cells rfl rfl ?_ ?_ ?_ ?_ ?_ ?_)
      · intro j u hj
        match j, hj with
        | 0, hj => simp [Tok.cells] at hj; subst hj; simp [Addr.add]
        | 1, hj => simp [Tok.cells] at hj; subst hj; simp [Addr.add]
        | 2, hj => simp [Tok.cells] at hj; subst hj; simp [Addr.add]
        | 3, hj => simp [Tok.cells] at hj; subst hj; simp [Addr.add]
        | (j + 4), hj => simp [Tok.cells] at hj
      · intro u hu; simp [Tok.cells] at hu; rcases hu with rfl | rfl | rfl | rfl <;> rfl
      · simp at hlen; unfold maxLen; omega
      · simp at hlen; omega
      · simp; omega
      · intro v' w5 ho5 hg5 _
        have hL := row4.lt
        have M5 := M4.append ((grown_alloc w4 _ _).trans hg5) (fun q e => (hL q e).1) (by omega) (by omega)
        have G5 : w1.grownBy w5 none := grown_app G4 ((grown_alloc w4 _ _).trans hg5) (fun q e => by have := (hL q e).1; omega)
        have hs5 := M5.big
        have c5 := M5.scn.c4
        have f5 := M5.scn.fz 4
        have M6 := M5.next (T' := v') (by omega) (by omega) (grown_set w1.heap.size 4 v') (M5.scn.set4 v')
        have G6 := grown_over G5 (grown_set w1.heap.size 4 v')
        have ho6 := ho5.kept (grown_set w1.heap.size 4 v') (by
          cases hv : (Value.ownBlock v') with
          | none => exact .inl rfl
          | some q => exact .inr (fun e => by have := (ho5.lt q hv).1; cases e; omega))
        obtain ⟨k', ln', hF', hh'⟩ := hC.blanks
        have hk7 := hF'.1
        obtain ⟨va, vn, vc, rfl⟩ := row_slice ho5
        have B6 := Lib.hid (hF'.2 _ w1.heap.size (w.heap.size + 1 + 1 + 1) _ (by omega) (by omega) M6)
        have M6' := Lib.hid M6
        clear hg5 row4 c4 f4 hL M5 G5 M4 G4 M6 ho5 hF'
        go_wp2_with fail
        refine B6.out.mono ?_
        rintro e w7 ⟨rfl, h7, g7⟩
        have M7 := M6'.out.next (by omega) (by omega) g7 h7
        have G7 := grown_over G6 g7
        have ho7 := ho6.kept g7 (by
          cases hv : (Value.ownBlock (.slice va vn vc)) with
          | none => exact .inl rfl
          | some q => exact .inr (fun e => by have := (ho6.lt q hv).1; cases e; omega))
        go_wp2_with fail
        go_roundg ts.length
        case rel => exact ⟨don ++ [t], ts, k', ln', _, by simp, rfl, hh', hk7, M7, G7, by rw [tokCells_snoc, List.length_append]; exact ho7⟩
        case measure => simp

theorem below_under {w W W' : World} (h : w.grownBy W none) (hb : Below w.heap.size W W') : w.grownBy W' none :=
  ⟨hb.os.trans h.os, hb.tape.trans h.tape, hb.output.trans h.output, Nat.le_trans h.size hb.size, fun k hk hn => (hb.block k hk).trans (h.block k hk hn)⟩

set_option maxRecDepth 100000 in
set_option maxHeartbeats 800000 in
theorem scan_fails (s : ByteArray) (w : World) (hs : s.size ≤ 20000) (hG : Glob w) (p : Nat) (code : Int) (toks : List Tok) (hlen : toks.length ≤ 20000) (hch : RunsE s p code 0 true toks) :
    Calls Tryd.prog 28 #[.string s] w fun e w' => e = .returned (.tuple #[.slice none 0 0, .int .i64 (p : Int), .int .i64 code]) ∧ w.grownBy w' none := by
  have hmf : ∀ (fn : Fn) (first cap : Array Value) (w : World), (Instr.makeFunc fn first cap).run Tryd.prog w = .ok (.func fn first cap) w := fun _ _ _ _ => rfl
  have K := Lib.hid (fun W (h : GKw W) => keywordSet_any W h)
  have RD := Lib.hid (fun b W => readers_any b W)
  have hG4 := hG.size
  have g0 : w.grownBy (((w.alloc (.cells #[.slice none 0 0] 30)).alloc (.cells #[.int .i64 0] 3)).alloc (.cells #[.int .i64 0] 23)) none := ((grown_alloc w _ none).trans (grown_alloc _ _ none)).trans (grown_alloc _ _ none)
  have gk := (hG.grown g0 (fun k h => by cases h)).kw
  go_enter_defers Tryd.func28, Tryd.ntmps28
  go_wp2_with fail
  refine (K.out _ gk).mono ?_
  rintro e w1 ⟨rfl, hM, hg1⟩
  have H0 : ∀ k, k < w.heap.size + 3 → w1.heap[k]? = (((w.alloc (.cells #[.slice none 0 0] 30)).alloc (.cells #[.int .i64 0] 3)).alloc (.cells #[.int .i64 0] 23)).heap[k]? := fun k hk => hg1.block k (by simp; omega) (by simp)
  have C0 : w1.heap[w.heap.size]? = some (.cells #[.slice none 0 0] 30 (0, 0)) := by
    rw [H0 _ (by omega)]; simp only [heap_alloc_if, World.size_alloc]; rw [if_neg (by omega), if_neg (by omega)]; simp
  have C1 : w1.heap[w.heap.size + 1]? = some (.cells #[.int .i64 0] 3 (0, 0)) := by
    rw [H0 _ (by omega)]; simp only [heap_alloc_if, World.size_alloc]; rw [if_neg (by omega)]; simp
  have C2 : w1.heap[w.heap.size + 2]? = some (.cells #[.int .i64 0] 23 (0, 0)) := by
    rw [H0 _ (by omega)]; simp only [heap_alloc_if, World.size_alloc]; simp
  have gw1 : w.grownBy w1 none := g0.trans hg1
  have hs1 := hg1.size
  simp only [World.size_alloc] at hs1 hM
  have hm1 := hM.lt
  simp only [World.size_alloc]
  clear H0 hg1 g0 K gk
  have hG1 := hG.grown gw1 (fun k h => by cases h)
  go_wp2_with fail
  refine (RD.out w1.heap.size _).mono ?_
  rintro e w2 ⟨rfl, hB, hb2⟩
  simp only [World.size_alloc] at hB hb2 ⊢
  have hs2 := hb2.size
  have g2 : w1.grownBy w2 none := (grown_alloc w1 _ none).trans (grown_of_below (by simpa using hb2) none)
  have S2 : Scn w2 w1.heap.size s 0 true (.map (some (w.heap.size + 1 + 1 + 1))) (.slice none 0 0) := by
    unfold Scn
    rw [hb2.block _ (by omega)]
    simp only [heap_alloc_if, if_true]
  have M2 : SM w2 w1.heap.size (w.heap.size + 1 + 1 + 1) s (0 : Nat) true (.slice none 0 0) :=
    ⟨S2, hB, hM.kept g2 (by simp), hG1.grown g2 (fun k h => by cases h), by have := (Array.getElem?_eq_some_iff.1 hB.sy).1; omega⟩
  clear hb2 RD hB S2 hM
  have DOOR : ∀ W : World, w1.grownBy W none → W.heap[w.heap.size]? = some (.cells #[.slice none 0 0] 30 (0, 0)) ∧ W.heap[w.heap.size + 1]? = some (.cells #[.int .i64 0] 3 (0, 0)) ∧ W.heap[w.heap.size + 2]? = some (.cells #[.int .i64 0] 23 (0, 0)) ∧ w.heap.size + 2 < W.heap.size := fun W hW =>
    ⟨(hW.block _ (by omega) (by simp)).trans C0, (hW.block _ (by omega) (by simp)).trans C1, (hW.block _ (by omega) (by simp)).trans C2, by have := hW.size; omega⟩
  have DR := Lib.hid DOOR
  have GW := Lib.hid gw1
  clear DOOR
  go_wp2_with fail
  rcases hch.blanks with ⟨hB0, rfl⟩ | ⟨k0, ln0, hF0, hh0⟩
  · refine (hB0 w2 w1.heap.size (w.heap.size + 1 + 1 + 1) _ (by omega) (by omega) M2).mono ?_
    rintro e w3 ⟨he, g3⟩
    unfold fltE at he
    subst he
    have G3 : w1.grownBy w3 none := grown_over g2 g3
    obtain ⟨D0, D1, D2, hsz⟩ := DR.out w3 G3
    go_wp2_with fail
    refine leaves_cons (f := 40) (args := #[.pointer (some ⟨w.heap.size, 0, none⟩), .pointer (some ⟨w.heap.size + 1, 0, none⟩), .pointer (some ⟨w.heap.size + 1 + 1, 0, none⟩)]) (by simp) (by simp [go_sem]) ?_
    refine (catch_fault w.heap.size p code [] _ _ _ _ D0 D1 D2 hsz).mono ?_
    rintro e u' w'' ⟨rfl, rfl, a0, a1, a2, bl⟩
    simp [Leaves, settle, results, Tryd.results28, go_sem, a0, a1, a2]
    exact below_under (GW.out.trans G3) bl
  have hk3 := hF0.1
  refine (hF0.2 w2 w1.heap.size (w.heap.size + 1 + 1 + 1) _ (by omega) (by omega) M2).mono ?_
  rintro e w3 ⟨rfl, h3, g3⟩
  have M3 := M2.next (by omega) (by omega) g3 h3
  have G3 : w1.grownBy w3 none := grown_over g2 g3
  clear M2 g2 g3 h3 hF0
  obtain ⟨i0, hi, hz0, hz1, hz2⟩ := info_parts (P := Tryd.prog) (e := 36) (z := .agg #[.int .i64 0, .string ⟨#[]⟩, .int .i64 0, .bool false]) (size := 4) (bytes := 40) (by kernel_rfl)
  go_wp2_with fail
  go_loopg [7] toks.length (fun g _ wr => ∃ don rest k ln T, toks = don ++ rest ∧ rest.length = g ∧ HeadE s p code k ln rest ∧ k ≤ s.size ∧ SM wr w1.heap.size (w.heap.size + 1 + 1 + 1) s k ln T ∧ w1.grownBy wr none ∧ wr.ownsRow (w1.heap.size + 4) 36 4 T don.length (tokCells don))
  case atStart => exact ⟨[], toks, k0, ln0, _, rfl, rfl, hh0, hk3, M3, G3, World.ownsRow_nil _ _ _ _⟩
  case round =>
    obtain ⟨don, rest, k, ln, T, rfl, rfl, hh, hk, hM, hg, hrow⟩ := hrel
    have hgs := hg.size
    cases rest with
    | nil =>
      obtain ⟨hlt, hR⟩ := hh
      have c1 := hM.scn.c1
      have c2 := hM.scn.c2
      have f2 := hM.scn.fz 2
      have i1 : (k : Int) < s.size := by omega
      have i2 : (s.size : Int) ≤ 20000 := by omega
      obtain ⟨c, hc⟩ : ∃ c, s[k] = c := ⟨_, rfl⟩
      have hc' : ∀ h : k < s.size, s[k]'h = c := fun _ => hc
      have hM1 : ∀ n, SM ((wr.drewN n).setCell ⟨w1.heap.size, 2, none⟩ (.bool false)) w1.heap.size (w.heap.size + 1 + 1 + 1) s k false T := fun n =>
        hM.next (by omega) (by omega) ((grown_drewN wr n _).trans (grown_set _ _ _)) ((hM.scn.drewN n).set2 false)
      have R := Lib.hid (fun n => hR _ w1.heap.size (w.heap.size + 1 + 1 + 1) T c (by omega) (by omega) hc' (hM1 n))
      clear hR hc' hM1 hM
      go_wp2_with fail
      go_quiet (fail)
      go_wp2_with fail
      refine (R.out _).mono ?_
      rintro e w4 ⟨he, g4⟩
      unfold fltE at he
      subst he
      have gw4 : wr.grownBy w4 (some w1.heap.size) := ((grown_drewN wr nq _).trans (grown_set _ _ _)).trans g4
      have G4 := grown_over hg gw4
      obtain ⟨D0, D1, D2, hsz⟩ := DR.out w4 G4
      go_wp2_with fail
      refine leaves_cons (f := 40) (args := #[.pointer (some ⟨w.heap.size, 0, none⟩), .pointer (some ⟨w.heap.size + 1, 0, none⟩), .pointer (some ⟨w.heap.size + 1 + 1, 0, none⟩)]) (by simp) (by simp [go_sem]) ?_
      refine (catch_fault w.heap.size p code [] _ _ _ _ D0 D1 D2 hsz).mono ?_
      rintro e u' w'' ⟨rfl, rfl, a0, a1, a2, bl⟩
      simp [Leaves, settle, results, Tryd.results28, go_sem, a0, a1, a2]
      exact below_under (GW.out.trans G4) bl
    | cons t ts =>
      obtain ⟨rfl, rfl, hlt, k2, hR, hC⟩ := hh
      have c1 := hM.scn.c1
      have c2 := hM.scn.c2
      have f2 := hM.scn.fz 2
      have i1 : (t.pos : Int) < s.size := by omega
      have i2 : (s.size : Int) ≤ 20000 := by omega
      obtain ⟨c, hc⟩ : ∃ c, s[t.pos] = c := ⟨_, rfl⟩
      have hc' : ∀ h : t.pos < s.size, s[t.pos]'h = c := fun _ => hc
      have hM1 : ∀ n, SM ((wr.drewN n).setCell ⟨w1.heap.size, 2, none⟩ (.bool false)) w1.heap.size (w.heap.size + 1 + 1 + 1) s t.pos false T := fun n =>
        hM.next (by omega) (by omega) ((grown_drewN wr n _).trans (grown_set _ _ _)) ((hM.scn.drewN n).set2 false)
      have R := Lib.hid (fun n => hR _ w1.heap.size (w.heap.size + 1 + 1 + 1) T c (by omega) (by omega) hc' (hM1 n))
      have HM1 := Lib.hid hM1
      have HM := Lib.hid hM
      clear hR hc' hM1 hM
      go_wp2_with fail
      go_quiet (fail)
      go_wp2_with fail
      refine (R.out _).mono ?_
      rintro e w4 ⟨rfl, h4, g4⟩
      have M4 := (HM1.out nq).next (by omega) (by omega) g4 h4
      have gw4 : wr.grownBy w4 (some w1.heap.size) := ((grown_drewN wr nq _).trans (grown_set _ _ _)).trans g4
      have G4 := grown_over hg gw4
      have row4 := hrow.kept gw4 (by
        cases hv : (Value.ownBlock T) with
        | none => exact .inl rfl
        | some q => exact .inr (fun e => by have := (hrow.lt q hv).1; cases e; omega))
      have c4 := h4.c4
      have f4 := h4.fz 4
      have big4 := M4.big
      have hbl := M4.scn.lt
      clear g4 h4 R HM1 c1 c2 f2 hrow
      go_wp2_with (refine wpList_append_own _ rfl _ _ 30 rfl (w1.heap.size + 4) 36 i0 (.agg #[.int .i64 0, .string ⟨#[]⟩, .int .i64 0, .bool false]) 4 40 Tryd.underlying30 hi hz0 hz1 hz2 rfl (by decide) T don.length _ rfl (row4.alloc _) ⟨w4.heap.size, 0, none⟩ 1 1 t.cells rfl rfl ?_ ?_ ?_ ?_ ?_ ?_)
      · intro j u hj
        match j, hj with
        | 0, hj => simp [Tok.cells] at hj; subst hj; simp [Addr.add]
        | 1, hj => simp [Tok.cells] at hj; subst hj; simp [Addr.add]
        | 2, hj => simp [Tok.cells] at hj; subst hj; simp [Addr.add]
        | 3, hj => simp [Tok.cells] at hj; subst hj; simp [Addr.add]
        | (j + 4), hj => simp [Tok.cells] at hj
      · intro u hu; simp [Tok.cells] at hu; rcases hu with rfl | rfl | rfl | rfl <;> rfl
      · simp at hlen; unfold maxLen; omega
      · simp at hlen; omega
      · simp; omega
      · intro v' w5 ho5 hg5 _
        have hL := row4.lt
        have M5 := M4.append ((grown_alloc w4 _ _).trans hg5) (fun q e => (hL q e).1) (by omega) (by omega)
        have G5 : w1.grownBy w5 none := grown_app G4 ((grown_alloc w4 _ _).trans hg5) (fun q e => by have := (hL q e).1; omega)
        have hs5 := M5.big
        have c5 := M5.scn.c4
        have f5 := M5.scn.fz 4
        have M6 := M5.next (T' := v') (by omega) (by omega) (grown_set w1.heap.size 4 v') (M5.scn.set4 v')
        have G6 := grown_over G5 (grown_set w1.heap.size 4 v')
        have ho6 := ho5.kept (grown_set w1.heap.size 4 v') (by
          cases hv : (Value.ownBlock v') with
          | none => exact .inl rfl
          | some q => exact .inr (fun e => by have := (ho5.lt q hv).1; cases e; omega))
        rcases hC.blanks with ⟨hB', rfl⟩ | ⟨k', ln', hF', hh'⟩
        · obtain ⟨va, vn, vc, rfl⟩ := row_slice ho5
          have B6 := Lib.hid (hB' _ w1.heap.size (w.heap.size + 1 + 1 + 1) _ (by omega) (by omega) M6)
          clear hg5 row4 c4 f4 hL M5 G5 M4 G4 M6 ho5 hB'
          go_wp2_with fail
          refine B6.out.mono ?_
          rintro e w7 ⟨he, g7⟩
          unfold fltE at he
          subst he
          have G7 := grown_over G6 g7
          obtain ⟨D0, D1, D2, hsz⟩ := DR.out w7 G7
          go_wp2_with fail
          refine leaves_cons (f := 40) (args := #[.pointer (some ⟨w.heap.size, 0, none⟩), .pointer (some ⟨w.heap.size + 1, 0, none⟩), .pointer (some ⟨w.heap.size + 1 + 1, 0, none⟩)]) (by simp) (by simp [go_sem]) ?_
          refine (catch_fault w.heap.size p code [] _ _ _ _ D0 D1 D2 hsz).mono ?_
          rintro e u' w'' ⟨rfl, rfl, a0, a1, a2, bl⟩
          simp [Leaves, settle, results, Tryd.results28, go_sem, a0, a1, a2]
          exact below_under (GW.out.trans G7) bl
        have hk7 := hF'.1
        obtain ⟨va, vn, vc, rfl⟩ := row_slice ho5
        have B6 := Lib.hid (hF'.2 _ w1.heap.size (w.heap.size + 1 + 1 + 1) _ (by omega) (by omega) M6)
        have M6' := Lib.hid M6
        clear hg5 row4 c4 f4 hL M5 G5 M4 G4 M6 ho5 hF'
        go_wp2_with fail
        refine B6.out.mono ?_
        rintro e w7 ⟨rfl, h7, g7⟩
        have M7 := M6'.out.next (by omega) (by omega) g7 h7
        have G7 := grown_over G6 g7
        have ho7 := ho6.kept g7 (by
          cases hv : (Value.ownBlock (.slice va vn vc)) with
          | none => exact .inl rfl
          | some q => exact .inr (fun e => by have := (ho6.lt q hv).1; cases e; omega))
        go_wp2_with fail
        go_roundg ts.length
        case rel => exact ⟨don ++ [t], ts, k', ln', _, by simp, rfl, hh', hk7, M7, G7, by rw [tokCells_snoc, List.length_append]; exact ho7⟩
        case measure => simp
end Go.Proofs.YtpebdfofnmojcaaDoor

/-
  DERIVED: THE SHELF's CONTRACTS AT THIS DUMP, IN PLAIN WORDS (tools/lay-plain.mjs out of 'YtpebdfofnmojcaaDoorShelf3.lean', which tools/lay-shelf.mjs wrote): THE SAME DECLARATIONS UNDER THE SAME NAMES: 'import', 'namespace', 'open', 'def', 'theorem' AND NOTHING ELSE: no command of the shelf's: FOR A HAND-IN. Each laying: the table of numbers ('.._ren') and one theorem, a field a fact of the dump's own or the kernel's comparison; each contract: ONE APPLICATION.
-/
namespace Go.Proofs
open Go.Shelf
def Tryd.lays143_ren : Go.Shelf.Ren := ⟨fun | 143 => 32 | 219 => 44 | 217 => 57 | 225 => 58 | 224 => 59 | 267 => 60 | 266 => 70 | 314 => 71 | n => n, fun | 9 => 9 | 3 => 3 | 4 => 4 | 5 => 5 | 46 => 56 | 146 => 87 | 51 => 86 | n => n, fun | 1 => 4 | n => n⟩
theorem Tryd.lays143 : Go.Proofs.Lays.n143 Tryd.prog Tryd.lays143_ren := {
  mixed := by kernel_rfl
  f143 := Tryd.func32.trans (congrArg some (by kernel_rfl))
  f217 := Tryd.func57.trans (congrArg some (by kernel_rfl))
  f219 := Tryd.func44.trans (congrArg some (by kernel_rfl))
  f224 := Tryd.func59.trans (congrArg some (by kernel_rfl))
  f225 := Tryd.func58.trans (congrArg some (by kernel_rfl))
  f266 := Tryd.func70.trans (congrArg some (by kernel_rfl))
  f267 := Tryd.func60.trans (congrArg some (by kernel_rfl))
  f314 := Tryd.func71.trans (congrArg some (by kernel_rfl))
  t3 := Tryd.underlying3
  a3 := Tryd.isAgg3
  z3 := Tryd.sizeOf3
  v3 := Tryd.zeroValue3
  t4 := Tryd.underlying4
  a4 := Tryd.isAgg4
  z4 := Tryd.sizeOf4
  v4 := Tryd.zeroValue4
  t5 := Tryd.underlying5
  a5 := Tryd.isAgg5
  z5 := Tryd.sizeOf5
  v5 := Tryd.zeroValue5
  t9 := Tryd.underlying9
  a9 := Tryd.isAgg9
  z9 := Tryd.sizeOf9
  v9 := Tryd.zeroValue9
  t46 := Tryd.underlying56
  a46 := Tryd.isAgg56
  z46 := Tryd.sizeOf56
  v46 := Tryd.zeroValue56
  t51 := Tryd.underlying86
  a51 := Tryd.isAgg86
  z51 := Tryd.sizeOf86
  v51 := Tryd.zeroValue86
  t146 := Tryd.underlying87
  a146 := Tryd.isAgg87
  z146 := Tryd.sizeOf87
  v146 := Tryd.zeroValue87
  g1 := by kernel_rfl }
def Tryd.lays144_ren : Go.Shelf.Ren := ⟨fun | 144 => 21 | 143 => 32 | 219 => 44 | 217 => 57 | 225 => 58 | 224 => 59 | 267 => 60 | 266 => 70 | 314 => 71 | n => n, fun | 9 => 9 | 4 => 4 | 3 => 3 | 5 => 5 | 46 => 56 | 146 => 87 | 51 => 86 | n => n, fun | 1 => 4 | n => n⟩
theorem Tryd.lays144 : Go.Proofs.Lays.n144 Tryd.prog Tryd.lays144_ren := {
  mixed := by kernel_rfl
  f143 := Tryd.func32.trans (congrArg some (by kernel_rfl))
  f144 := Tryd.func21.trans (congrArg some (by kernel_rfl))
  f217 := Tryd.func57.trans (congrArg some (by kernel_rfl))
  f219 := Tryd.func44.trans (congrArg some (by kernel_rfl))
  f224 := Tryd.func59.trans (congrArg some (by kernel_rfl))
  f225 := Tryd.func58.trans (congrArg some (by kernel_rfl))
  f266 := Tryd.func70.trans (congrArg some (by kernel_rfl))
  f267 := Tryd.func60.trans (congrArg some (by kernel_rfl))
  f314 := Tryd.func71.trans (congrArg some (by kernel_rfl))
  t3 := Tryd.underlying3
  a3 := Tryd.isAgg3
  z3 := Tryd.sizeOf3
  v3 := Tryd.zeroValue3
  t4 := Tryd.underlying4
  a4 := Tryd.isAgg4
  z4 := Tryd.sizeOf4
  v4 := Tryd.zeroValue4
  t5 := Tryd.underlying5
  a5 := Tryd.isAgg5
  z5 := Tryd.sizeOf5
  v5 := Tryd.zeroValue5
  t9 := Tryd.underlying9
  a9 := Tryd.isAgg9
  z9 := Tryd.sizeOf9
  v9 := Tryd.zeroValue9
  t46 := Tryd.underlying56
  a46 := Tryd.isAgg56
  z46 := Tryd.sizeOf56
  v46 := Tryd.zeroValue56
  t51 := Tryd.underlying86
  a51 := Tryd.isAgg86
  z51 := Tryd.sizeOf86
  v51 := Tryd.zeroValue86
  t146 := Tryd.underlying87
  a146 := Tryd.isAgg87
  z146 := Tryd.sizeOf87
  v146 := Tryd.zeroValue87
  g1 := by kernel_rfl }
end Go.Proofs

/- Contracts: comments of both kinds, blanks, over every text. -/
namespace Go.Proofs.YtpebdfofnmojcaaDoor
open Go.RowKit

/-- Where a comment of the second kind ends: fuel, the text from its begin on, how deep it is, the place. -/
def blkF : Nat → List UInt8 → Nat → Nat → Option Nat
  | 0, _, _, _ => none
  | n + 1, r, d, a =>
    if d = 0 then some a
    else if r.length ≤ a then none
    else if hasPre (r.drop a) [47, 42] = true then blkF n r (d + 1) (a + 2)
    else if hasPre (r.drop a) [42, 47] = true then blkF n r (d - 1) (a + 2)
    else blkF n r d (a + 1)
def blkEnd (r : List UInt8) : Option Nat := blkF (r.length + 5) r 1 2
theorem pre_two (l : List UInt8) (a : Nat) (x y : UInt8) (h : hasPre (l.drop a) [x, y] = true) : a + 2 ≤ l.length := by
  have := (List.isPrefixOf_iff_prefix.1 h).length_le
  simp at this; omega
theorem blkF_le (n : Nat) (r : List UInt8) (d a e : Nat) (ha : a ≤ r.length) (h : blkF n r d a = some e) : e ≤ r.length := by
  induction n generalizing d a with
  | zero => simp [blkF] at h
  | succ n ih =>
    unfold blkF at h
    split at h
    · simp at h; omega
    · split at h
      · cases h
      · split at h
        · rename_i hp; exact ih _ _ (pre_two r a _ _ hp) h
        · split at h
          · rename_i hp; exact ih _ _ (pre_two r a _ _ hp) h
          · exact ih _ _ (by omega) h

theorem tryd_contains (s : ByteArray) (w : World) :
    Calls Tryd.prog 21 #[.string s, .string ⟨#[10]⟩] w fun e w' => e = .returned (.bool (decide (0 ≤ Lib.indexByte s.data.toList 10))) ∧ w' = w := Any.strings_Contains_one Tryd.lays144 s 10 w

def BlkOk (r : List UInt8) (o : Option Nat) : Option Nat := match o with
  | some e => if Lib.validD (r.take e) = true then some e else none
  | none => none

def BlkPost (b : Nat) (s : ByteArray) (k : Nat) (ln : Bool) (M T : Value) (r : List UInt8) : Option Nat → Ending → World → Prop
  | some a, e, w' => e = .returned (.tuple #[]) ∧ Scn w' b s (k + a : Nat) (ln || decide (0 ≤ Lib.indexByte (r.take a) 10)) M T
  | none, e, _ => e = fltE k 32

set_option maxRecDepth 100000 in
set_option maxHeartbeats 1000000 in
theorem block_any (b : Nat) (s r : ByteArray) (k : Nat) (ln : Bool) (M T : Value) (w : World) (hs : s.size ≤ 4000000000) (hr : k + r.size ≤ s.size) (hr2 : 2 ≤ r.size) (h : Scn w b s k ln M T) (hG : Glob w) :
    Calls Tryd.prog 56 #[.pointer (some ⟨b, 0, none⟩), .string r] w fun e w' =>
      BlkPost b s k ln M T r.data.toList (BlkOk r.data.toList (blkEnd r.data.toList)) e w' ∧ w.grownBy w' (some b) := by
  have c1 := h.c1
  have HH := Lib.hid h
  have HG := Lib.hid hG
  have i1 : (r.size : Int) ≤ 4000000000 := by omega
  obtain ⟨R, hR⟩ : ∃ R, blkEnd r.data.toList = R := ⟨_, rfl⟩
  rw [hR]
  have hR' : blkF (r.size + 5) r.data.toList 1 2 = R := by rw [← hR]; unfold blkEnd; rw [len_list]
  clear hG hR h
  go_enter Tryd.func56, Tryd.ntmps56
  go_wp2_with fail
  go_loopg [4, 5] (r.size + 5) (fun g td ta wr => ∃ d a : Nat, td = .int .i64 d ∧ ta = .int .i64 a ∧ d ≤ a ∧ a ≤ r.size ∧ r.size + 1 < a + g ∧ Hid (blkF g r.data.toList d a = R) ∧ wr = w)
  case atStart => exact ⟨1, 2, rfl, rfl, by omega, hr2, by omega, Lib.hid hR', rfl⟩
  case round =>
    obtain ⟨d, a, rfl, rfl, hda, har, hfu, hF, rfl⟩ := hrel
    cases gk with
    | zero => omega
    | succ g =>
      have hF2 := hF.out
      unfold blkF at hF2
      rw [len_list] at hF2
      have j1 : (a : Int) ≤ r.size := by omega
      have j2 : (d : Int) ≤ a := by omega
      have hh := HH.out
      have f1 := hh.fz 1
      have f2 := hh.fz 2
      by_cases hd : d = 0
      · rw [if_pos hd] at hF2
        subst hd
        subst hF2
        have e1 : (r.extract 0 a).data.toList = r.data.toList.take a := by rw [extract_list]; simp
        have e2 : (r.extract 0 a).size = a := by rw [← len_list, e1]; simp; omega
        have V := Tryd.utf8_ValidString (r.extract 0 a) wr (by omega) HG.out.u8
        have X : ∀ W, Calls Tryd.prog 21 #[.string (r.extract 0 a), .string ⟨#[10]⟩] W fun e w' => e = .returned (.bool (decide (0 ≤ Lib.indexByte (r.data.toList.take a) 10))) ∧ W = w' := fun W => by
          have := tryd_contains (r.extract 0 a) W
          rw [e1] at this
          exact this.mono fun _ _ ⟨h1, h2⟩ => ⟨h1, h2.symm⟩
        rw [e1] at V
        have X' := Lib.hid X
        cases hv : Lib.validD (r.data.toList.take a) with
        | false =>
          rw [hv] at V
          have V' := Lib.hid V
          have BO : Hid (BlkOk r.data.toList (some a) = none) := Lib.hid (by simp [BlkOk, hv])
          clear V X X' e1 e2 hv c1 f1 f2
          go_wp2_with fail
          refine V'.out.mono ?_
          rintro e w1 ⟨rfl, hb1⟩
          have hs1 := HH.out.grown (grown_of_below hb1 none) (by simp)
          have c1 := hs1.c1
          go_wp2_with fail
          exact ⟨rfl, by rw [BO.out]; rfl, grown_of_below hb1 _⟩
        | true =>
          rw [hv] at V
          have V' := Lib.hid V
          have BO : Hid (BlkOk r.data.toList (some a) = some a) := Lib.hid (by simp [BlkOk, hv])
          clear V X e1 e2 hv c1 f1 f2
          cases hx : decide (0 ≤ Lib.indexByte (r.data.toList.take a) 10) with
          | true =>
            have HX := Lib.hid hx
            rw [hx] at X'
            clear hx
            go_wp2_with fail
            refine V'.out.mono ?_
            rintro e w1 ⟨rfl, hb1⟩
            have hs1 := HH.out.grown (grown_of_below hb1 none) (by simp)
            have g1 := grown_of_below hb1 (some b)
            go_wp2_with fail
            refine (X'.out _).mono ?_
            rintro e w2 ⟨rfl, rfl⟩
            have c1 := hs1.c1
            have c2 := hs1.c2
            have f1 := hs1.fz 1
            have f2 := hs1.fz 2
            go_wp2_with fail
            go_end0
            refine ⟨?_, (g1.trans (grown_set _ _ _)).trans (grown_set _ _ _)⟩
            rw [BO.out]
            refine ⟨rfl, ?_⟩
            rw [HX.out, Bool.or_true]
            simpa using (hs1.set2 true).set1 ((k : Int) + a)
          | false =>
            have HX := Lib.hid hx
            rw [hx] at X'
            clear hx
            go_wp2_with fail
            refine V'.out.mono ?_
            rintro e w1 ⟨rfl, hb1⟩
            have hs1 := HH.out.grown (grown_of_below hb1 none) (by simp)
            have g1 := grown_of_below hb1 (some b)
            go_wp2_with fail
            refine (X'.out _).mono ?_
            rintro e w2 ⟨rfl, rfl⟩
            have c1 := hs1.c1
            have f1 := hs1.fz 1
            go_wp2_with fail
            go_end0
            refine ⟨?_, g1.trans (grown_set _ _ _)⟩
            rw [BO.out]
            refine ⟨rfl, ?_⟩
            rw [HX.out, Bool.or_false]
            simpa using hs1.set1 ((k : Int) + a)
      · rw [if_neg hd] at hF2
        have j3 : (0 : Int) < d := by omega
        by_cases hlt : a < r.size
        · rw [if_neg (by omega)] at hF2
          have j4 : ¬ (r.size : Int) ≤ a := by omega
          have sz := Lib.hid (rest_size r a)
          have PA : ∀ W, Calls Tryd.prog 54 #[.string (r.extract a r.size), .string ⟨#[47, 42]⟩] W fun e w' => e = .returned (.bool (hasPre (r.data.toList.drop a) [47, 42])) ∧ W = w' := fun W => by
            have := prefix_any (r.extract a r.size) ⟨#[47, 42]⟩ W (by unfold maxLen; rw [sz.out]; omega) (by unfold maxLen; decide)
            rwa [rest_list] at this
          have PB : ∀ W, Calls Tryd.prog 54 #[.string (r.extract a r.size), .string ⟨#[42, 47]⟩] W fun e w' => e = .returned (.bool (hasPre (r.data.toList.drop a) [42, 47])) ∧ W = w' := fun W => by
            have := prefix_any (r.extract a r.size) ⟨#[42, 47]⟩ W (by unfold maxLen; rw [sz.out]; omega) (by unfold maxLen; decide)
            rwa [rest_list] at this
          cases hA : hasPre (r.data.toList.drop a) [47, 42] with
          | true =>
            rw [hA] at hF2 PA
            simp only [if_true] at hF2
            have hp := pre_two _ _ _ _ hA
            rw [len_list] at hp
            have PA' := Lib.hid PA
            have HF := Lib.hid hF2
            clear PA PB hF2 hA hF hh f1 f2 hR'
            go_wp2_with fail
            refine (PA'.out _).mono ?_
            rintro e w2 ⟨rfl, rfl⟩
            go_wp2_with fail
            go_roundg g
            case rel => exact ⟨d + 1, a + 2, by simp, by simp, by omega, hp, by omega, HF, rfl⟩
            case measure => omega
          | false =>
            rw [hA] at hF2 PA
            simp only [Bool.false_eq_true, if_false] at hF2
            have PA' := Lib.hid PA
            cases hB : hasPre (r.data.toList.drop a) [42, 47] with
            | true =>
              rw [hB] at hF2 PB
              simp only [if_true] at hF2
              have hp := pre_two _ _ _ _ hB
              rw [len_list] at hp
              have PB' := Lib.hid PB
              have HF := Lib.hid hF2
              clear PA PB hF2 hA hB hF hh f1 f2 hR'
              go_wp2_with fail
              refine (PA'.out _).mono ?_
              rintro e w2 ⟨rfl, rfl⟩
              go_wp2_with fail
              refine (PB'.out _).mono ?_
              rintro e w2 ⟨rfl, rfl⟩
              go_wp2_with fail
              go_roundg g
              case rel => exact ⟨d - 1, a + 2, by congr 1; omega, by simp, by omega, hp, by omega, HF, rfl⟩
              case measure => omega
            | false =>
              rw [hB] at hF2 PB
              simp only [Bool.false_eq_true, if_false] at hF2
              have PB' := Lib.hid PB
              have HF := Lib.hid hF2
              clear PA PB hF2 hA hB hF hh f1 f2 hR'
              go_wp2_with fail
              refine (PA'.out _).mono ?_
              rintro e w2 ⟨rfl, rfl⟩
              go_wp2_with fail
              refine (PB'.out _).mono ?_
              rintro e w2 ⟨rfl, rfl⟩
              go_wp2_with fail
              go_roundg g
              case rel => exact ⟨d, a + 1, rfl, by simp, by omega, by omega, by omega, HF, rfl⟩
              case measure => omega
        · rw [if_pos (by omega)] at hF2
          subst hF2
          have j4 : (r.size : Int) ≤ a := by omega
          clear hF hh f1 f2
          go_wp2_with fail
          exact ⟨rfl, rfl, grown_of_below (Below.refl _ _) _⟩
end Go.Proofs.YtpebdfofnmojcaaDoor

/- Contracts: comments of the first kind that are not valid; blanks and comments over every text. -/
namespace Go.Proofs.YtpebdfofnmojcaaDoor
open Go.RowKit

/-- Where blanks and comments end, and whether a line feed was among them; or where the comment begins that is none. -/
def blG : Nat → List UInt8 → Nat → Bool → Option ((Nat × Bool) ⊕ Nat)
  | 0, _, _, _ => none
  | n + 1, l, k, ln =>
    if l.length ≤ k then some (.inl (k, ln))
    else if byteV l k = 10 then blG n l (k + 1) true
    else if byteV l k = 32 ∨ byteV l k = 9 ∨ byteV l k = 13 then blG n l (k + 1) ln
    else if hasPre (l.drop k) [47, 47] = true then
      (if Lib.validD ((l.drop k).take (lineLen (l.drop k))) = true then blG n l (k + lineLen (l.drop k)) ln else some (.inr k))
    else if hasPre (l.drop k) [47, 42] = true then
      (match BlkOk (l.drop k) (blkEnd (l.drop k)) with
        | some a => blG n l (k + a) (ln || decide (0 ≤ Lib.indexByte ((l.drop k).take a) 10))
        | none => some (.inr k))
    else some (.inl (k, ln))
def BlPost (b : Nat) (s : ByteArray) (M T : Value) : (Nat × Bool) ⊕ Nat → Ending → World → Prop
  | .inl x, e, w' => e = .returned (.tuple #[]) ∧ Scn w' b s (x.1 : Nat) x.2 M T ∧ x.1 ≤ s.size
  | .inr p, e, _ => e = fltE p 32

set_option maxHeartbeats 400000 in
theorem lineComment_bad (b : Nat) (s r : ByteArray) (k : Nat) (ln : Bool) (M T : Value) (w : World) (hs : s.size ≤ 4000000000) (hr : k + r.size ≤ s.size) (h : Scn w b s k ln M T) (hG : Glob w)
    (hv : Lib.validD (r.data.toList.take (lineLen r.data.toList)) = false) :
    Calls Tryd.prog 55 #[.pointer (some ⟨b, 0, none⟩), .string r] w fun e w' => e = fltE k 32 ∧ w.grownBy w' (some b) := by
  have h1 := h.c1
  have hf := h.fz 1
  have hb := indexByte_lt r.data.toList 10
  have hu := hG.u8
  have hle := lineLen_le r.data.toList
  rw [len_list] at hle hb
  have X : ∀ W, Calls Tryd.prog 69 #[.string r, .int .u8 10] W fun e w' => e = .returned (.int .i64 (Lib.indexByte r.data.toList 10)) ∧ W = w' := fun W =>
    (Tryd.strings_IndexByte r 10 W).mono fun _ _ ⟨h1, h2⟩ => ⟨h1, h2.symm⟩
  by_cases hi : 0 ≤ Lib.indexByte r.data.toList 10
  · have hL : lineLen r.data.toList = (Lib.indexByte r.data.toList 10).toNat := by unfold lineLen; rw [if_pos hi]
    rw [hL] at hv hle
    obtain ⟨i, hi2⟩ := Int.eq_ofNat_of_zero_le hi
    rw [hi2] at hv hle X
    simp only [Int.toNat_natCast] at hv hle
    have e1 : (r.extract 0 i).data.toList = r.data.toList.take i := by rw [extract_list]; simp
    have e2 : (r.extract 0 i).size = i := by rw [← len_list, e1]; simp; omega
    have V : Calls Tryd.prog 22 #[.string (r.extract 0 i)] w fun e w' => e = .returned (.bool false) ∧ Below w.heap.size w w' := by
      have := Tryd.utf8_ValidString (r.extract 0 i) w (by omega) hu
      rwa [e1, hv] at this
    have X' := Lib.hid X
    have V' := Lib.hid V
    have E2 := Lib.hid e2
    clear X V e1 e2 hi2 hL hi hv hb
    clear h1 hf
    go_enter Tryd.func55, Tryd.ntmps55
    go_wp2_with (first | (go_at_call 69; refine (X'.out _).mono ?_; rintro e w' ⟨rfl, rfl⟩) | (go_at_call 22; refine V'.out.mono ?_; rintro e w1 ⟨rfl, hb1⟩; have g1 := grown_of_below hb1 (some b); have hs1 := h.grown (grown_of_below hb1 none) (by simp); have c1 := hs1.c1; have f1 := hs1.fz 1; have e2 := E2.out))
    exact ⟨rfl, rfl, g1⟩
  · have hL : lineLen r.data.toList = r.size := by unfold lineLen; rw [if_neg hi, len_list]
    rw [hL] at hv
    have hi2 : Lib.indexByte r.data.toList 10 = -1 := by omega
    rw [hi2] at X
    have V : Calls Tryd.prog 22 #[.string r] w fun e w' => e = .returned (.bool false) ∧ Below w.heap.size w w' := by
      have := Tryd.utf8_ValidString r w (by omega) hu
      rw [← len_list, List.take_of_length_le (Nat.le_refl _)] at hv
      rwa [hv] at this
    have X' := Lib.hid X
    have V' := Lib.hid V
    clear X V hi2 hL hi hv hb hle h1 hf
    go_enter Tryd.func55, Tryd.ntmps55
    go_wp2_with (first | (go_at_call 69; refine (X'.out _).mono ?_; rintro e w' ⟨rfl, rfl⟩) | (go_at_call 22; refine V'.out.mono ?_; rintro e w1 ⟨rfl, hb1⟩; have g1 := grown_of_below hb1 (some b); have hs1 := h.grown (grown_of_below hb1 none) (by simp); have c1 := hs1.c1; have f1 := hs1.fz 1))
    exact ⟨rfl, rfl, g1⟩

set_option maxRecDepth 100000 in
set_option maxHeartbeats 1000000 in
theorem blanks_gen (b : Nat) (hb4 : 5 ≤ b) (s : ByteArray) (k : Nat) (ln : Bool) (M T : Value) (w : World) (hs : s.size ≤ 4000000000) (hk : k ≤ s.size) (h : Scn w b s k ln M T) (hG : Glob w)
    (n : Nat) (R : (Nat × Bool) ⊕ Nat) (hF : blG n s.data.toList k ln = some R) :
    Calls Tryd.prog 43 #[.pointer (some ⟨b, 0, none⟩)] w fun e w' => BlPost b s M T R e w' ∧ w.grownBy w' (some b) := by
  have HF := Lib.hid hF
  clear hF
  go_enter Tryd.func43, Tryd.ntmps43
  go_wp2
  go_loopg [] n (fun g wr => ∃ (j : Nat) (l : Bool), j ≤ s.size ∧ Scn wr b s j l M T ∧ w.grownBy wr (some b) ∧ Hid (blG g s.data.toList j l = some R))
  case atStart => exact ⟨k, ln, hk, h, World.grownBy.refl _ _, HF⟩
  case round =>
    obtain ⟨j, l, hj, hsc, hgr, hf⟩ := hrel
    have hGw : Glob wr := hG.grown hgr (fun q e => by cases e; exact hb4)
    have c0 := hsc.c0
    have c1 := hsc.c1
    have c2 := hsc.c2
    cases gk with
    | zero => have := hf.out; simp [blG] at this
    | succ g =>
      have hf2 := hf.out
      unfold blG at hf2
      rw [len_list] at hf2
      by_cases hlt : j < s.size
      · rw [if_neg (by omega), byteV_at s j hlt] at hf2
        have hd : decide ((j : Int) < (s.size : Int)) = true := by simp; omega
        have hr1 : ∀ h : 0 < (s.extract j s.size).size, (((s.extract j s.size)[0]'h).toNat : Int) = (s[j].toNat : Int) := fun _ => by rw [rest_first s j hlt]
        have hr2 := Lib.hid (rest_size s j)
        have hr3 := Lib.hid (rest_list s j)
        have hpos : 0 < (s.extract j s.size).size := by rw [rest_size]; omega
        have hji : (j : Int) ≤ (s.size : Int) := by omega
        go_wp2
        go_quiet (fail)
        have hs1 := hsc.drewN nq
        have hg1 := hgr.trans (grown_drewN wr nq (some b))
        have hG1 := hGw.drewN nq
        clear c0 c1 c2 hGw hsc hgr
        generalize wr.drewN nq = W1 at hs1 hg1 hG1 ⊢
        have c0 := hs1.c0
        have c1 := hs1.c1
        go_wp2
        go_quiet (fail)
        have hs2 := hs1.drewN nq
        have hg2 := hg1.trans (grown_drewN W1 nq (some b))
        have hG2 := hG1.drewN nq
        clear c0 c1 hs1 hg1 hG1
        generalize W1.drewN nq = W2 at hs2 hg2 hG2 ⊢
        generalize s.extract j s.size = r at *
        have hr1' := hr1 hpos
        clear hr1
        have c0 := hs2.c0
        have c1 := hs2.c1
        have c2 := hs2.c2
        have f1 := hs2.fz 1
        have f2 := hs2.fz 2
        by_cases h10 : (s[j].toNat : Int) = 10
        · rw [if_pos h10] at hf2
          have HF := Lib.hid hf2
          have t10 : ((r[0].toNat : Int) == 10) = true := by rw [hr1', h10]; rfl
          clear hf2 hf hr1' h10
          go_wp2
          go_roundg g
          case rel => exact ⟨j + 1, true, by omega, by simpa using (hs2.set2 true).set1 ((j : Int) + 1), (hg2.trans (grown_set b 2 _)).trans (grown_set b 1 _), HF⟩
          case measure => omega
        · rw [if_neg h10] at hf2
          have t10 : ((r[0].toNat : Int) == 10) = false := by rw [hr1']; simpa using h10
          by_cases h32 : (s[j].toNat : Int) = 32
          · rw [if_pos (.inl h32)] at hf2
            have t32 : ((r[0].toNat : Int) == 32) = true := by rw [hr1', h32]; rfl
            clear h32
            have HF := Lib.hid hf2
            clear hf2 hf hr1' h10
            go_wp2
            go_roundg g
            case rel => exact ⟨j + 1, l, by omega, by simpa using hs2.set1 ((j : Int) + 1), hg2.trans (grown_set b 1 _), HF⟩
            case measure => omega
          have t32 : ((r[0].toNat : Int) == 32) = false := by rw [hr1']; simpa using h32
          by_cases h9 : (s[j].toNat : Int) = 9
          · rw [if_pos (.inr (.inl h9))] at hf2
            have t9 : ((r[0].toNat : Int) == 9) = true := by rw [hr1', h9]; rfl
            clear h9 h32
            have HF := Lib.hid hf2
            clear hf2 hf hr1' h10
            go_wp2
            go_roundg g
            case rel => exact ⟨j + 1, l, by omega, by simpa using hs2.set1 ((j : Int) + 1), hg2.trans (grown_set b 1 _), HF⟩
            case measure => omega
          have t9 : ((r[0].toNat : Int) == 9) = false := by rw [hr1']; simpa using h9
          by_cases h13 : (s[j].toNat : Int) = 13
          · rw [if_pos (.inr (.inr h13))] at hf2
            have t13 : ((r[0].toNat : Int) == 13) = true := by rw [hr1', h13]; rfl
            clear h9 h32 h13
            have HF := Lib.hid hf2
            clear hf2 hf hr1' h10
            go_wp2
            go_roundg g
            case rel => exact ⟨j + 1, l, by omega, by simpa using hs2.set1 ((j : Int) + 1), hg2.trans (grown_set b 1 _), HF⟩
            case measure => omega
          have t13 : ((r[0].toNat : Int) == 13) = false := by rw [hr1']; simpa using h13
          have hno : ¬ ((s[j].toNat : Int) = 32 ∨ (s[j].toNat : Int) = 9 ∨ (s[j].toNat : Int) = 13) := fun h => h.elim h32 fun h => h.elim h9 h13
          rw [if_neg hno] at hf2
          clear hno
          clear h9 h32 h13 h10 hr1' hf
          have PA : ∀ W, Calls Tryd.prog 54 #[.string r, .string ⟨#[47, 47]⟩] W fun e w' => e = .returned (.bool (hasPre (s.data.toList.drop j) [47, 47])) ∧ W = w' := fun W => by
            have := prefix_any r ⟨#[47, 47]⟩ W (by unfold maxLen; rw [hr2.out]; omega) (by unfold maxLen; decide)
            rwa [hr3.out] at this
          have PB : ∀ W, Calls Tryd.prog 54 #[.string r, .string ⟨#[47, 42]⟩] W fun e w' => e = .returned (.bool (hasPre (s.data.toList.drop j) [47, 42])) ∧ W = w' := fun W => by
            have := prefix_any r ⟨#[47, 42]⟩ W (by unfold maxLen; rw [hr2.out]; omega) (by unfold maxLen; decide)
            rwa [hr3.out] at this
          cases hA : hasPre (s.data.toList.drop j) [47, 47] with
          | true =>
            rw [hA] at hf2 PA
            simp only [if_true] at hf2
            cases hV : Lib.validD ((s.data.toList.drop j).take (lineLen (s.data.toList.drop j))) with
            | false =>
              rw [hV] at hf2
              simp only [Bool.false_eq_true, if_false] at hf2
              obtain rfl : .inr j = R := by simpa using hf2
              have LC := lineComment_bad b s r j l M T W2 hs (by rw [hr2.out]; omega) hs2 hG2 (by rw [hr3.out]; exact hV)
              have PA' := Lib.hid PA
              have LC' := Lib.hid LC
              clear PA PB LC hf2 hA hV c0 c1 c2 f1 f2
              go_wp2_with fail
              refine (PA'.out _).mono ?_
              rintro e w' ⟨rfl, rfl⟩
              go_wp2_with fail
              refine LC'.out.mono ?_
              rintro e w3 ⟨he, hg3⟩
              unfold fltE at he
              subst he
              go_wp2_with fail
              exact ⟨rfl, rfl, hg2.trans hg3⟩
            | true =>
              rw [hV] at hf2
              simp only [if_true] at hf2
              have HF := Lib.hid hf2
              have hll : lineLen (s.data.toList.drop j) ≤ s.size - j := by have := lineLen_le (s.data.toList.drop j); simpa using this
              have LC := lineComment_any b s r j l M T W2 hs (by rw [hr2.out]; omega) hs2 hG2 (by rw [hr3.out]; exact hV)
              rw [hr3.out] at LC
              have PA' := Lib.hid PA
              have LC' := Lib.hid LC
              clear PA PB LC hf2 hA hV c0 c1 c2 f1 f2
              go_wp2_with (first | (go_at_call 54; refine (PA'.out _).mono ?_; rintro e w' ⟨rfl, rfl⟩) | (go_at_call 55; refine LC'.out.mono ?_; rintro e w3 ⟨rfl, hs3, hg3⟩))
              go_roundg g
              case rel => exact ⟨_, l, by omega, hs3, hg2.trans hg3, HF⟩
              case measure => omega
          | false =>
            rw [hA] at hf2 PA
            simp only [Bool.false_eq_true, if_false] at hf2
            cases hB : hasPre (s.data.toList.drop j) [47, 42] with
            | true =>
              rw [hB] at hf2 PB
              simp only [if_true] at hf2
              have hp := pre_two _ _ _ _ hB
              rw [len_list] at hp
              have BC := block_any b s r j l M T W2 hs (by rw [hr2.out]; omega) (by rw [hr2.out]; omega) hs2 hG2
              rw [hr3.out] at BC
              have PA' := Lib.hid PA
              have PB' := Lib.hid PB
              cases hK : BlkOk (s.data.toList.drop j) (blkEnd (s.data.toList.drop j)) with
              | none =>
                rw [hK] at hf2 BC
                simp only at hf2
                obtain rfl : .inr j = R := by simpa using hf2
                have BC' := Lib.hid BC
                clear PA PB BC hf2 hA hB hK c0 c1 c2 f1 f2
                go_wp2_with fail
                refine (PA'.out _).mono ?_
                rintro e w' ⟨rfl, rfl⟩
                go_wp2_with fail
                refine (PB'.out _).mono ?_
                rintro e w' ⟨rfl, rfl⟩
                go_wp2_with fail
                refine BC'.out.mono ?_
                rintro e w3 ⟨he, hg3⟩
                unfold BlkPost fltE at he
                subst he
                go_wp2_with fail
                exact ⟨rfl, rfl, hg2.trans hg3⟩
              | some a =>
                rw [hK] at hf2 BC
                simp only at hf2
                have HF := Lib.hid hf2
                have hae : j + a ≤ s.size := by
                  unfold BlkOk at hK
                  split at hK
                  · rename_i e0 he0
                    split at hK
                    · cases hK
                      have := blkF_le _ _ _ _ _ (by simp; omega) he0
                      simp at this; omega
                    · cases hK
                  · cases hK
                have BC' := Lib.hid BC
                clear PA PB BC hf2 hA hB hK c0 c1 c2 f1 f2
                go_wp2_with fail
                refine (PA'.out _).mono ?_
                rintro e w' ⟨rfl, rfl⟩
                go_wp2_with fail
                refine (PB'.out _).mono ?_
                rintro e w' ⟨rfl, rfl⟩
                go_wp2_with fail
                refine BC'.out.mono ?_
                rintro e w3 ⟨⟨rfl, hs3⟩, hg3⟩
                go_wp2_with fail
                go_roundg g
                case rel => exact ⟨_, _, hae, hs3, hg2.trans hg3, HF⟩
                case measure => omega
            | false =>
              rw [hB] at hf2 PB
              simp only [Bool.false_eq_true, if_false] at hf2
              obtain rfl : .inl (j, l) = R := by simpa using hf2
              have PA' := Lib.hid PA
              have PB' := Lib.hid PB
              clear PA PB hf2 hA hB c0 c1 c2 f1 f2
              go_wp2_with (fail)
              (refine (PA'.out _).mono ?_; rintro e w' ⟨rfl, rfl⟩)
              go_wp2_with (fail)
              (refine (PB'.out _).mono ?_; rintro e w' ⟨rfl, rfl⟩)
              go_wp2
              refine bodyPost_ret (results_none rfl _ _ _) rfl ?_
              exact ⟨⟨rfl, hs2, hj⟩, hg2⟩
      · rw [if_pos (by omega)] at hf2
        obtain rfl : .inl (j, l) = R := by simpa using hf2
        clear hf hf2
        have hd : decide ((j : Int) < (s.size : Int)) = false := by simp; omega
        go_wp2
        go_quiet (fail)
        go_wp2
        go_end0
        exact ⟨⟨rfl, hsc.drewN _, hj⟩, hgr.trans (grown_drewN _ _ _)⟩
end Go.Proofs.YtpebdfofnmojcaaDoor

/- Contracts: the closure that reads a token, where what it calls ends in a fault; where it is a character. -/
namespace Go.Proofs.YtpebdfofnmojcaaDoor
open Go.RowKit

section
variable {b B : Nat} {w : World} {Q : World → Prop}
set_option maxRecDepth 100000 in
set_option maxHeartbeats 400000 in
theorem read_number_bad (hx : RBox w b B) (c : Int) (p : Nat) (code : Int) (hc : digitB c = true) (h : Calls Tryd.prog 51 #[.pointer (some ⟨b, 0, none⟩)] w fun e w' => e = fltE p code ∧ Q w') :
    Calls Tryd.prog 50 #[.int .u8 c, .pointer (some ⟨B, 0, none⟩), .pointer (some ⟨B + 1, 0, none⟩), .pointer (some ⟨B + 2, 0, none⟩)] w fun e w' => e = fltE p code ∧ Q w' := by
  have cs := hx.cs
  have D := isDigit_any c w
  rw [hc] at D
  have D' := Lib.hid D
  have H := Lib.hid h
  clear D h
  go_enter Tryd.func50, Tryd.ntmps50
  go_wp2_with fail
  refine D'.out.mono ?_
  rintro e w' ⟨rfl, rfl⟩
  go_wp2_with fail
  refine H.out.mono ?_
  rintro e w' ⟨he, hq⟩
  unfold fltE at he
  subst he
  go_wp2_with fail
  exact ⟨rfl, rfl, hq⟩

set_option maxRecDepth 100000 in
set_option maxHeartbeats 400000 in
theorem read_word_bad (hx : RBox w b B) (c : Int) (p : Nat) (code : Int) (hc : digitB c = false) (hd : wordB c = true) (h : Calls Tryd.prog 47 #[.pointer (some ⟨B, 0, none⟩)] w fun e w' => e = fltE p code ∧ Q w') :
    Calls Tryd.prog 50 #[.int .u8 c, .pointer (some ⟨B, 0, none⟩), .pointer (some ⟨B + 1, 0, none⟩), .pointer (some ⟨B + 2, 0, none⟩)] w fun e w' => e = fltE p code ∧ Q w' := by
  have cw := hx.cw
  have D := isDigit_any c w
  rw [hc] at D
  have D' := Lib.hid D
  have E := inWord_any c w
  rw [hd] at E
  have E' := Lib.hid E
  have H := Lib.hid h
  clear D h E
  go_enter Tryd.func50, Tryd.ntmps50
  go_wp2_with fail
  refine D'.out.mono ?_
  rintro e w' ⟨rfl, rfl⟩
  go_wp2_with fail
  refine E'.out.mono ?_
  rintro e w' ⟨rfl, rfl⟩
  go_wp2_with fail
  refine H.out.mono ?_
  rintro e w' ⟨he, hq⟩
  unfold fltE at he
  subst he
  go_wp2_with fail
  exact ⟨rfl, rfl, hq⟩

set_option maxRecDepth 100000 in
set_option maxHeartbeats 400000 in
theorem read_str_bad (hx : RBox w b B) (p : Nat) (code : Int) (h : Calls Tryd.prog 52 #[.pointer (some ⟨b, 0, none⟩)] w fun e w' => e = fltE p code ∧ Q w') :
    Calls Tryd.prog 50 #[.int .u8 34, .pointer (some ⟨B, 0, none⟩), .pointer (some ⟨B + 1, 0, none⟩), .pointer (some ⟨B + 2, 0, none⟩)] w fun e w' => e = fltE p code ∧ Q w' := by
  have cs := hx.cs
  have D := isDigit_any 34 w
  rw [show digitB 34 = false by decide] at D
  have D' := Lib.hid D
  have E := inWord_any 34 w
  rw [show wordB 34 = false by decide] at E
  have E' := Lib.hid E
  have H := Lib.hid h
  clear D h E
  go_enter Tryd.func50, Tryd.ntmps50
  go_wp2_with fail
  refine D'.out.mono ?_
  rintro e w' ⟨rfl, rfl⟩
  go_wp2_with fail
  refine E'.out.mono ?_
  rintro e w' ⟨rfl, rfl⟩
  go_wp2_with fail
  refine H.out.mono ?_
  rintro e w' ⟨he, hq⟩
  unfold fltE at he
  subst he
  go_wp2_with fail
  exact ⟨rfl, rfl, hq⟩

set_option maxRecDepth 100000 in
set_option maxHeartbeats 400000 in
theorem read_char (hx : RBox w b B) (t : ByteArray) (h : Calls Tryd.prog 53 #[.pointer (some ⟨b, 0, none⟩)] w fun e w' => e = .returned (.string t) ∧ Q w') :
    Calls Tryd.prog 50 #[.int .u8 39, .pointer (some ⟨B, 0, none⟩), .pointer (some ⟨B + 1, 0, none⟩), .pointer (some ⟨B + 2, 0, none⟩)] w fun e w' => e = .returned (.tuple #[.int .i64 3, .string t]) ∧ Q w' := by
  have cs := hx.cs
  have D := isDigit_any 39 w
  rw [show digitB 39 = false by decide] at D
  have D' := Lib.hid D
  have E := inWord_any 39 w
  rw [show wordB 39 = false by decide] at E
  have E' := Lib.hid E
  have H := Lib.hid h
  clear D h E
  go_enter Tryd.func50, Tryd.ntmps50
  go_wp2_with fail
  refine D'.out.mono ?_
  rintro e w' ⟨rfl, rfl⟩
  go_wp2_with fail
  refine E'.out.mono ?_
  rintro e w' ⟨rfl, rfl⟩
  go_wp2_with fail
  refine H.out.mono ?_
  rintro e w' ⟨rfl, hq⟩
  go_wp2_with fail
  go_ret2
  exact ⟨rfl, hq⟩

set_option maxRecDepth 100000 in
set_option maxHeartbeats 400000 in
theorem read_char_bad (hx : RBox w b B) (p : Nat) (code : Int) (h : Calls Tryd.prog 53 #[.pointer (some ⟨b, 0, none⟩)] w fun e w' => e = fltE p code ∧ Q w') :
    Calls Tryd.prog 50 #[.int .u8 39, .pointer (some ⟨B, 0, none⟩), .pointer (some ⟨B + 1, 0, none⟩), .pointer (some ⟨B + 2, 0, none⟩)] w fun e w' => e = fltE p code ∧ Q w' := by
  have cs := hx.cs
  have D := isDigit_any 39 w
  rw [show digitB 39 = false by decide] at D
  have D' := Lib.hid D
  have E := inWord_any 39 w
  rw [show wordB 39 = false by decide] at E
  have E' := Lib.hid E
  have H := Lib.hid h
  clear D h E
  go_enter Tryd.func50, Tryd.ntmps50
  go_wp2_with fail
  refine D'.out.mono ?_
  rintro e w' ⟨rfl, rfl⟩
  go_wp2_with fail
  refine E'.out.mono ?_
  rintro e w' ⟨rfl, rfl⟩
  go_wp2_with fail
  refine H.out.mono ?_
  rintro e w' ⟨he, hq⟩
  unfold fltE at he
  subst he
  go_wp2_with fail
  exact ⟨rfl, rfl, hq⟩

set_option maxRecDepth 100000 in
set_option maxHeartbeats 400000 in
theorem read_symbol_bad (hx : RBox w b B) (c : Int) (p : Nat) (code : Int) (hc : digitB c = false) (hd : wordB c = false) (h34 : c ≠ 34) (h39 : c ≠ 39) (h : Calls Tryd.prog 48 #[.pointer (some ⟨B, 0, none⟩)] w fun e w' => e = fltE p code ∧ Q w') :
    Calls Tryd.prog 50 #[.int .u8 c, .pointer (some ⟨B, 0, none⟩), .pointer (some ⟨B + 1, 0, none⟩), .pointer (some ⟨B + 2, 0, none⟩)] w fun e w' => e = fltE p code ∧ Q w' := by
  have cy := hx.cy
  have j1 : (c == 34) = false := by simpa using h34
  have j2 : (c == 39) = false := by simpa using h39
  have D := isDigit_any c w
  rw [hc] at D
  have D' := Lib.hid D
  have E := inWord_any c w
  rw [hd] at E
  have E' := Lib.hid E
  have H := Lib.hid h
  clear D h E
  go_enter Tryd.func50, Tryd.ntmps50
  go_wp2_with fail
  refine D'.out.mono ?_
  rintro e w' ⟨rfl, rfl⟩
  go_wp2_with fail
  refine E'.out.mono ?_
  rintro e w' ⟨rfl, rfl⟩
  go_wp2_with fail
  refine H.out.mono ?_
  rintro e w' ⟨he, hq⟩
  unfold fltE at he
  subst he
  go_wp2_with fail
  exact ⟨rfl, rfl, hq⟩
end
end Go.Proofs.YtpebdfofnmojcaaDoor

/- Contracts: quoted, over every text. -/
namespace Go.Proofs.YtpebdfofnmojcaaDoor
open Go.RowKit

theorem grown_alloc_drew (w : World) (o : Obj) (row : Option Nat) : w.grownBy (w.alloc o).drew row :=
  have h := grown_alloc w o row
  ⟨h.os, h.tape, h.output, h.size, h.block⟩
theorem and15 (n : Nat) (h : n < 256) : bits BinOp.and IntKind.u8 (n : Int) 15 = (n : Int) % 16 := by
  have : ∀ k : Fin 256, bits BinOp.and IntKind.u8 ((k.val : Nat) : Int) 15 = ((k.val : Nat) : Int) % 16 := by decide +kernel
  exact this ⟨n, h⟩

def hexB (n : Nat) : UInt8 := ([48, 49, 50, 51, 52, 53, 54, 55, 56, 57, 65, 66, 67, 68, 69, 70] : List UInt8).getD n 0
theorem hex_at (i : Int) (n : Nat) (e : i = n) (h : n < 16) (hh : i.toNat < (ByteArray.mk #[48, 49, 50, 51, 52, 53, 54, 55, 56, 57, 65, 66, 67, 68, 69, 70]).size) :
    (ByteArray.mk #[48, 49, 50, 51, 52, 53, 54, 55, 56, 57, 65, 66, 67, 68, 69, 70])[i.toNat]'hh = hexB n := by
  subst e
  have : ∀ k : Fin 16, (ByteArray.mk #[48, 49, 50, 51, 52, 53, 54, 55, 56, 57, 65, 66, 67, 68, 69, 70])[((k.val : Nat) : Int).toNat]'(by have := k.isLt; show k.val < 16; omega) = hexB k.val := by decide +kernel
  exact this ⟨n, h⟩

/-- An append to an owned row as one step of a region that draws its order. -/
theorem step_append_own {P : Program} {ops : Array Oper} {o : Oper} {a : Act} {w : World} {K : Act → World → Prop} {Q : Exit → Act → World → Prop} {E : Prop}
    (hg : o.guard = none) (s x : Operand) (t : TypeId) (hop : o.op = Op.call { callee := Callee.builtin Builtin.append, args := #[s, x], argTypes := #[t, t] })
    (base : Nat) (e : TypeId) (i : TypeInfo) (z : Value) (size bytes : Nat) (ht : P.underlying t = some (.slice e)) (hi : P.info? e = some i) (hz : i.zero = some z)
    (hsize : i.size = size) (hby : i.bytes = bytes) (hzs : z.cells.size = size) (hsz : 0 < size)
    (v : Value) (n : Nat) (xs : List Value) (hs : a.eval s = v) (hown : w.ownsRow base e size v n xs)
    (ad : Addr) (m c : Nat) (news : List Value) (hx : a.eval x = .slice (some ad) m c) (hl : news.length = m * size) (hnews : ∀ j u, news[j]? = some u → w.cell? (ad.add j) = some u) (h1 : ∀ u ∈ news, u.oneCell' = true)
    (h63 : n + m ≤ maxLen) (hbytes : (n + m) * bytes ≤ 140737488355328) (hbase : base ≤ w.heap.size)
    (hK : ∀ v' w', w'.ownsRow base e size v' (n + m) (xs ++ news) → w.grownBy w' v.ownBlock → K (a.put o.dst v') w') :
    if Region.wanted o (yielded ops a.tmps) = true then Oper.wp P o a w K Q else E := by
  have hw : Region.wanted o (yielded ops a.tmps) = true := by simp [Region.wanted, hg]
  rw [if_pos hw]
  obtain ⟨v', w', hrun, h2, h3, _⟩ := run_append_own (P := P) w base t o.type e i z size bytes ht hi hz hsize hby hzs hsz v n xs hown ad m c news hl hnews h1 h63 hbytes hbase
  unfold Oper.wp
  simp [execOp, hop, resolve, invoke, builtin, hs, hx, hrun, Result.andThen]
  exact hK _ _ h2 h3

def qb (c : UInt8) : List UInt8 :=
  if c = 10 then [92, 110] else if c = 9 then [92, 116] else if c = 13 then [92, 114] else if c = 0 then [92, 48] else if c = 34 then [92, 34] else if c = 92 then [92, 92]
  else if c.toNat < 32 ∨ c.toNat = 127 then [92, 120, hexB (c.toNat / 16), hexB (c.toNat % 16)] else [c]
def qs (l : List UInt8) : List UInt8 := 34 :: l.flatMap qb
theorem qb_len (c : UInt8) : (qb c).length ≤ 4 := by unfold qb; repeat' split
                                                     all_goals simp
theorem qs_len (l : List UInt8) : (qs l).length ≤ 1 + 4 * l.length := by
  unfold qs
  induction l with
  | nil => simp
  | cons c l ih => have := qb_len c; simp at ih ⊢; omega
theorem qs_step (l : List UInt8) (k : Nat) (hk : k < l.length) : qs (l.take (k + 1)) = qs (l.take k) ++ qb (l[k]) := by
  unfold qs
  rw [List.take_add_one, List.getElem?_eq_getElem hk, List.flatMap_append]
  simp only [Option.toList, List.flatMap_cons, List.flatMap_nil, List.append_nil, List.cons_append]
theorem u8s_append (a b : List UInt8) : u8s (a ++ b) = u8s a ++ u8s b := by simp [u8s]

set_option maxRecDepth 100000 in
set_option maxHeartbeats 800000 in
theorem quoted_any (s : ByteArray) (w : World) (hs : s.size ≤ 4000000000) :
    Calls Tryd.prog 23 #[.string s] w fun e w' => e = .returned (.string ⟨(qs s.data.toList ++ [34]).toArray⟩) ∧ w.grownBy w' none := by
  obtain ⟨i0, hi, hz0, hz1, hz2⟩ := info_parts (P := Tryd.prog) (e := 5) (z := .int .u8 0) (size := 1) (bytes := 1) (by kernel_rfl)
  go_enter Tryd.func23, Tryd.ntmps23
  go_wp2
  go_loopw [3, 9] (fun v i wr => ∃ k : Nat, k ≤ s.size ∧ i = .int .i64 k ∧ wr.ownsRow w.heap.size 5 1 v (qs (s.data.toList.take k)).length (u8s (qs (s.data.toList.take k))) ∧ w.grownBy wr none) (fun _ i _ => s.size - (intOf i).toNat)
  case atStart =>
    refine ⟨0, Nat.zero_le _, rfl, ?_, grown_alloc _ _ _⟩
    exact World.ownsRow_lit w #[.int .u8 34] 1 (Nat.le_refl _) (by unfold maxLen; omega) rfl
  case round =>
    obtain ⟨k, hk, rfl, hown, hgr⟩ := hrel
    have hgs := hgr.size
    have hql := qs_len (s.data.toList.take k)
    simp only [List.length_take, len_list] at hql
    by_cases hlt : k < s.size
    · obtain ⟨c, hc⟩ : ∃ c, s[k] = c := ⟨_, rfl⟩
      have hst := qs_step s.data.toList k (by rw [len_list]; exact hlt)
      rw [show s.data.toList[k]'(by rw [len_list]; exact hlt) = c from by rw [← hc]; simp; rfl] at hst
      generalize qs (s.data.toList.take k) = q at *
      have fin : ∀ v' w1, w1.ownsRow w.heap.size 5 1 v' (q.length + (qb c).length) (u8s q ++ u8s (qb c)) → wr.grownBy w1 (Value.ownBlock _) →
          ∃ k' : Nat, k' ≤ s.size ∧ Value.int .i64 ((k : Int) + 1) = .int .i64 k' ∧ w1.ownsRow w.heap.size 5 1 v' (qs (s.data.toList.take k')).length (u8s (qs (s.data.toList.take k'))) ∧ w.grownBy w1 none := fun v' w1 h1 h2 =>
        ⟨k + 1, hlt, by simp, by rw [hst, u8s_append, List.length_append]; exact h1, ⟨h2.os.trans hgr.os, h2.tape.trans hgr.tape, h2.output.trans hgr.output, Nat.le_trans hgs h2.size, fun j hj _ => (h2.block j (by omega) (fun e => by have := (hown.lt j e.symm).1; omega)).trans (hgr.block j hj (by simp))⟩⟩
      have FIN := Lib.hid fin
      have i1 : (k : Int) < s.size := by omega
      have i2 : (s.size : Int) ≤ 4000000000 := by omega
      clear fin hst
      by_cases c10 : c = 10
      · subst c10
        go_wp2_with (refine Lib.wpList_append_own_string _ rfl _ _ 46 9 rfl w.heap.size 5 i0 Tryd.underlying46 Tryd.underlying9 hi hz0 hz1 hz2 _ q.length _ rfl hown ⟨#[92, 110]⟩ rfl ?_ ?_ ?_ ?_)
        · show q.length + 2 ≤ maxLen; unfold maxLen; omega
        · show q.length + 2 ≤ _; omega
        · exact hgs
        · intro v' w1 ho1 hg1 _
          have R := FIN.out v' w1 ho1 hg1
          clear ho1 hg1 hown hgr FIN
          go_wp2
          go_roundw
          case rel => exact R
          case measure => simp [intOf]; omega
      have n10 : ((c.toNat : Int) == 10) = false := by
        have : c.toNat ≠ 10 := fun e => c10 (UInt8.toNat_inj.1 (by simpa using e))
        simp; omega
      by_cases c9 : c = 9
      · subst c9
        go_wp2_with (refine Lib.wpList_append_own_string _ rfl _ _ 46 9 rfl w.heap.size 5 i0 Tryd.underlying46 Tryd.underlying9 hi hz0 hz1 hz2 _ q.length _ rfl hown ⟨#[92, 116]⟩ rfl ?_ ?_ ?_ ?_)
        · show q.length + 2 ≤ maxLen; unfold maxLen; omega
        · show q.length + 2 ≤ _; omega
        · exact hgs
        · intro v' w1 ho1 hg1 _
          have R := FIN.out v' w1 ho1 hg1
          clear ho1 hg1 hown hgr FIN
          go_wp2
          go_roundw
          case rel => exact R
          case measure => simp [intOf]; omega
      have n9 : ((c.toNat : Int) == 9) = false := by
        have : c.toNat ≠ 9 := fun e => c9 (UInt8.toNat_inj.1 (by simpa using e))
        simp; omega
      by_cases c13 : c = 13
      · subst c13
        go_wp2_with (refine Lib.wpList_append_own_string _ rfl _ _ 46 9 rfl w.heap.size 5 i0 Tryd.underlying46 Tryd.underlying9 hi hz0 hz1 hz2 _ q.length _ rfl hown ⟨#[92, 114]⟩ rfl ?_ ?_ ?_ ?_)
        · show q.length + 2 ≤ maxLen; unfold maxLen; omega
        · show q.length + 2 ≤ _; omega
        · exact hgs
        · intro v' w1 ho1 hg1 _
          have R := FIN.out v' w1 ho1 hg1
          clear ho1 hg1 hown hgr FIN
          go_wp2
          go_roundw
          case rel => exact R
          case measure => simp [intOf]; omega
      have n13 : ((c.toNat : Int) == 13) = false := by
        have : c.toNat ≠ 13 := fun e => c13 (UInt8.toNat_inj.1 (by simpa using e))
        simp; omega
      by_cases c0 : c = 0
      · subst c0
        go_wp2_with (refine Lib.wpList_append_own_string _ rfl _ _ 46 9 rfl w.heap.size 5 i0 Tryd.underlying46 Tryd.underlying9 hi hz0 hz1 hz2 _ q.length _ rfl hown ⟨#[92, 48]⟩ rfl ?_ ?_ ?_ ?_)
        · show q.length + 2 ≤ maxLen; unfold maxLen; omega
        · show q.length + 2 ≤ _; omega
        · exact hgs
        · intro v' w1 ho1 hg1 _
          have R := FIN.out v' w1 ho1 hg1
          clear ho1 hg1 hown hgr FIN
          go_wp2
          go_roundw
          case rel => exact R
          case measure => simp [intOf]; omega
      have n0 : ((c.toNat : Int) == 0) = false := by
        have : c.toNat ≠ 0 := fun e => c0 (UInt8.toNat_inj.1 (by simpa using e))
        simp; omega
      by_cases c34 : c = 34
      · subst c34
        go_wp2_with (refine wpList_append_own _ rfl _ _ 46 rfl w.heap.size 5 i0 (.int .u8 0) 1 1 Tryd.underlying46 hi hz0 hz1 hz2 rfl (by decide) _ q.length _ rfl (hown.alloc _) ⟨wr.heap.size, 0, none⟩ 2 2 [.int .u8 92, .int .u8 34] rfl rfl ?_ ?_ ?_ ?_ ?_ ?_)
        · intro j u hj
          match j, hj with
          | 0, hj => simp at hj; subst hj; simp [Addr.add]
          | 1, hj => simp at hj; subst hj; simp [Addr.add]
          | (j + 2), hj => simp at hj
        · intro u hu; simp at hu; rcases hu with rfl | rfl <;> rfl
        · unfold maxLen; omega
        · omega
        · simp; omega
        · intro v' w1 ho1 hg1 _
          have R := FIN.out v' w1 ho1 ((grown_alloc wr _ _).trans hg1)
          clear ho1 hg1 hown hgr FIN
          go_wp2
          go_roundw
          case rel => exact R
          case measure => simp [intOf]; omega
      have n34 : ((c.toNat : Int) == 34) = false := by
        have : c.toNat ≠ 34 := fun e => c34 (UInt8.toNat_inj.1 (by simpa using e))
        simp; omega
      by_cases c92 : c = 92
      · subst c92
        go_wp2_with (refine wpList_append_own _ rfl _ _ 46 rfl w.heap.size 5 i0 (.int .u8 0) 1 1 Tryd.underlying46 hi hz0 hz1 hz2 rfl (by decide) _ q.length _ rfl (hown.alloc _) ⟨wr.heap.size, 0, none⟩ 2 2 [.int .u8 92, .int .u8 92] rfl rfl ?_ ?_ ?_ ?_ ?_ ?_)
        · intro j u hj
          match j, hj with
          | 0, hj => simp at hj; subst hj; simp [Addr.add]
          | 1, hj => simp at hj; subst hj; simp [Addr.add]
          | (j + 2), hj => simp at hj
        · intro u hu; simp at hu; rcases hu with rfl | rfl <;> rfl
        · unfold maxLen; omega
        · omega
        · simp; omega
        · intro v' w1 ho1 hg1 _
          have R := FIN.out v' w1 ho1 ((grown_alloc wr _ _).trans hg1)
          clear ho1 hg1 hown hgr FIN
          go_wp2
          go_roundw
          case rel => exact R
          case measure => simp [intOf]; omega
      have n92 : ((c.toNat : Int) == 92) = false := by
        have : c.toNat ≠ 92 := fun e => c92 (UInt8.toNat_inj.1 (by simpa using e))
        simp; omega
      by_cases cx : c.toNat < 32 ∨ c.toNat = 127
      · have hqb : qb c = [92, 120, hexB (c.toNat / 16), hexB (c.toNat % 16)] := by
          unfold qb
          rw [if_neg c10, if_neg c9, if_neg c13, if_neg c0, if_neg c34, if_neg c92, if_pos cx]
        rw [hqb] at FIN
        have hcl : c.toNat < 128 := by omega
        have e1 : bits BinOp.and IntKind.u8 (c.toNat : Int) 15 = (c.toNat : Int) % 16 := and15 c.toNat (by omega)
        have d0 : (0 : Int) ≤ (c.toNat : Int) / 16 := by omega
        have d1 : (c.toNat : Int) / 16 < 16 := by omega
        have m0 : (0 : Int) ≤ (c.toNat : Int) % 16 := by omega
        have m1 : (c.toNat : Int) % 16 < 16 := by omega
        have hown1 : wr.drew.ownsRow w.heap.size 5 1 u3 q.length (u8s q) := hown
        have fb1 : q.length + 4 ≤ maxLen := by unfold maxLen; omega
        have fb2 : (q.length + 4) * 1 ≤ 140737488355328 := by omega
        have hA : ∀ h, (ByteArray.mk #[48, 49, 50, 51, 52, 53, 54, 55, 56, 57, 65, 66, 67, 68, 69, 70])[((c.toNat : Int) / 16).toNat]'h = hexB (c.toNat / 16) := fun h => hex_at _ _ (by omega) (by omega) h
        have hB : ∀ h, (ByteArray.mk #[48, 49, 50, 51, 52, 53, 54, 55, 56, 57, 65, 66, 67, 68, 69, 70])[((c.toNat : Int) % 16).toNat]'h = hexB (c.toNat % 16) := fun h => hex_at _ _ (by omega) (by omega) h
        have hA' := Lib.hid hA
        have hB' := Lib.hid hB
        clear hA hB
        have x2 : ((c.toNat : Int) == 127) = decide (c.toNat = 127) := by simp [Bool.beq_eq_decide_eq]; omega
        by_cases x1 : (c.toNat : Int) < 32
        all_goals
          try (have x3 : ((c.toNat : Int) == 127) = true := by simp; omega)
          clear x2
          go_upto_region 8 with fail
          go_region_law (refine step_append_own rfl (.tmp 22) (.tmp 29) 46 rfl w.heap.size 5 i0 (.int .u8 0) 1 1 Tryd.underlying46 hi hz0 hz1 hz2 rfl (by decide) u3 q.length _ (by simp [Act.eval]) (hown1.alloc _) ⟨wr.heap.size, 0, none⟩ 4 4 [.int .u8 92, .int .u8 120, .int .u8 ((hexB (c.toNat / 16)).toNat : Int), .int .u8 ((hexB (c.toNat % 16)).toNat : Int)] (by simp [Act.eval]) rfl (by
              intro j u hj
              match j, hj with
              | 0, hj => simp at hj; subst hj; simp [Addr.add]
              | 1, hj => simp at hj; subst hj; simp [Addr.add]
              | 2, hj => simp at hj; subst hj; simp [Addr.add, hA'.out]
              | 3, hj => simp at hj; subst hj; simp [Addr.add, hB'.out]
              | (j + 4), hj => simp at hj) (by
              intro u hu; simp at hu; rcases hu with rfl | rfl | rfl | rfl <;> rfl) fb1 fb2 (by simp; omega) ?_; intro v' w1 ho1 hg1)
          all_goals
            have R := FIN.out v' w1 ho1 ((grown_alloc_drew wr _ _).trans hg1)
            clear ho1 hg1 hown hown1 hgr FIN
            go_wp2
            go_roundw
            case rel => exact R
            case measure => simp [intOf]; omega
      · have hqb : qb c = [c] := by
          unfold qb
          rw [if_neg c10, if_neg c9, if_neg c13, if_neg c0, if_neg c34, if_neg c92, if_neg cx]
        rw [hqb] at FIN
        have x1 : ¬ (c.toNat : Int) < 32 := by omega
        have x2 : ((c.toNat : Int) == 127) = false := by simp; omega
        go_wp2_with (refine wpList_append_own _ rfl _ _ 46 rfl w.heap.size 5 i0 (.int .u8 0) 1 1 Tryd.underlying46 hi hz0 hz1 hz2 rfl (by decide) _ q.length _ rfl (hown.alloc _) ⟨wr.heap.size, 0, none⟩ 1 1 [.int .u8 (c.toNat : Int)] rfl rfl ?_ ?_ ?_ ?_ ?_ ?_)
        · rfl
        · unfold maxLen; omega
        · omega
        · first | omega | (simp; omega)
        · intro v' w1 ho1 hg1 _
          have R := FIN.out v' w1 ho1 ((grown_alloc wr _ _).trans hg1)
          clear ho1 hg1 hown hgr FIN
          go_wp2
          go_roundw
          case rel => exact R
          case measure => simp [intOf]; omega
    · obtain rfl : k = s.size := by omega
      have e2 : s.data.toList.take s.size = s.data.toList := List.take_of_length_le (by rw [len_list]; exact Nat.le_refl _)
      rw [e2] at hown hql
      have hql2 := qs_len s.data.toList
      rw [len_list] at hql2
      have hq := Lib.hid (u8s_append (qs s.data.toList) [34])
      have CV : ∀ v' (w1 : World), w1.ownsRow w.heap.size 5 1 v' ((qs s.data.toList).length + 1) (u8s (qs s.data.toList) ++ [.int .u8 34]) → (convert 46 9 v').run Tryd.prog w1 = .ok (.string ⟨(qs s.data.toList ++ [34]).toArray⟩) w1 := fun v' w1 h => conv_own (B := w.heap.size) (l := qs s.data.toList ++ [34]) (by rw [hq.out, List.length_append]; exact h)
      generalize hqq : qs s.data.toList = q at *
      go_wp2_with (refine wpList_append_own _ rfl _ _ 46 rfl w.heap.size 5 i0 (.int .u8 0) 1 1 Tryd.underlying46 hi hz0 hz1 hz2 rfl (by decide) _ q.length _ rfl (hown.alloc _) ⟨wr.heap.size, 0, none⟩ 1 1 [.int .u8 34] rfl rfl ?_ ?_ ?_ ?_ ?_ ?_)
      · intro j u hj
        match j, hj with
        | 0, hj => simp at hj; subst hj; simp [Addr.add]
        | (j + 1), hj => simp at hj
      · intro u hu; simp at hu; subst hu; rfl
      · unfold maxLen; omega
      · omega
      · simp; omega
      · intro v' w1 ho1 hg1 _
        have R : w.grownBy w1 none := ⟨hg1.os.trans hgr.os, hg1.tape.trans hgr.tape, hg1.output.trans hgr.output, by have := hg1.size; simp at this; omega, fun j hj _ => (hg1.block j (by simp; omega) (fun e => by have := (hown.lt j e.symm).1; omega)).trans ((Below.heap_alloc _ _ _ (by omega)).trans (hgr.block j hj (by simp)))⟩
        have C := CV v' w1 ho1
        clear ho1 hg1 hown hgr CV
        go_wp2
        go_ret
        exact ⟨by rw [hqq]; rfl, R⟩
end Go.Proofs.YtpebdfofnmojcaaDoor

/- Plain lists: the decoding of a rune depends on its own bytes alone; the literal of a text, rune by rune. -/
namespace Go.Proofs.YtpebdfofnmojcaaDoor
open Go.RowKit Go.Lib

theorem getD_take_app (l t : List UInt8) (n i : Nat) (hi : i < n) (hn : n ≤ l.length) : (l.take n ++ t).getD i 0 = l.getD i 0 := by
  have h1 : i < (l.take n).length := by simp; omega
  simp [List.getD, List.getElem?_append_left h1, hi]

theorem decodeL_pre (l t : List UInt8) (hne : l ≠ []) (hv : ¬ ((decodeL l).1 = 65533 ∧ (decodeL l).2 = 1)) : decodeL (l.take (decodeL l).2 ++ t) = decodeL l := by
  have hle := decodeL_le l hne
  have hlen : (l.take (decodeL l).2 ++ t).length = (decodeL l).2 + t.length := by simp; omega
  rw [decodeL_N (l.take (decodeL l).2 ++ t), hlen]
  have G := fun i hi => getD_take_app l t (decodeL l).2 i hi hle
  rw [decodeL_N l] at hv hle G ⊢
  have k0 := (l.getD 0 0).toNat_lt
  have k1 := (l.getD 1 0).toNat_lt
  have k2 := (l.getD 2 0).toNat_lt
  have k3 := (l.getD 3 0).toNat_lt
  rcases decodeN_shape l.length (l.getD 0 0).toNat (l.getD 1 0).toNat (l.getD 2 0).toNat (l.getD 3 0).toNat with ⟨c, e⟩ | ⟨c1, c2, c3, cv, e⟩ | ⟨c1, c2, c3, c4, cv, cs, e⟩ | ⟨c1, c2, c3, c4, c5, cv, cw, e⟩ | e
  · rw [e] at G ⊢
    rw [G 0 (by dsimp only; omega)]
    unfold decodeN; rw [if_pos c]
  · rw [e] at G ⊢
    rw [G 0 (by dsimp only; omega), G 1 (by dsimp only; omega)]
    unfold decodeN; rw [if_neg (by omega), if_pos ⟨c1, by dsimp only; omega, c3⟩, if_pos cv]
  · rw [e] at G ⊢
    rw [G 0 (by dsimp only; omega), G 1 (by dsimp only; omega), G 2 (by dsimp only; omega)]
    unfold decodeN; rw [if_neg (by omega), if_neg (by omega), if_pos ⟨c1, ⟨by dsimp only; omega, c3⟩, by dsimp only; omega, c4⟩, if_pos ⟨cv, by omega⟩]
  · rw [e] at G ⊢
    rw [G 0 (by dsimp only; omega), G 1 (by dsimp only; omega), G 2 (by dsimp only; omega), G 3 (by dsimp only; omega)]
    unfold decodeN; rw [if_neg (by omega), if_neg (by omega), if_neg (by omega), if_pos ⟨c1, ⟨by dsimp only; omega, c3⟩, ⟨by dsimp only; omega, c4⟩, by dsimp only; omega, c5⟩, if_pos ⟨cv, by omega⟩]
  · rw [e] at hv; exact absurd ⟨rfl, rfl⟩ hv

theorem decodeL_high (l : List UInt8) (hv : ¬ ((decodeL l).1 = 65533 ∧ (decodeL l).2 = 1)) (h0 : 128 ≤ (l.getD 0 0).toNat) : ∀ i, i < (decodeL l).2 → 128 ≤ (l.getD i 0).toNat := by
  rw [decodeL_N l] at hv ⊢
  rcases decodeN_shape l.length (l.getD 0 0).toNat (l.getD 1 0).toNat (l.getD 2 0).toNat (l.getD 3 0).toNat with ⟨c, e⟩ | ⟨c1, c2, c3, cv, e⟩ | ⟨c1, c2, c3, c4, cv, cs, e⟩ | ⟨c1, c2, c3, c4, c5, cv, cw, e⟩ | e
  · omega
  · rw [e]; intro i hi; dsimp only at hi
    match i, hi with
    | 0, _ => omega
    | 1, _ => omega
  · rw [e]; intro i hi; dsimp only at hi
    match i, hi with
    | 0, _ => omega
    | 1, _ => omega
    | 2, _ => omega
  · rw [e]; intro i hi; dsimp only at hi
    match i, hi with
    | 0, _ => omega
    | 1, _ => omega
    | 2, _ => omega
    | 3, _ => omega
  · rw [e] at hv; exact absurd ⟨rfl, rfl⟩ hv

theorem qb_high (c : UInt8) (h : 128 ≤ c.toNat) : qb c = [c] := by
  unfold qb
  have n : ∀ x : UInt8, x.toNat < 128 → c ≠ x := fun x hx e => by subst e; omega
  rw [if_neg (n 10 (by decide)), if_neg (n 9 (by decide)), if_neg (n 13 (by decide)), if_neg (n 0 (by decide)), if_neg (n 34 (by decide)), if_neg (n 92 (by decide)), if_neg (by omega)]
theorem flat_high (l : List UInt8) (h : ∀ c ∈ l, 128 ≤ c.toNat) : l.flatMap qb = l := by
  induction l with
  | nil => rfl
  | cons c l ih =>
    rw [List.flatMap_cons, qb_high c (h c (by simp)), ih (fun x hx => h x (by simp [hx]))]
    rfl

/-- The body of the literal of l that is not empty: its first rune, and how it stands in the literal. -/
theorem body_high (l : List UInt8) (c : UInt8) (l' : List UInt8) (hl : l = c :: l') (hc : 128 ≤ c.toNat) (hv : validD l = true) :
    ¬ ((decodeL l).1 = 65533 ∧ (decodeL l).2 = 1) ∧ validD (l.drop (decodeL l).2) = true ∧ l.flatMap qb = l.take (decodeL l).2 ++ (l.drop (decodeL l).2).flatMap qb := by
  have hne : l ≠ [] := by rw [hl]; simp
  rw [validD_step l hne] at hv
  split at hv
  · cases hv
  · rename_i hv'
    refine ⟨hv', hv, ?_⟩
    have h1 : (l.take (decodeL l).2).flatMap qb = l.take (decodeL l).2 := flat_high _ (fun x hx => by
      obtain ⟨i, hi, rfl⟩ := List.mem_iff_getElem.1 hx
      simp only [List.length_take] at hi
      have := decodeL_high l hv' (by rw [hl]; simpa using hc) i (by omega)
      rw [List.getElem_take]
      simpa [List.getD, List.getElem?_eq_getElem (show i < l.length by omega)] using this)
    conv => lhs; rw [← List.take_append_drop (decodeL l).2 l, List.flatMap_append, h1]
theorem body_low (l : List UInt8) (c : UInt8) (l' : List UInt8) (hl : l = c :: l') (hc : c.toNat < 128) (hv : validD l = true) : validD l' = true := by
  subst hl
  rw [validD_step _ (by simp), decodeL_ascii c l' hc] at hv
  split at hv
  · cases hv
  · simpa using hv
end Go.Proofs.YtpebdfofnmojcaaDoor

/-
  DERIVED: THE SHELF's CONTRACTS AT THIS DUMP, IN PLAIN WORDS (tools/lay-plain.mjs out of 'YtpebdfofnmojcaaDoorShelf2.lean', which tools/lay-shelf.mjs wrote): THE SAME DECLARATIONS UNDER THE SAME NAMES: 'import', 'namespace', 'open', 'def', 'theorem' AND NOTHING ELSE: no command of the shelf's: FOR A HAND-IN. Each laying: the table of numbers ('.._ren') and one theorem, a field a fact of the dump's own or the kernel's comparison; each contract: ONE APPLICATION.
-/
namespace Go.Proofs
open Go.Shelf
def Tryd.lays242_ren : Go.Shelf.Ren := ⟨fun | 242 => 65 | 278 => 75 | n => n, fun | 37 => 46 | 21 => 21 | 51 => 86 | 4 => 4 | 5 => 5 | 46 => 56 | n => n, fun | n => n⟩
theorem Tryd.lays242 : Go.Proofs.Lays.n242 Tryd.prog Tryd.lays242_ren := {
  mixed := by kernel_rfl
  f242 := Tryd.func65.trans (congrArg some (by kernel_rfl))
  f278 := Tryd.func75.trans (congrArg some (by kernel_rfl))
  t4 := Tryd.underlying4
  a4 := Tryd.isAgg4
  z4 := Tryd.sizeOf4
  v4 := Tryd.zeroValue4
  t5 := Tryd.underlying5
  a5 := Tryd.isAgg5
  z5 := Tryd.sizeOf5
  v5 := Tryd.zeroValue5
  t21 := Tryd.underlying21
  a21 := Tryd.isAgg21
  z21 := Tryd.sizeOf21
  v21 := Tryd.zeroValue21
  t37 := Tryd.underlying46
  a37 := Tryd.isAgg46
  z37 := Tryd.sizeOf46
  v37 := Tryd.zeroValue46
  t46 := Tryd.underlying56
  a46 := Tryd.isAgg56
  z46 := Tryd.sizeOf56
  v46 := Tryd.zeroValue56
  t51 := Tryd.underlying86
  a51 := Tryd.isAgg86
  z51 := Tryd.sizeOf86
  v51 := Tryd.zeroValue86 }
def Tryd.lays197_ren : Go.Shelf.Ren := ⟨fun | 197 => 77 | 260 => 84 | n => n, fun | 9 => 9 | 21 => 21 | 3 => 3 | 4 => 4 | 5 => 5 | 105 => 93 | 119 => 52 | 0 => 0 | 46 => 56 | 139 => 55 | 138 => 54 | n => n, fun | 3 => 2 | 4 => 3 | n => n⟩
theorem Tryd.lays197 : Go.Proofs.Lays.n197 Tryd.prog Tryd.lays197_ren := {
  mixed := by kernel_rfl
  f197 := Tryd.func77.trans (congrArg some (by kernel_rfl))
  f260 := Tryd.func84.trans (congrArg some (by kernel_rfl))
  t0 := Tryd.underlying0
  a0 := Tryd.isAgg0
  z0 := Tryd.sizeOf0
  v0 := Tryd.zeroValue0
  t3 := Tryd.underlying3
  a3 := Tryd.isAgg3
  z3 := Tryd.sizeOf3
  v3 := Tryd.zeroValue3
  t4 := Tryd.underlying4
  a4 := Tryd.isAgg4
  z4 := Tryd.sizeOf4
  v4 := Tryd.zeroValue4
  t5 := Tryd.underlying5
  a5 := Tryd.isAgg5
  z5 := Tryd.sizeOf5
  v5 := Tryd.zeroValue5
  t9 := Tryd.underlying9
  a9 := Tryd.isAgg9
  z9 := Tryd.sizeOf9
  v9 := Tryd.zeroValue9
  t21 := Tryd.underlying21
  a21 := Tryd.isAgg21
  z21 := Tryd.sizeOf21
  v21 := Tryd.zeroValue21
  t46 := Tryd.underlying56
  a46 := Tryd.isAgg56
  z46 := Tryd.sizeOf56
  v46 := Tryd.zeroValue56
  t105 := Tryd.underlying93
  a105 := Tryd.isAgg93
  z105 := Tryd.sizeOf93
  v105 := Tryd.zeroValue93
  t119 := Tryd.underlying52
  a119 := Tryd.isAgg52
  z119 := Tryd.sizeOf52
  t138 := Tryd.underlying54
  a138 := Tryd.isAgg54
  z138 := Tryd.sizeOf54
  v138 := Tryd.zeroValue54
  t139 := Tryd.underlying55
  a139 := Tryd.isAgg55
  z139 := Tryd.sizeOf55
  v139 := Tryd.zeroValue55
  g3 := by kernel_rfl
  g4 := by kernel_rfl }
end Go.Proofs

/- Contracts: the escapes that a literal of Quote holds; symbolic at any of its characters. -/
namespace Go.Proofs.YtpebdfofnmojcaaDoor
open Go.RowKit

theorem Tryd.decodeRune (s : ByteArray) (w : World) (hT : Lib.Utf8Tabs 2 3 w) :
    Calls Tryd.prog 77 #[.string s] w fun e w' => e = .returned (.tuple #[.int .i32 (Lib.decodeGo s).1, .int .i64 (Lib.decodeGo s).2]) ∧ Below w.heap.size w w' := Any.utf8_DecodeRuneInString Tryd.lays197 s w hT

theorem byteV_drop (l : List UInt8) (p i : Nat) : byteV l (p + i) = byteV (l.drop p) i := by
  unfold byteV
  by_cases h : p + i < l.length
  · rw [dif_pos h, dif_pos (by simp; omega)]; simp
  · rw [dif_neg h, dif_neg (by simp; omega)]
theorem byteV_cons (c : UInt8) (l : List UInt8) : byteV (c :: l) 0 = (c.toNat : Int) := by simp [byteV]
theorem byteV_succ (c : UInt8) (l : List UInt8) (i : Nat) : byteV (c :: l) (i + 1) = byteV l i := by simp [byteV]
theorem byte_drop (s : ByteArray) (p : Nat) (c : UInt8) (l : List UInt8) (h : s.data.toList.drop p = c :: l) : ∃ hp : p < s.size, s[p]'hp = c := by
  have h1 : p < s.data.toList.length := by
    have := congrArg List.length h
    simp at this ⊢
    omega
  refine ⟨by rw [← len_list]; exact h1, ?_⟩
  have h2 := List.getElem_drop' (xs := s.data.toList) (i := p) (j := 0) (h := by simpa using h1)
  have h3 : (s.data.toList.drop p)[0]'(by rw [h]; simp) = c := by simp [h]
  rw [← h3, List.getElem_drop]
  rfl

set_option maxRecDepth 100000 in
set_option maxHeartbeats 800000 in
theorem escape_letter (b : Nat) (s : ByteArray) (k st : Nat) (ln : Bool) (M T : Value) (w : World) (hs : s.size ≤ 4000000000) (hk : k + 2 ≤ s.size) (h : Scn w b s k ln M T) (x r : Int)
    (h0 : byteV s.data.toList (k + 1) = x) (hx : (x = 110 ∧ r = 10) ∨ (x = 116 ∧ r = 9) ∨ (x = 114 ∧ r = 13) ∨ (x = 48 ∧ r = 0) ∨ (x = 92 ∧ r = 92) ∨ (x = 34 ∧ r = 34)) :
    Calls Tryd.prog 76 #[.pointer (some ⟨b, 0, none⟩), .int .i64 st] w fun e w' =>
      e = .returned (.int .i32 r) ∧ Scn w' b s (k + 2 : Nat) ln M T ∧ w.grownBy w' (some b) := by
  have i1 : (k : Int) + 2 ≤ 4000000000 := by omega
  have c1 := h.c1
  have f1 := h.fz 1
  have B1 := byteAt_any b s k ln M T (k + 1) w (by unfold maxLen; omega) h
  rw [h0, show ((k + 1 : Nat) : Int) = (k : Int) + 1 from by omega] at B1
  have B1' := Lib.hid B1
  have hs1 : Scn (w.setCell ⟨b, 1, none⟩ (.int .i64 ((k : Int) + 2))) b s (k + 2 : Nat) ln M T := by simpa using h.set1 ((k : Int) + 2)
  have gs1 := grown_set (w := w) b 1 (.int .i64 ((k : Int) + 2))
  clear B1 h0
  go_enter Tryd.func76, Tryd.ntmps76
  go_wp2_with fail
  refine B1'.out.mono ?_
  rintro e w' ⟨rfl, rfl⟩
  rcases hx with ⟨rfl, rfl⟩ | ⟨rfl, rfl⟩ | ⟨rfl, rfl⟩ | ⟨rfl, rfl⟩ | ⟨rfl, rfl⟩ | ⟨rfl, rfl⟩
  all_goals
    go_wp2_with fail
    go_ret
    exact ⟨rfl, hs1, gs1⟩

theorem validRune_low (v : Nat) (hv : v < 128) (W : World) : Calls Tryd.prog 86 #[.int .i32 v] W fun e w' => e = .returned (.bool true) ∧ W = w' := by
  have i1 : (0 : Int) ≤ v := by omega
  have i2 : (v : Int) < 55296 := by omega
  go_enter Tryd.func86, Tryd.ntmps86
  go_wp2
  go_ret
  exact ⟨rfl, rfl⟩

theorem decodeGo_drop (s : ByteArray) (k : Nat) (hk : k < s.size) : Lib.decodeGo (s.extract k s.size) = Lib.decodeL (s.data.toList.drop k) := by
  unfold Lib.decodeGo Lib.decodeL
  rw [if_neg (by rw [rest_size]; omega), ← rest_list]

set_option maxRecDepth 100000 in
set_option maxHeartbeats 800000 in
theorem symbolic_rune (b : Nat) (s : ByteArray) (k st : Nat) (ln : Bool) (M T : Value) (w : World) (hs : s.size ≤ 4000000000) (hk : k < s.size) (h : Scn w b s k ln M T) (hG : Glob w)
    (c : UInt8) (h0 : s[k] = c) (h10 : c.toNat ≠ 10) (h92 : c.toNat ≠ 92) (r n : Nat) (hd : Lib.decodeL (s.data.toList.drop k) = (r, n)) (hn : n ≤ 4) (hv : ¬ (r = 65533 ∧ n = 1)) :
    Calls Tryd.prog 66 #[.pointer (some ⟨b, 0, none⟩), .int .i64 st] w fun e w' =>
      e = .returned (.int .i32 (r : Int)) ∧ Scn w' b s (k + n : Nat) ln M T ∧ w.grownBy w' (some b) := by
  have i1 : (k : Int) < s.size := by omega
  have i2 : (s.size : Int) ≤ 4000000000 := by omega
  have i3 : (k : Int) ≤ s.size := by omega
  have i4 : (n : Int) ≤ 4 := by omega
  have c0 := h.c0
  have c1 := h.c1
  have f1 := h.fz 1
  have D1 := Lib.hid (fun W (hT : Lib.Utf8Tabs 2 3 W) => Tryd.decodeRune (s.extract k s.size) W hT)
  rw [decodeGo_drop s k hk, hd] at D1
  have j1 : ((c.toNat : Int) == 10) = false := by simp; omega
  have j2 : ((c.toNat : Int) == 92) = false := by simp; omega
  have HV : Hid (¬ (r = 65533 ∧ n = 1)) := Lib.hid hv
  have HG := Lib.hid hG
  have SL : ∀ W, (Instr.sliceAt 9 (.string s) (some (.int .i64 (k : Int))) none none).run Tryd.prog W = .ok (.string (s.extract k s.size)) W := fun W => by
    rw [run_sliceAt_string W 9 _ _ _ _ Tryd.underlying9, run_slice_string_from_if W 9 s .i64 k Tryd.underlying9, if_pos ⟨by omega, i3⟩]; rfl
  have hbl := h.lt
  have HH := Lib.hid h
  clear hd hG
  by_cases hr : ((r : Int) == 65533) = true
  · have hr' : r = 65533 := by have := eq_of_beq hr; omega
    have hn1 : ((n : Int) == 1) = false := by simp; omega
    clear hv hr' HV
    go_enter Tryd.func66, Tryd.ntmps66
    go_wp2_with fail
    go_quiet (fail)
    go_wp2_with fail
    go_quiet (fail)
    go_wp2_with fail
    go_region_with (go_at_call 77; refine (D1.out _ (by exact HG.out.u8)).mono ?_; rintro e w' ⟨rfl, hb⟩; have h' : Scn w' b s k ln M T := (hb.block b (by exact hbl)).trans HH.out; have c1' := h'.c1; have f1' := h'.fz 1)
    all_goals
      go_wp2_with fail
      go_ret
      refine ⟨rfl, by simpa using h'.set1 ((k : Int) + n), ?_⟩
      exact ((grown_drewN w _ _).trans (grown_of_below hb _)).trans (grown_set b 1 _)
  · rw [Bool.not_eq_true] at hr
    clear hv HV
    go_enter Tryd.func66, Tryd.ntmps66
    go_wp2_with fail
    go_quiet (fail)
    go_wp2_with fail
    go_quiet (fail)
    go_wp2_with fail
    go_region_with (go_at_call 77; refine (D1.out _ (by exact HG.out.u8)).mono ?_; rintro e w' ⟨rfl, hb⟩; have h' : Scn w' b s k ln M T := (hb.block b (by exact hbl)).trans HH.out; have c1' := h'.c1; have f1' := h'.fz 1)
    all_goals
      go_wp2_with fail
      go_ret
      refine ⟨rfl, by simpa using h'.set1 ((k : Int) + n), ?_⟩
      exact ((grown_drewN w _ _).trans (grown_of_below hb _)).trans (grown_set b 1 _)
end Go.Proofs.YtpebdfofnmojcaaDoor

/- Contracts: coded at two digits; the escape by them. -/
namespace Go.Proofs.YtpebdfofnmojcaaDoor
open Go.RowKit

def Small4 (k : Nat) : Prop := k + 2 ≤ 4000000000
theorem Small4.i {k : Nat} (h : Small4 k) : (k : Int) < 4000000000 - 1 := by unfold Small4 at h; omega
theorem or_one (d : Int) (h : 0 ≤ d ∧ d < 8) : bits BinOp.or IntKind.i32 0 (wrap32 d) = d := by
  have : ∀ k : Fin 8, bits BinOp.or IntKind.i32 0 (wrap32 ((k.val : Nat) : Int)) = ((k.val : Nat) : Int) := by decide +kernel
  have e := this ⟨d.toNat, by omega⟩
  simp only [Int.toNat_of_nonneg h.1] at e
  exact e
theorem or_two (d1 d2 : Int) (h : 0 ≤ d1 ∧ d1 < 8) (h' : 0 ≤ d2 ∧ d2 < 16) : bits BinOp.or IntKind.i32 (wrap32 (d1 * 16)) (wrap32 d2) = 16 * d1 + d2 := by
  have : ∀ k : Fin 8, ∀ j : Fin 16, bits BinOp.or IntKind.i32 (wrap32 (((k.val : Nat) : Int) * 16)) (wrap32 ((j.val : Nat) : Int)) = 16 * ((k.val : Nat) : Int) + ((j.val : Nat) : Int) := by decide +kernel
  have e := this ⟨d1.toNat, by omega⟩ ⟨d2.toNat, by omega⟩
  simp only [Int.toNat_of_nonneg h.1, Int.toNat_of_nonneg h'.1] at e
  exact e
theorem validRune_int (v : Int) (h0 : 0 ≤ v) (hv : v < 128) (W : World) : Calls Tryd.prog 86 #[.int .i32 v] W fun e w' => e = .returned (.bool true) ∧ W = w' := by
  have i2 : v < 55296 := by omega
  go_enter Tryd.func86, Tryd.ntmps86
  go_wp2
  go_ret
  exact ⟨rfl, rfl⟩

set_option maxRecDepth 100000 in
set_option maxHeartbeats 400000 in
theorem coded_v (b : Nat) (s : ByteArray) (k st : Nat) (ln : Bool) (M T : Value) (w : World) (hs : s.size ≤ 4000000000) (hk : k + 2 ≤ s.size) (h : Scn w b s k ln M T)
    (x1 x2 d1 d2 v : Int) (h1 : byteV s.data.toList k = x1) (h2 : byteV s.data.toList (k + 1) = x2) (r1 : 0 ≤ x1 ∧ x1 ≤ 255) (r2 : 0 ≤ x2 ∧ x2 ≤ 255) (e1 : digitV x1 = d1) (e2 : digitV x2 = d2) (hd1 : 0 ≤ d1 ∧ d1 < 8) (hd2 : 0 ≤ d2 ∧ d2 < 16) (hv : v = 16 * d1 + d2) :
    Calls Tryd.prog 83 #[.pointer (some ⟨b, 0, none⟩), .int .i64 st, .int .i64 2, .int .i32 127] w fun e w' =>
      e = .returned (.int .i32 v) ∧ Scn w' b s (k + 2 : Nat) ln M T ∧ w.grownBy w' (some b) := by
  have sm : Small4 k := by unfold Small4; omega
  have j1 : ¬ (15 : Int) < d1 := by omega
  have j2 : ¬ (15 : Int) < d2 := by omega
  have j3 : ¬ (127 : Int) < v := by omega
  have VR := Lib.hid (fun W => validRune_int v (by omega) (by omega) W)
  have B := Lib.hid (fun (j : Nat) W (h : Scn W b s j ln M T) => byteAt_any b s j ln M T j W (by unfold maxLen; omega) h)
  have D1 := Lib.hid (fun W => digit_any x1 W r1.1 r1.2)
  have D2 := Lib.hid (fun W => digit_any x2 W r2.1 r2.2)
  rw [e1] at D1
  rw [e2] at D2
  have O1 := Lib.hid (or_one d1 hd1)
  have O2 := Lib.hid ((or_two d1 d2 hd1 hd2).trans hv.symm)
  have H1 := Lib.hid h1
  have H2 := Lib.hid h2
  clear hv e1 e2 h1 h2 r1 r2 hd1 hd2
  go_enter Tryd.func83, Tryd.ntmps83
  go_wp2_with fail
  go_loopg [9, 12] 2 (fun g tr ti wr => ((g = 2 ∧ tr = .int .i32 0 ∧ ti = .int .i64 0 ∧ Scn wr b s k ln M T) ∨ (g = 1 ∧ tr = .int .i32 d1 ∧ ti = .int .i64 1 ∧ Scn wr b s (k + 1 : Nat) ln M T) ∨ (g = 0 ∧ tr = .int .i32 v ∧ ti = .int .i64 2 ∧ Scn wr b s (k + 2 : Nat) ln M T)) ∧ w.grownBy wr (some b))
  case atStart => exact ⟨.inl ⟨rfl, rfl, rfl, h⟩, ⟨rfl, rfl, rfl, Nat.le_refl _, fun _ _ _ => rfl⟩⟩
  case round =>
    obtain ⟨hc, hg⟩ := hrel
    rcases hc with ⟨rfl, rfl, rfl, hh⟩ | ⟨rfl, rfl, rfl, hh⟩ | ⟨rfl, rfl, rfl, hh⟩
    · have c1 := hh.c1
      have f1 := hh.fz 1
      have B1 := B.out k _ hh
      rw [H1.out] at B1
      have B1' := Lib.hid B1
      clear B1 hs hk h
      go_wp2_with fail
      refine B1'.out.mono ?_
      rintro e w' ⟨rfl, rfl⟩
      go_wp2_with fail
      refine (D1.out _).mono ?_
      rintro e w' ⟨rfl, rfl⟩
      go_upto_region 8 with fail
      have i1 := sm.i
      go_wp2_with fail
      go_roundg 1
      case rel => exact ⟨.inr (.inl ⟨rfl, congrArg (Value.int .i32) O1.out, rfl, by simpa using hh.set1 ((k : Int) + 1)⟩), hg.trans (grown_set b 1 _)⟩
      case measure => omega
    · have c1 := hh.c1
      have f1 := hh.fz 1
      have B1 := B.out (k + 1) _ hh
      have e1 : ((k + 1 : Nat) : Int) = (k : Int) + 1 := by omega
      rw [H2.out, e1] at B1
      rw [e1] at c1
      clear e1
      have B1' := Lib.hid B1
      clear B1 hs hk h
      go_wp2_with fail
      refine B1'.out.mono ?_
      rintro e w' ⟨rfl, rfl⟩
      go_wp2_with fail
      refine (D2.out _).mono ?_
      rintro e w' ⟨rfl, rfl⟩
      go_upto_region 8 with fail
      have i1 := sm.i
      go_wp2_with fail
      go_roundg 0
      case rel => exact ⟨.inr (.inr ⟨rfl, congrArg (Value.int .i32) O2.out, rfl, by simpa [Int.add_assoc] using hh.set1 ((k : Int) + 1 + 1)⟩), hg.trans (grown_set b 1 _)⟩
      case measure => omega
    · have V1 := Lib.hid (VR.out wr)
      clear hs hk h
      go_wp2_with fail
      refine V1.out.mono ?_
      rintro e w' ⟨rfl, rfl⟩
      go_wp2_with fail
      go_ret
      exact ⟨rfl, hh, hg⟩

theorem hex_digit (n : Nat) (h : n < 16) : digitV ((hexB n).toNat : Int) = n ∧ 0 ≤ ((hexB n).toNat : Int) ∧ ((hexB n).toNat : Int) ≤ 255 := by
  have : ∀ k : Fin 16, digitV ((hexB k.val).toNat : Int) = k.val ∧ 0 ≤ ((hexB k.val).toNat : Int) ∧ ((hexB k.val).toNat : Int) ≤ 255 := by decide +kernel
  exact this ⟨n, h⟩

set_option maxRecDepth 100000 in
set_option maxHeartbeats 400000 in
theorem escape_x (b : Nat) (s : ByteArray) (k st : Nat) (ln : Bool) (M T : Value) (w : World) (hs : s.size ≤ 4000000000) (hk : k + 4 ≤ s.size) (h : Scn w b s k ln M T) (c : UInt8) (hc : c.toNat < 128)
    (h0 : byteV s.data.toList (k + 1) = 120) (h1 : byteV s.data.toList (k + 2) = ((hexB (c.toNat / 16)).toNat : Int)) (h2 : byteV s.data.toList (k + 3) = ((hexB (c.toNat % 16)).toNat : Int)) :
    Calls Tryd.prog 76 #[.pointer (some ⟨b, 0, none⟩), .int .i64 st] w fun e w' =>
      e = .returned (.int .i32 (c.toNat : Int)) ∧ Scn w' b s (k + 4 : Nat) ln M T ∧ w.grownBy w' (some b) := by
  have i1 : (k : Int) + 4 ≤ 4000000000 := by omega
  have c1 := h.c1
  have f1 := h.fz 1
  have B1 := byteAt_any b s k ln M T (k + 1) w (by unfold maxLen; omega) h
  rw [h0, show ((k + 1 : Nat) : Int) = (k : Int) + 1 from by omega] at B1
  have B1' := Lib.hid B1
  have hs1 := h.set1 ((k : Int) + 2)
  have gs1 := grown_set (w := w) b 1 (.int .i64 ((k : Int) + 2))
  have x1 := hex_digit (c.toNat / 16) (by omega)
  have x2 := hex_digit (c.toNat % 16) (by omega)
  have C1 := Lib.hid (coded_v b s (k + 2) st ln M T (w.setCell ⟨b, 1, none⟩ (.int .i64 ((k : Int) + 2))) hs hk (by simpa using hs1) _ _ _ _ (c.toNat : Int) h1 h2 x1.2 x2.2 x1.1 x2.1 (by omega) (by omega) (by omega))
  clear B1 h1 h2 x1 x2 hc
  go_enter Tryd.func76, Tryd.ntmps76
  go_wp2_with fail
  refine B1'.out.mono ?_
  rintro e w' ⟨rfl, rfl⟩
  go_wp2_with fail
  refine C1.out.mono ?_
  rintro e w' ⟨rfl, h3, g3⟩
  go_wp2_with fail
  go_ret
  exact ⟨rfl, h3, gs1.trans g3⟩
end Go.Proofs.YtpebdfofnmojcaaDoor

/- Contracts: symbolic and str over the literal that Quote gives. -/
namespace Go.Proofs.YtpebdfofnmojcaaDoor
open Go.RowKit

set_option maxRecDepth 100000 in
set_option maxHeartbeats 400000 in
theorem symbolic_esc (b : Nat) (s : ByteArray) (k p' st : Nat) (ln : Bool) (M T : Value) (w : World) (hs : s.size ≤ 4000000000) (hk : k < s.size) (h : Scn w b s k ln M T) (r : Int)
    (h0 : s[k] = 92) (E : ∀ n, Calls Tryd.prog 76 #[.pointer (some ⟨b, 0, none⟩), .int .i64 st] (w.drewN n) fun e w' => e = .returned (.int .i32 r) ∧ Scn w' b s p' ln M T ∧ (w.drewN n).grownBy w' (some b)) :
    Calls Tryd.prog 66 #[.pointer (some ⟨b, 0, none⟩), .int .i64 st] w fun e w' =>
      e = .returned (.int .i32 r) ∧ Scn w' b s p' ln M T ∧ w.grownBy w' (some b) := by
  have i1 : (k : Int) < s.size := by omega
  have i2 : (s.size : Int) ≤ 4000000000 := by omega
  have c0 := h.c0
  have c1 := h.c1
  have E1 := Lib.hid E
  clear E
  go_enter Tryd.func66, Tryd.ntmps66
  go_wp2_with fail
  go_quiet (fail)
  go_wp2_with fail
  go_quiet (fail)
  go_wp2_with fail
  refine (E1.out _).mono ?_
  rintro e w' ⟨rfl, hh, hg⟩
  go_wp2_with fail
  go_ret
  exact ⟨rfl, hh, (grown_drewN _ _ _).trans hg⟩

theorem encode_low (c : UInt8) (hc : c.toNat < 128) : Lib.encodeRune (c.toNat : Int) = [c] := by
  unfold Lib.encodeRune
  rw [Lib.encodeRuneZ_one (by omega) (by omega)]
  simp
theorem decodeL_le4 (l : List UInt8) : (Lib.decodeL l).2 ≤ 4 := by
  rw [Lib.decodeL_N]
  rcases Lib.decodeN_shape l.length (l.getD 0 0).toNat (l.getD 1 0).toNat (l.getD 2 0).toNat (l.getD 3 0).toNat with ⟨c, e⟩ | ⟨c1, c2, c3, cv, e⟩ | ⟨c1, c2, c3, c4, cv, cs, e⟩ | ⟨c1, c2, c3, c4, c5, cv, cw, e⟩ | e
  all_goals (rw [e]; dsimp only; omega)
theorem drop_app (l a t : List UInt8) (p : Nat) (h : l.drop p = a ++ t) : l.drop (p + a.length) = t ∧ p + a.length ≤ p + (l.length - p) := by
  constructor
  · rw [← List.drop_drop, h]; simp
  · have := congrArg List.length h
    simp at this
    omega

/-- What a character of the literal gives. -/
structure NextRune (s : ByteArray) (l X : List UInt8) (r p' n : Nat) : Prop where
  n1 : 1 ≤ n
  n2 : n ≤ l.length
  enc : Lib.encodeRune (r : Int) = l.take n
  big : r ≤ 1114111
  valid : Lib.validD (l.drop n) = true
  rest : s.data.toList.drop p' = (l.drop n).flatMap qb ++ X
  le : p' ≤ s.size

theorem symbolic_lit (b : Nat) (s : ByteArray) (p st : Nat) (ln : Bool) (M T : Value) (w : World) (hs : s.size ≤ 4000000000) (hp : p ≤ s.size) (h : Scn w b s p ln M T) (hG : Glob w) (c : UInt8) (l' X : List UInt8)
    (hd : s.data.toList.drop p = (c :: l').flatMap qb ++ X) (hv : Lib.validD (c :: l') = true) :
    ∃ r p' n : Nat, NextRune s (c :: l') X r p' n ∧ Calls Tryd.prog 66 #[.pointer (some ⟨b, 0, none⟩), .int .i64 st] w fun e w' =>
      e = .returned (.int .i32 (r : Int)) ∧ Scn w' b s p' ln M T ∧ w.grownBy w' (some b) := by
  by_cases hc : 128 ≤ c.toNat
  · obtain ⟨hv1, hv2, hv3⟩ := body_high (c :: l') c l' rfl hc hv
    rw [hv3, List.append_assoc] at hd
    obtain ⟨r, n, hrn⟩ : ∃ r n, Lib.decodeL (c :: l') = (r, n) := ⟨_, _, rfl⟩
    have hle := Lib.decodeL_le (c :: l') (by simp)
    have hw := Lib.decodeL_width (c :: l')
    have hr := Lib.decodeL_rune (c :: l')
    have h4 := decodeL_le4 (c :: l')
    have henc := Lib.encode_decode (c :: l') (by simp) hv1
    have hpre : Lib.decodeL (s.data.toList.drop p) = (r, n) := by rw [hd, decodeL_pre _ _ (by simp) hv1, hrn]
    rw [hrn] at hv1 hv2 hle hw hr h4 henc hd
    dsimp only at hv1 hv2 hle hw hr h4 henc hd
    have htl : ((c :: l').take n).length = n := by rw [List.length_take]; omega
    obtain ⟨d1, d2⟩ := drop_app _ _ _ p hd
    rw [htl] at d1 d2
    rw [len_list] at d2
    obtain ⟨m, rfl⟩ : ∃ m, n = m + 1 := ⟨n - 1, by omega⟩
    obtain ⟨hk, h0⟩ := byte_drop s p c _ (by rw [hd, List.take_succ_cons]; rfl)
    exact ⟨r, p + (m + 1), m + 1, ⟨hw, hle, henc, hr, hv2, d1, by omega⟩, symbolic_rune b s p st ln M T w hs hk h hG c h0 (by omega) (by omega) r (m + 1) hpre h4 hv1⟩
  · have hc : c.toNat < 128 := by omega
    have hv2 := body_low (c :: l') c l' rfl hc hv
    rw [List.flatMap_cons, List.append_assoc] at hd
    obtain ⟨d1, d2⟩ := drop_app _ _ _ p hd
    rw [len_list] at d2
    have NR : ∀ p', p' = p + (qb c).length → NextRune s (c :: l') X c.toNat p' 1 := fun p' e => by
      subst e
      exact ⟨Nat.le_refl _, by simp, by rw [encode_low c hc]; rfl, by omega, hv2, d1, by omega⟩
    have letter : ∀ (x : UInt8), qb c = [92, x] → (((x.toNat : Int) = 110 ∧ (c.toNat : Int) = 10) ∨ ((x.toNat : Int) = 116 ∧ (c.toNat : Int) = 9) ∨ ((x.toNat : Int) = 114 ∧ (c.toNat : Int) = 13) ∨ ((x.toNat : Int) = 48 ∧ (c.toNat : Int) = 0) ∨ ((x.toNat : Int) = 92 ∧ (c.toNat : Int) = 92) ∨ ((x.toNat : Int) = 34 ∧ (c.toNat : Int) = 34)) →
        ∃ r p' n : Nat, NextRune s (c :: l') X r p' n ∧ Calls Tryd.prog 66 #[.pointer (some ⟨b, 0, none⟩), .int .i64 st] w fun e w' =>
          e = .returned (.int .i32 (r : Int)) ∧ Scn w' b s p' ln M T ∧ w.grownBy w' (some b) := fun x hq hx => by
      rw [hq] at hd d2 NR
      obtain ⟨hk, h0⟩ := byte_drop s p 92 _ hd
      have hb1 : byteV s.data.toList (p + 1) = (x.toNat : Int) := by rw [byteV_drop, hd]; simp only [List.cons_append]; rw [byteV_succ, byteV_cons]
      have d3 : p + 2 ≤ s.size := by simp at d2; omega
      exact ⟨c.toNat, p + 2, 1, NR (p + 2) rfl, symbolic_esc b s p (p + 2) st ln M T w hs hk h c.toNat h0 (fun n => escape_letter b s p st ln M T (w.drewN n) hs d3 (h.drewN n) _ _ hb1 hx)⟩
    by_cases c10 : c = 10
    · subst c10; exact letter 110 rfl (by decide)
    by_cases c9 : c = 9
    · subst c9; exact letter 116 rfl (by decide)
    by_cases c13 : c = 13
    · subst c13; exact letter 114 rfl (by decide)
    by_cases c0 : c = 0
    · subst c0; exact letter 48 rfl (by decide)
    by_cases c34 : c = 34
    · subst c34; exact letter 34 rfl (by decide)
    by_cases c92 : c = 92
    · subst c92; exact letter 92 rfl (by decide)
    by_cases cx : c.toNat < 32 ∨ c.toNat = 127
    · have hq : qb c = [92, 120, hexB (c.toNat / 16), hexB (c.toNat % 16)] := by
        unfold qb
        rw [if_neg c10, if_neg c9, if_neg c13, if_neg c0, if_neg c34, if_neg c92, if_pos cx]
      rw [hq] at hd d2 NR
      obtain ⟨hk, h0⟩ := byte_drop s p 92 _ hd
      have hb1 : byteV s.data.toList (p + 1) = 120 := by rw [byteV_drop, hd]; rfl
      have hb2 : byteV s.data.toList (p + 2) = ((hexB (c.toNat / 16)).toNat : Int) := by rw [byteV_drop, hd]; simp only [List.cons_append]; rw [byteV_succ, byteV_succ, byteV_cons]
      have hb3 : byteV s.data.toList (p + 3) = ((hexB (c.toNat % 16)).toNat : Int) := by rw [byteV_drop, hd]; simp only [List.cons_append]; rw [byteV_succ, byteV_succ, byteV_succ, byteV_cons]
      have d3 : p + 4 ≤ s.size := by simp at d2; omega
      exact ⟨c.toNat, p + 4, 1, NR (p + 4) rfl, symbolic_esc b s p (p + 4) st ln M T w hs hk h c.toNat h0 (fun n => escape_x b s p st ln M T (w.drewN n) hs d3 (h.drewN n) c hc hb1 hb2 hb3)⟩
    · have hq : qb c = [c] := by
        unfold qb
        rw [if_neg c10, if_neg c9, if_neg c13, if_neg c0, if_neg c34, if_neg c92, if_neg cx]
      rw [hq] at hd d2 NR
      obtain ⟨hk, h0⟩ := byte_drop s p c _ hd
      have n10 : c.toNat ≠ 10 := fun e => c10 (UInt8.toNat_inj.1 (by simpa using e))
      have n92 : c.toNat ≠ 92 := fun e => c92 (UInt8.toNat_inj.1 (by simpa using e))
      exact ⟨c.toNat, p + 1, 1, NR (p + 1) rfl, symbolic_plain b s p st ln M T w hs hk h c h0 hc n10 n92⟩

theorem runeCells_u8s (r : Int) : Lib.runeCells r = u8s (Lib.encodeRune r) := by
  rw [← Lib.byteCells_encodeRune]; rfl

theorem appendRune_any (B : Nat) (v : Value) (n : Nat) (xs : List Value) (r m : Nat) (l : List UInt8) (w : World) (hr : r ≤ 1114111) (he : Lib.encodeRune (r : Int) = l) (hm : l.length = m) (hn : n ≤ 1000000000) (hB : B ≤ w.heap.size) (hw : w.ownsRow B 5 1 v n xs) :
    Calls Tryd.prog 65 #[v, .int .i32 r] w fun e w' => ∃ v', e = .returned v' ∧ w'.ownsRow B 5 1 v' (n + m) (xs ++ u8s l) ∧ w.grownBy w' v.ownBlock := by
  have h := Any.utf8_AppendRune_plain Tryd.lays242 (by kernel_rfl) B v n xs r (by omega) (by omega) w hw (by omega) hB
  rw [runeCells_u8s, he, show (u8s l).length = m by simp [u8s, hm]] at h
  refine h.mono ?_
  rintro e w' ⟨v', rfl, h1, o, h2⟩
  exact ⟨v', rfl, h1, (grown_alloc w o _).trans h2⟩

theorem qb_head (c : UInt8) : ∃ x y, qb c = x :: y ∧ x ≠ 34 := by
  unfold qb
  repeat' split
  all_goals first
    | exact ⟨_, _, rfl, by decide⟩
    | (refine ⟨_, _, rfl, ?_⟩; assumption)

set_option maxRecDepth 100000 in
set_option maxHeartbeats 1000000 in
theorem str_lit (b : Nat) (hb4 : 5 ≤ b) (s : ByteArray) (k : Nat) (ln : Bool) (M T : Value) (w : World) (hs : s.size ≤ 100000000) (hk : k ≤ s.size) (h : Scn w b s k ln M T) (hG : Glob w) (l X : List UInt8)
    (hd : s.data.toList.drop k = qs l ++ 34 :: X) (hv : Lib.validD l = true) (hp : hasPre (s.data.toList.drop k) [34, 34, 34] = false) :
    Calls Tryd.prog 52 #[.pointer (some ⟨b, 0, none⟩)] w fun e w' =>
      e = .returned (.string ⟨l.toArray⟩) ∧ Scn w' b s (k + (qs l).length + 1 : Nat) ln M T ∧ w.grownBy w' (some b) := by
  have hbl := h.lt
  have c0 := h.c0
  have c1 := h.c1
  have f1 := h.fz 1
  have hsz := congrArg List.length hd
  simp only [List.length_drop, List.length_append, List.length_cons, len_list] at hsz
  have hql : (qs l).length = 1 + (l.flatMap qb).length := by unfold qs; simp; omega
  have hll : l.length ≤ (l.flatMap qb).length := by
    clear hd hv hsz hql
    induction l with
    | nil => simp
    | cons c l ih =>
      obtain ⟨x, y, e, _⟩ := qb_head c
      rw [List.flatMap_cons, e, List.length_append, List.length_cons, List.length_cons]; omega
  have hln0 : l.length ≤ 100000000 := by omega
  have i1 : (k : Int) + 2 ≤ s.size := by omega
  have i2 : (s.size : Int) ≤ 100000000 := by omega
  have P1 := Lib.hid (fun W => prefix_at s k ⟨#[34, 34, 34]⟩ W (by omega) (by decide))
  have hp' : hasPre (s.data.toList.drop k) (ByteArray.mk #[34, 34, 34]).data.toList = false := hp
  rw [hp'] at P1
  have B := Lib.hid (fun (j : Nat) W (h : Scn W b s j ln M T) => byteAt_any b s j ln M T j W (by unfold maxLen; omega) h)
  have hs1 : Scn (w.setCell ⟨b, 1, none⟩ (.int .i64 ((k : Int) + 1))) b s (k + 1 : Nat) ln M T := by simpa using h.set1 ((k : Int) + 1)
  have gs1 := grown_set (w := w) b 1 (.int .i64 ((k : Int) + 1))
  have hd1 : s.data.toList.drop (k + 1) = l.flatMap qb ++ 34 :: X := by
    rw [← List.drop_drop, hd]; rfl
  have HD := Lib.hid hd
  have HG := Lib.hid hG
  clear hp hp' hd hG
  go_enter Tryd.func52, Tryd.ntmps52
  go_wp2_with fail
  refine (P1.out _).mono ?_
  rintro e w' ⟨rfl, rfl⟩
  go_wp2_with fail
  go_loopg [6] l.length (fun g tv wr => ∃ don rest p, l = don ++ rest ∧ rest.length = g ∧ Scn wr b s (p : Nat) ln M T ∧ p ≤ s.size ∧ s.data.toList.drop p = rest.flatMap qb ++ 34 :: X ∧ Lib.validD rest = true ∧ wr.ownsRow w.heap.size 5 1 tv don.length (u8s don) ∧ w.grownBy wr (some b))
  case atStart => exact ⟨[], l, k + 1, rfl, rfl, hs1, by omega, hd1, hv, World.ownsRow_nil _ _ _ _, gs1⟩
  case round =>
    obtain ⟨don, rest, p, rfl, rfl, hh, hpl, hdp, hvr, ho, hg⟩ := hrel
    have hgs := hg.size
    have c1' := hh.c1
    have f1' := hh.fz 1
    have B1 := B.out p _ hh
    cases rest with
    | nil =>
      have hz := congrArg List.length hdp
      simp only [List.length_drop, List.length_append, List.length_cons, len_list, List.flatMap_nil, List.length_nil] at hz
      have hb : byteV s.data.toList p = 34 := by
        have := byteV_drop s.data.toList p 0
        rw [Nat.add_zero] at this
        rw [this, hdp]; rfl
      rw [hb] at B1
      have B1' := Lib.hid B1
      have i3 : (p : Int) + 1 ≤ 100000000 := by omega
      rw [List.append_nil] at hsz hql
      have CV : ∀ W', (∀ q, w.heap.size ≤ q → q < wr.heap.size → W'.heap[q]? = wr.heap[q]?) → (convert 46 9 _).run Tryd.prog W' = .ok (.string ⟨don.toArray⟩) W' := fun W' hW => conv_own (l := don) (owns_kept ho fun q h1 h2 => hW q h2 h1)
      have CV' := CV (wr.setCell ⟨b, 1, none⟩ (.int .i64 ((p : Int) + 1))) (fun q h1 h2 => Below.heap_setCell _ _ _ _ (by simp; omega))
      clear B1 ho c0 c1 f1 CV
      go_wp2_with fail
      refine B1'.out.mono ?_
      rintro e w' ⟨rfl, rfl⟩
      go_wp2_with fail
      go_ret
      refine ⟨by rw [List.append_nil]; rfl, ?_, hg.trans (grown_set b 1 _)⟩
      have := hh.set1 ((p : Int) + 1)
      rw [List.append_nil, show k + (qs don).length + 1 = p + 1 by omega]
      simpa using this
    | cons c l' =>
      have hb : byteV s.data.toList p ≠ 34 := by
        obtain ⟨x, y, e, hx⟩ := qb_head c
        have := byteV_drop s.data.toList p 0
        rw [Nat.add_zero] at this
        rw [this, hdp, List.flatMap_cons, e]
        simp only [List.cons_append]
        rw [byteV_cons]
        intro he
        exact hx (UInt8.toNat_inj.1 (by simpa using (by omega : x.toNat = 34)))
      obtain ⟨q, hq⟩ : ∃ q, byteV s.data.toList p = q := ⟨_, rfl⟩
      rw [hq] at hb B1
      have B1' := Lib.hid B1
      have jb : (q == 34) = false := by simpa using hb
      obtain ⟨r, p', n, NR, CS⟩ := symbolic_lit b s p k ln M T wr (by omega) hpl hh (HG.out.grown hg (fun j e => by cases e; omega)) c l' (34 :: X) hdp hvr
      have CS' := Lib.hid CS
      have HO := Lib.hid ho
      have NR' := Lib.hid NR
      clear B1 ho c0 c1 f1 CS NR hq hb hdp
      go_wp2_with fail
      refine B1'.out.mono ?_
      rintro e w' ⟨rfl, rfl⟩
      go_wp2_with fail
      refine CS'.out.mono ?_
      rintro e w2 ⟨rfl, h3, g3⟩
      have ho2 := HO.out.kept g3 (by
        cases hv : (Value.ownBlock _) with
        | none => exact .inl rfl
        | some q => exact .inr (fun e => by have := (HO.out.lt q hv).1; cases e; omega))
      have hs3 := g3.size
      have hln : don.length ≤ 1000000000 := by rw [List.length_append] at hln0; omega
      have A1 := Lib.hid (appendRune_any w.heap.size _ don.length _ r n ((c :: l').take n) w2 NR'.out.big NR'.out.enc (by rw [List.length_take]; have := NR'.out.n2; omega) hln (by omega) ho2)
      have HL := HO.out.lt
      go_wp2_with fail
      refine A1.out.mono ?_
      rintro e w3 ⟨v', rfl, ho3, g4⟩
      go_wp2_with fail
      have NRo := NR'.out
      have n1 := NRo.n1
      have n2 := NRo.n2
      go_roundg ((c :: l').drop n).length
      case rel =>
        exact ⟨don ++ (c :: l').take n, (c :: l').drop n, p', by rw [List.append_assoc, List.take_append_drop], rfl, h3.grown g4 (fun e => by have := (HL b e.symm).1; omega), NRo.le, NRo.rest, NRo.valid,
          by rw [List.length_append, List.length_take, Nat.min_eq_left n2, u8s_append]; exact ho3, grown_own (hg.trans g3) g4 (fun q e => (HL q e).1)⟩
      case measure => simp at n2 ⊢; omega
end Go.Proofs.YtpebdfofnmojcaaDoor

/- Contracts: ValidRune, coded, over every text. -/
namespace Go.Proofs.YtpebdfofnmojcaaDoor
open Go.RowKit

def runeV (v : Nat) : Bool := decide (v < 55296) || (decide (57343 < v) && decide (v ≤ 1114111))
theorem validRune_gen (v : Nat) (W : World) : Calls Tryd.prog 86 #[.int .i32 v] W fun e w' => e = .returned (.bool (runeV v)) ∧ W = w' := by
  have i0 : (0 : Int) ≤ v := by omega
  by_cases h1 : v < 55296
  · have i1 : (v : Int) < 55296 := by omega
    rw [show runeV v = true by simp [runeV, h1]]
    clear h1
    go_enter Tryd.func86, Tryd.ntmps86
    go_wp2
    go_ret
    exact ⟨rfl, rfl⟩
  · have i1 : ¬ (v : Int) < 55296 := by omega
    by_cases h2 : 57343 < v
    · have i2 : (57343 : Int) < v := by omega
      by_cases h3 : v ≤ 1114111
      · have i3 : (v : Int) ≤ 1114111 := by omega
        rw [show runeV v = true by simp [runeV, h2, h3]]
        clear h1 h2 h3
        go_enter Tryd.func86, Tryd.ntmps86
        go_wp2
        go_ret
        exact ⟨rfl, rfl⟩
      · have i3 : ¬ (v : Int) ≤ 1114111 := by omega
        rw [show runeV v = false by simp [runeV, h1, h3]]
        clear h1 h2 h3
        go_enter Tryd.func86, Tryd.ntmps86
        go_wp2
        go_ret
        exact ⟨rfl, rfl⟩
    · have i2 : ¬ (57343 : Int) < v := by omega
      rw [show runeV v = false by simp [runeV, h1, h2]]
      clear h1 h2
      go_enter Tryd.func86, Tryd.ntmps86
      go_wp2
      go_ret
      exact ⟨rfl, rfl⟩

theorem or_low (r d : Nat) (hd : d < 16) : r * 16 ||| d = 16 * r + d := by
  have := Nat.shiftLeft_add_eq_or_of_lt (i := 4) (b := d) (by omega) r
  rw [Nat.shiftLeft_eq, show (2 : Nat) ^ 4 = 16 from rfl] at this
  omega
theorem or_hex (r d : Nat) (hr : r < 100000000) (hd : d < 16) : bits BinOp.or IntKind.i32 (wrap32 ((r : Int) * 16)) (d : Int) = ((16 * r + d : Nat) : Int) := by
  have e1 : wrap32 ((r : Int) * 16) = ((r * 16 : Nat) : Int) := by unfold wrap32; omega
  rw [e1]
  show IntKind.i32.wrap ((BitVec.ofInt 32 ((r * 16 : Nat) : Int) ||| BitVec.ofInt 32 (d : Int)).toNat : Int) = _
  rw [BitVec.toNat_or, ofInt_u32 (r * 16) (by omega), ofInt_u32 d (by omega), or_low r d hd]
  exact wrap_i32_small _ (by omega) (by omega)

/-- A number of so many hexadecimal digits: the number, and where it ends. -/
def codF : Nat → List UInt8 → Nat → Nat → Option (Nat × Nat)
  | 0, _, k, r => some (r, k)
  | n + 1, l, k, r => if 15 < digitV (byteV l k) then none else codF n l (k + 1) (16 * r + (digitV (byteV l k)).toNat)
def codOk (most : Nat) : Option (Nat × Nat) → Option (Nat × Nat)
  | some x => if most < x.1 ∨ runeV x.1 = false then none else some x
  | none => none
def CodPost (b : Nat) (s : ByteArray) (st : Nat) (ln : Bool) (M T : Value) : Option (Nat × Nat) → Ending → World → Prop
  | some x, e, w' => e = .returned (.int .i32 (x.1 : Int)) ∧ Scn w' b s (x.2 : Nat) ln M T
  | none, e, _ => e = fltE st 31
def Small8 (k : Nat) : Prop := k + 10 ≤ 4000000000
theorem Small8.i {k : Nat} (h : Small8 k) (i : Nat) (hi : i ≤ 8) : ((k + i : Nat) : Int) < 4000000000 - 1 := by unfold Small8 at h; omega

set_option maxRecDepth 100000 in
set_option maxHeartbeats 800000 in
theorem coded_gen (b : Nat) (s : ByteArray) (k st cnt most : Nat) (ln : Bool) (M T : Value) (w : World) (hs : s.size ≤ 4000000000) (hk : Small8 k) (hc : cnt ≤ 6) (h : Scn w b s k ln M T) :
    Calls Tryd.prog 83 #[.pointer (some ⟨b, 0, none⟩), .int .i64 st, .int .i64 cnt, .int .i32 most] w fun e w' =>
      CodPost b s st ln M T (codOk most (codF cnt s.data.toList k 0)) e w' ∧ w.grownBy w' (some b) := by
  obtain ⟨R, hR⟩ : ∃ R, codF cnt s.data.toList k 0 = R := ⟨_, rfl⟩
  rw [hR]
  have HR := Lib.hid hR
  have VR := Lib.hid (fun v W => validRune_gen v W)
  have B := Lib.hid (fun (j : Nat) W (hj : j ≤ 4100000000) (h : Scn W b s j ln M T) => byteAt_any b s j ln M T j W (by unfold maxLen; omega) h)
  have D := Lib.hid (fun x W h0 h1 => digit_any x W h0 h1)
  have BR := Lib.hid (fun j => byteV_range s.data.toList j)
  have DRG := Lib.hid (fun x h0 h1 => digitV_range x h0 h1)
  have HC := Lib.hid hc
  clear hR hs hc
  go_enter Tryd.func83, Tryd.ntmps83
  go_wp2_with fail
  go_loopg [9, 12] cnt (fun g tr ti wr => ∃ i r : Nat, Hid (i + g = cnt ∧ r < 16 ^ i) ∧ tr = .int .i32 r ∧ ti = .int .i64 i ∧ Scn wr b s (k + i : Nat) ln M T ∧ Hid (codF g s.data.toList (k + i) r = R) ∧ w.grownBy wr (some b))
  case atStart => exact ⟨0, 0, Lib.hid ⟨by omega, by decide⟩, rfl, rfl, h, HR, ⟨rfl, rfl, rfl, Nat.le_refl _, fun _ _ _ => rfl⟩⟩
  case round =>
    obtain ⟨i, r, hir, rfl, rfl, hh, hF, hg⟩ := hrel
    clear h
    cases gk with
    | zero =>
      have e0 : (i : Int) = cnt := by have := hir.out.1; omega
      have hF2 := hF.out
      unfold codF at hF2
      have j0 : ¬ (i : Int) < cnt := by omega
      have HF := Lib.hid hF2
      clear hF2 hF e0
      by_cases hm : most < r
      · have j1 : (most : Int) < r := by omega
        have HM := Lib.hid hm
        have c1 := hh.c1
        clear hm
        go_wp2_with fail
        refine ⟨rfl, ?_, hg⟩
        rw [← HF.out]
        simp only [codOk, HM.out, true_or, if_true]
        rfl
      · have j1 : ¬ (most : Int) < r := by omega
        have HM := Lib.hid hm
        have V1 := VR.out r wr
        cases hv : runeV r with
        | false =>
          rw [hv] at V1
          have V1' := Lib.hid V1
          have HV := Lib.hid hv
          clear V1 hm hv
          go_wp2_with fail
          refine V1'.out.mono ?_
          rintro e w' ⟨rfl, rfl⟩
          go_wp2_with fail
          refine ⟨rfl, ?_, hg⟩
          rw [← HF.out]
          simp only [codOk, HV.out, or_true, if_true]
          rfl
        | true =>
          rw [hv] at V1
          have V1' := Lib.hid V1
          have HV := Lib.hid hv
          clear V1 hm hv
          go_wp2_with fail
          refine V1'.out.mono ?_
          rintro e w' ⟨rfl, rfl⟩
          go_wp2_with fail
          go_ret
          refine ⟨?_, hg⟩
          rw [← HF.out]
          simp only [codOk, HV.out, HM.out, or_self, Bool.true_eq_false, if_false]
          exact ⟨rfl, hh⟩
    | succ g =>
      have hF2 := hF.out
      unfold codF at hF2
      have j0 : (i : Int) < cnt := by have := hir.out.1; omega
      have c1 := hh.c1
      have f1 := hh.fz 1
      have hi6 : i ≤ 6 := by have := hir.out.1; have := HC.out; omega
      have B1 := B.out (k + i) _ (by have := hk.i i (by omega); omega) hh
      have br := BR.out (k + i)
      generalize byteV s.data.toList (k + i) = x at *
      have D1 := D.out x wr br.1 br.2
      have dr := DRG.out x br.1 br.2
      generalize digitV x = q at *
      obtain ⟨d, rfl⟩ := Int.eq_ofNat_of_zero_le dr.1
      have B1' := Lib.hid B1
      have D1' := Lib.hid D1
      clear br dr B1 D1 hF
      by_cases hq : 15 < d
      · have j1 : (15 : Int) < (d : Int) := by omega
        rw [if_pos j1] at hF2
        have HF := Lib.hid hF2
        clear hF2 hq f1 hi6
        go_wp2_with fail
        refine B1'.out.mono ?_
        rintro e w' ⟨rfl, rfl⟩
        go_wp2_with fail
        refine D1'.out.mono ?_
        rintro e w' ⟨rfl, rfl⟩
        go_wp2_with fail
        refine ⟨rfl, ?_, hg⟩
        rw [← HF.out]
        rfl
      · have j1 : ¬ (15 : Int) < (d : Int) := by omega
        rw [if_neg j1] at hF2
        have HF : Hid (codF g s.data.toList (k + (i + 1)) (16 * r + d) = R) := Lib.hid (by simpa [Nat.add_assoc] using hF2)
        have r16 : r < 100000000 := by
          have h1 := hir.out.2
          have h2 : 16 ^ i ≤ 16 ^ 6 := Nat.pow_le_pow_right (by omega) hi6
          omega
        have OH := Lib.hid (or_hex r d r16 (by omega))
        have HQ := Lib.hid hq
        have I6 := Lib.hid hi6
        clear hF2 hq hi6 r16
        go_wp2_with fail
        refine B1'.out.mono ?_
        rintro e w' ⟨rfl, rfl⟩
        go_wp2_with fail
        refine D1'.out.mono ?_
        rintro e w' ⟨rfl, rfl⟩
        go_upto_region 8 with fail
        have i1 := hk.i i (by have := I6.out; omega)
        go_wp2_with fail
        go_roundg g
        case rel =>
          refine ⟨i + 1, 16 * r + d, Lib.hid ⟨by have := hir.out.1; omega, ?_⟩, congrArg (Value.int .i32) OH.out, by simp, ?_, HF, hg.trans (grown_set b 1 _)⟩
          · have := hir.out.2
            have := HQ.out
            rw [Nat.pow_succ]; omega
          · have := hh.set1 ((k : Int) + i + 1)
            simpa [Int.add_assoc] using this
        case measure => omega
end Go.Proofs.YtpebdfofnmojcaaDoor

/- Contracts: escape, symbolic, over every text; a symbol that is none. -/
namespace Go.Proofs.YtpebdfofnmojcaaDoor
open Go.RowKit

/-- The character of an escape, and where it ends. -/
def escF (l : List UInt8) (k : Nat) : Option (Nat × Nat) :=
  if byteV l (k + 1) = 110 then some (10, k + 2) else if byteV l (k + 1) = 116 then some (9, k + 2) else if byteV l (k + 1) = 114 then some (13, k + 2) else if byteV l (k + 1) = 48 then some (0, k + 2)
  else if byteV l (k + 1) = 92 then some (92, k + 2) else if byteV l (k + 1) = 34 then some (34, k + 2) else if byteV l (k + 1) = 39 then some (39, k + 2)
  else if byteV l (k + 1) = 120 then codOk 127 (codF 2 l (k + 2) 0) else if byteV l (k + 1) = 117 then codOk 1114111 (codF 4 l (k + 2) 0) else if byteV l (k + 1) = 85 then codOk 1114111 (codF 6 l (k + 2) 0) else none

set_option maxRecDepth 100000 in
set_option maxHeartbeats 1600000 in
theorem escape_gen (b : Nat) (s : ByteArray) (k st : Nat) (ln : Bool) (M T : Value) (w : World) (hs : s.size ≤ 4000000000) (hk : Small8 k) (hk2 : Small8 (k + 2)) (h : Scn w b s k ln M T) :
    Calls Tryd.prog 76 #[.pointer (some ⟨b, 0, none⟩), .int .i64 st] w fun e w' => CodPost b s st ln M T (escF s.data.toList k) e w' ∧ w.grownBy w' (some b) := by
  obtain ⟨R, hR⟩ : ∃ R, escF s.data.toList k = R := ⟨_, rfl⟩
  rw [hR]
  unfold escF at hR
  have c1 := h.c1
  have f1 := h.fz 1
  have B1 := byteAt_any b s k ln M T (k + 1) w (by have := hk.i 2 (by omega); unfold maxLen; omega) h
  have hs1 : Scn (w.setCell ⟨b, 1, none⟩ (.int .i64 ((k : Int) + 2))) b s (k + 2 : Nat) ln M T := by simpa using h.set1 ((k : Int) + 2)
  have gs1 := grown_set (w := w) b 1 (.int .i64 ((k : Int) + 2))
  have CG := Lib.hid (fun cnt most hc => coded_gen b s (k + 2) st cnt most ln M T (w.setCell ⟨b, 1, none⟩ (.int .i64 ((k : Int) + 2))) hs hk2 hc hs1)
  rw [show ((k + 1 : Nat) : Int) = (k : Int) + 1 from by omega] at B1
  have i1 := hk.i 0 (by omega)
  rw [Nat.add_zero] at i1
  have I1 := Lib.hid i1
  obtain ⟨x, hx⟩ : ∃ x, byteV s.data.toList (k + 1) = x := ⟨_, rfl⟩
  rw [hx] at B1 hR
  have B1' := Lib.hid B1
  have br := byteV_range s.data.toList (k + 1)
  rw [hx] at br
  clear B1 hs hk2 h hx
  by_cases x110 : x = 110
  · subst x110
    have HR : Hid (some (10, k + 2) = R) := Lib.hid (by simpa using hR)
    clear hR br
    go_enter Tryd.func76, Tryd.ntmps76
    go_wp2_with fail
    refine B1'.out.mono ?_
    rintro e w' ⟨rfl, rfl⟩
    go_wp2_with fail
    go_ret
    refine ⟨?_, gs1⟩
    rw [← HR.out]
    exact ⟨rfl, hs1⟩
  have n110 : (x == 110) = false := by simpa using x110
  by_cases x116 : x = 116
  · subst x116
    have HR : Hid (some (9, k + 2) = R) := Lib.hid (by simpa using hR)
    clear hR br
    go_enter Tryd.func76, Tryd.ntmps76
    go_wp2_with fail
    refine B1'.out.mono ?_
    rintro e w' ⟨rfl, rfl⟩
    go_wp2_with fail
    go_ret
    refine ⟨?_, gs1⟩
    rw [← HR.out]
    exact ⟨rfl, hs1⟩
  have n116 : (x == 116) = false := by simpa using x116
  by_cases x114 : x = 114
  · subst x114
    have HR : Hid (some (13, k + 2) = R) := Lib.hid (by simpa using hR)
    clear hR br
    go_enter Tryd.func76, Tryd.ntmps76
    go_wp2_with fail
    refine B1'.out.mono ?_
    rintro e w' ⟨rfl, rfl⟩
    go_wp2_with fail
    go_ret
    refine ⟨?_, gs1⟩
    rw [← HR.out]
    exact ⟨rfl, hs1⟩
  have n114 : (x == 114) = false := by simpa using x114
  by_cases x48 : x = 48
  · subst x48
    have HR : Hid (some (0, k + 2) = R) := Lib.hid (by simpa using hR)
    clear hR br
    go_enter Tryd.func76, Tryd.ntmps76
    go_wp2_with fail
    refine B1'.out.mono ?_
    rintro e w' ⟨rfl, rfl⟩
    go_wp2_with fail
    go_ret
    refine ⟨?_, gs1⟩
    rw [← HR.out]
    exact ⟨rfl, hs1⟩
  have n48 : (x == 48) = false := by simpa using x48
  by_cases x92 : x = 92
  · subst x92
    have HR : Hid (some (92, k + 2) = R) := Lib.hid (by simpa using hR)
    clear hR br
    go_enter Tryd.func76, Tryd.ntmps76
    go_wp2_with fail
    refine B1'.out.mono ?_
    rintro e w' ⟨rfl, rfl⟩
    go_wp2_with fail
    go_ret
    refine ⟨?_, gs1⟩
    rw [← HR.out]
    exact ⟨rfl, hs1⟩
  have n92 : (x == 92) = false := by simpa using x92
  by_cases x34 : x = 34
  · subst x34
    have HR : Hid (some (34, k + 2) = R) := Lib.hid (by simpa using hR)
    clear hR br
    go_enter Tryd.func76, Tryd.ntmps76
    go_wp2_with fail
    refine B1'.out.mono ?_
    rintro e w' ⟨rfl, rfl⟩
    go_wp2_with fail
    go_ret
    refine ⟨?_, gs1⟩
    rw [← HR.out]
    exact ⟨rfl, hs1⟩
  have n34 : (x == 34) = false := by simpa using x34
  by_cases x39 : x = 39
  · subst x39
    have HR : Hid (some (39, k + 2) = R) := Lib.hid (by simpa using hR)
    clear hR br
    go_enter Tryd.func76, Tryd.ntmps76
    go_wp2_with fail
    refine B1'.out.mono ?_
    rintro e w' ⟨rfl, rfl⟩
    go_wp2_with fail
    go_ret
    refine ⟨?_, gs1⟩
    rw [← HR.out]
    exact ⟨rfl, hs1⟩
  have n39 : (x == 39) = false := by simpa using x39
  by_cases x120 : x = 120
  · subst x120
    have HR : Hid (codOk 127 (codF 2 s.data.toList (k + 2) 0) = R) := Lib.hid (by simpa using hR)
    clear hR br
    go_enter Tryd.func76, Tryd.ntmps76
    go_wp2_with fail
    refine B1'.out.mono ?_
    rintro e w' ⟨rfl, rfl⟩
    go_wp2_with fail
    refine (CG.out 2 127 (by omega)).mono ?_
    rintro e w2 ⟨hp, g2⟩
    rw [HR.out] at hp
    have G2 := gs1.trans g2
    cases R with
    | none =>
      unfold CodPost fltE at hp
      subst hp
      clear HR
      go_wp2_with fail
      exact ⟨rfl, rfl, G2⟩
    | some y =>
      obtain ⟨rfl, hsc⟩ := hp
      clear HR
      go_wp2_with fail
      go_ret
      exact ⟨⟨rfl, hsc⟩, G2⟩
  have n120 : (x == 120) = false := by simpa using x120
  by_cases x117 : x = 117
  · subst x117
    have HR : Hid (codOk 1114111 (codF 4 s.data.toList (k + 2) 0) = R) := Lib.hid (by simpa using hR)
    clear hR br
    go_enter Tryd.func76, Tryd.ntmps76
    go_wp2_with fail
    refine B1'.out.mono ?_
    rintro e w' ⟨rfl, rfl⟩
    go_wp2_with fail
    refine (CG.out 4 1114111 (by omega)).mono ?_
    rintro e w2 ⟨hp, g2⟩
    rw [HR.out] at hp
    have G2 := gs1.trans g2
    cases R with
    | none =>
      unfold CodPost fltE at hp
      subst hp
      clear HR
      go_wp2_with fail
      exact ⟨rfl, rfl, G2⟩
    | some y =>
      obtain ⟨rfl, hsc⟩ := hp
      clear HR
      go_wp2_with fail
      go_ret
      exact ⟨⟨rfl, hsc⟩, G2⟩
  have n117 : (x == 117) = false := by simpa using x117
  by_cases x85 : x = 85
  · subst x85
    have HR : Hid (codOk 1114111 (codF 6 s.data.toList (k + 2) 0) = R) := Lib.hid (by simpa using hR)
    clear hR br
    go_enter Tryd.func76, Tryd.ntmps76
    go_wp2_with fail
    refine B1'.out.mono ?_
    rintro e w' ⟨rfl, rfl⟩
    go_wp2_with fail
    refine (CG.out 6 1114111 (by omega)).mono ?_
    rintro e w2 ⟨hp, g2⟩
    rw [HR.out] at hp
    have G2 := gs1.trans g2
    cases R with
    | none =>
      unfold CodPost fltE at hp
      subst hp
      clear HR
      go_wp2_with fail
      exact ⟨rfl, rfl, G2⟩
    | some y =>
      obtain ⟨rfl, hsc⟩ := hp
      clear HR
      go_wp2_with fail
      go_ret
      exact ⟨⟨rfl, hsc⟩, G2⟩
  have n85 : (x == 85) = false := by simpa using x85
  have HR : Hid (none = R) := Lib.hid (by simpa [x110, x116, x114, x48, x92, x34, x39, x120, x117, x85] using hR)
  clear hR br x110 x116 x114 x48 x92 x34 x39 x120 x117 x85
  go_enter Tryd.func76, Tryd.ntmps76
  go_wp2_with fail
  refine B1'.out.mono ?_
  rintro e w' ⟨rfl, rfl⟩
  go_wp2_with fail
  refine ⟨rfl, ?_, gs1⟩
  rw [← HR.out]
  rfl
end Go.Proofs.YtpebdfofnmojcaaDoor

/- Contracts: symbolic over every text; a symbol that is none. -/
namespace Go.Proofs.YtpebdfofnmojcaaDoor
open Go.RowKit

set_option maxRecDepth 100000 in
set_option maxHeartbeats 400000 in
theorem symbolic_esc_bad (b : Nat) (s : ByteArray) (k p st : Nat) (ln : Bool) (M T : Value) (w : World) (hs : s.size ≤ 4000000000) (hk : k < s.size) (h : Scn w b s k ln M T) (code : Int)
    (h0 : s[k] = 92) (E : ∀ n, Calls Tryd.prog 76 #[.pointer (some ⟨b, 0, none⟩), .int .i64 st] (w.drewN n) fun e w' => e = fltE p code ∧ (w.drewN n).grownBy w' (some b)) :
    Calls Tryd.prog 66 #[.pointer (some ⟨b, 0, none⟩), .int .i64 st] w fun e w' =>
      e = fltE p code ∧ w.grownBy w' (some b) := by
  have i1 : (k : Int) < s.size := by omega
  have i2 : (s.size : Int) ≤ 4000000000 := by omega
  have c0 := h.c0
  have c1 := h.c1
  have E1 := Lib.hid E
  clear E
  go_enter Tryd.func66, Tryd.ntmps66
  go_wp2_with fail
  go_quiet (fail)
  go_wp2_with fail
  go_quiet (fail)
  go_wp2_with fail
  refine (E1.out _).mono ?_
  rintro e w' ⟨he, hg⟩
  unfold fltE at he
  subst he
  go_wp2_with fail
  exact ⟨rfl, rfl, (grown_drewN _ _ _).trans hg⟩


set_option maxRecDepth 100000 in
set_option maxHeartbeats 800000 in
theorem symbolic_rune_bad (b : Nat) (s : ByteArray) (k st : Nat) (ln : Bool) (M T : Value) (w : World) (hs : s.size ≤ 4000000000) (hk : k < s.size) (h : Scn w b s k ln M T) (hG : Glob w)
    (c : UInt8) (h0 : s[k] = c) (h10 : c.toNat ≠ 10) (h92 : c.toNat ≠ 92) (hd : Lib.decodeL (s.data.toList.drop k) = (65533, 1)) :
    Calls Tryd.prog 66 #[.pointer (some ⟨b, 0, none⟩), .int .i64 st] w fun e w' =>
      e = fltE st 31 ∧ w.grownBy w' (some b) := by
  have i1 : (k : Int) < s.size := by omega
  have i2 : (s.size : Int) ≤ 4000000000 := by omega
  have i3 : (k : Int) ≤ s.size := by omega
  have c0 := h.c0
  have c1 := h.c1
  have f1 := h.fz 1
  have D1 := Lib.hid (fun W (hT : Lib.Utf8Tabs 2 3 W) => Tryd.decodeRune (s.extract k s.size) W hT)
  rw [decodeGo_drop s k hk, hd] at D1
  have j1 : ((c.toNat : Int) == 10) = false := by simp; omega
  have j2 : ((c.toNat : Int) == 92) = false := by simp; omega
  have HG := Lib.hid hG
  have SL : ∀ W, (Instr.sliceAt 9 (.string s) (some (.int .i64 (k : Int))) none none).run Tryd.prog W = .ok (.string (s.extract k s.size)) W := fun W => by
    rw [run_sliceAt_string W 9 _ _ _ _ Tryd.underlying9, run_slice_string_from_if W 9 s .i64 k Tryd.underlying9, if_pos ⟨by omega, i3⟩]; rfl
  have hbl := h.lt
  have HH := Lib.hid h
  clear hd hG
  go_enter Tryd.func66, Tryd.ntmps66
  go_wp2_with fail
  go_quiet (fail)
  go_wp2_with fail
  go_quiet (fail)
  go_wp2_with fail
  go_region_with (go_at_call 77; refine (D1.out _ (by exact HG.out.u8)).mono ?_; rintro e w' ⟨rfl, hb⟩; have h' : Scn w' b s k ln M T := (hb.block b (by exact hbl)).trans HH.out)
  all_goals
    go_wp2_with fail
    exact ⟨rfl, rfl, (grown_drewN w _ _).trans (grown_of_below hb _)⟩

/-- The character at a place of a literal, and where it ends. -/
def symF (l : List UInt8) (k : Nat) : Option (Nat × Nat) :=
  if l.length ≤ k then none else if byteV l k = 10 then none else if byteV l k = 92 then escF l k
  else if (Lib.decodeL (l.drop k)).1 = 65533 ∧ (Lib.decodeL (l.drop k)).2 = 1 then none else some ((Lib.decodeL (l.drop k)).1, k + (Lib.decodeL (l.drop k)).2)

set_option maxRecDepth 100000 in
set_option maxHeartbeats 400000 in
theorem symbolic_stop (b : Nat) (s : ByteArray) (k st : Nat) (ln : Bool) (M T : Value) (w : World) (_hs : s.size ≤ 3999999980) (h : Scn w b s k ln M T) (hx : s.size ≤ k ∨ byteV s.data.toList k = 10) :
    Calls Tryd.prog 66 #[.pointer (some ⟨b, 0, none⟩), .int .i64 st] w fun e w' => e = fltE st 31 ∧ w.grownBy w' (some b) := by
  have c0 := h.c0
  have c1 := h.c1
  by_cases hk : s.size ≤ k
  · have i1 : (s.size : Int) ≤ k := by omega
    clear hx _hs
    go_enter Tryd.func66, Tryd.ntmps66
    go_wp2_with fail
    go_quiet (fail)
    go_wp2_with fail
    exact ⟨rfl, rfl, grown_drewN _ _ _⟩
  · have hlt : k < s.size := by omega
    have hb : byteV s.data.toList k = 10 := by omega
    rw [byteV_at s k hlt] at hb
    have i1 : (k : Int) < s.size := by omega
    have j1 : ((s[k].toNat : Int) == 10) = true := by simpa using hb
    clear hx _hs hk hb
    go_enter Tryd.func66, Tryd.ntmps66
    go_wp2_with fail
    go_quiet (fail)
    go_wp2_with fail
    exact ⟨rfl, rfl, grown_drewN _ _ _⟩

theorem symbolic_gen (b : Nat) (s : ByteArray) (k st : Nat) (ln : Bool) (M T : Value) (w : World) (hs : s.size ≤ 3999999980) (h : Scn w b s k ln M T) (hG : Glob w) :
    Calls Tryd.prog 66 #[.pointer (some ⟨b, 0, none⟩), .int .i64 st] w fun e w' => CodPost b s st ln M T (symF s.data.toList k) e w' ∧ w.grownBy w' (some b) := by
  unfold symF
  rw [len_list]
  by_cases hk : s.size ≤ k
  · rw [if_pos hk]
    exact symbolic_stop b s k st ln M T w hs h (.inl hk)
  rw [if_neg hk]
  have hlt : k < s.size := by omega
  by_cases h10 : byteV s.data.toList k = 10
  · rw [if_pos h10]
    exact symbolic_stop b s k st ln M T w hs h (.inr h10)
  rw [if_neg h10]
  by_cases h92 : byteV s.data.toList k = 92
  · rw [if_pos h92]
    have h0 : s[k] = 92 := by
      rw [byteV_at s k hlt] at h92
      exact UInt8.toNat_inj.1 (by simpa using (by omega : s[k].toNat = 92))
    have E := fun n => escape_gen b s k st ln M T (w.drewN n) (by omega) (by unfold Small8; omega) (by unfold Small8; omega) (h.drewN n)
    cases hR : escF s.data.toList k with
    | none =>
      rw [hR] at E
      exact symbolic_esc_bad b s k st st ln M T w (by omega) hlt h 31 h0 E
    | some x =>
      rw [hR] at E
      refine (symbolic_esc b s k x.2 st ln M T w (by omega) hlt h x.1 h0 (fun n => (E n).mono fun _ _ ⟨⟨h1, h2⟩, h3⟩ => ⟨h1, h2, h3⟩)).mono ?_
      rintro e w' ⟨h1, h2, h3⟩
      exact ⟨⟨h1, h2⟩, h3⟩
  rw [if_neg h92]
  obtain ⟨c, hc⟩ : ∃ c, s[k] = c := ⟨_, rfl⟩
  have hbc : byteV s.data.toList k = (c.toNat : Int) := by rw [byteV_at s k hlt, hc]
  by_cases hv : (Lib.decodeL (s.data.toList.drop k)).1 = 65533 ∧ (Lib.decodeL (s.data.toList.drop k)).2 = 1
  · rw [if_pos hv]
    exact symbolic_rune_bad b s k st ln M T w (by omega) hlt h hG c hc (by omega) (by omega) (Prod.ext hv.1 hv.2)
  · rw [if_neg hv]
    refine (symbolic_rune b s k st ln M T w (by omega) hlt h hG c hc (by omega) (by omega) _ _ rfl (decodeL_le4 _) hv).mono ?_
    rintro e w' ⟨h1, h2, h3⟩
    exact ⟨⟨h1, h2⟩, h3⟩

set_option maxRecDepth 100000 in
set_option maxHeartbeats 400000 in
theorem symbol_bad (b n : Nat) (s : ByteArray) (k : Nat) (ln : Bool) (M T : Value) (w : World) (hs : s.size ≤ 4000000000) (hk : k ≤ s.size) (h : Scn w b s k ln M T) (hG : Glob w)
    (hB : w.heap[n]? = some (.cells #[.pointer (some ⟨b, 0, none⟩)] 62 (0, 0))) (hne : symOf s.data.toList k = []) :
    Calls Tryd.prog 48 #[.pointer (some ⟨n, 0, none⟩)] w fun e w' => e = fltE k 30 ∧ w.grownBy w' (some b) := by
  have cB : w.cell? ⟨n, 0, none⟩ = some (.pointer (some ⟨b, 0, none⟩)) := by simp [World.cell?, hB]
  have LA := longest_any b s k ln M T w hs hk h hG.sym
  change Calls _ _ _ _ (fun e w' => e = .returned (.string (str (symOf s.data.toList k))) ∧ _) at LA
  rw [hne] at LA
  have LA' := Lib.hid LA
  clear LA
  have hem : ((str []).toList == ([] : List UInt8)) = true := by rw [toList_data, str_list]; rfl
  go_enter Tryd.func48, Tryd.ntmps48
  go_wp2_with (first | (go_at_call 49; refine LA'.out.mono ?_; rintro e w1 ⟨rfl, q, rfl⟩; have hs1 := h.drewN q; have c1 := hs1.c1))
  exact ⟨rfl, rfl, grown_drewN w q _⟩
end Go.Proofs.YtpebdfofnmojcaaDoor
