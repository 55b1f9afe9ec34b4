/- Part 3 of the proof: Stg, Dem, Chr, Den, Dto, Stt, Cha, Tkg, Tks, Scs, Sct, Scu, Loc. -/
import Derived.Test.YtpebdfofnmojcaaDoorB02
import Derived.Lib.IndexMore
import Derived.Lib.TrimUEq
/- Contracts: str over every text that does not begin with three quotes. -/
namespace Go.Proofs.YtpebdfofnmojcaaDoor
open Go.RowKit

theorem byteV_in {l : List UInt8} {k : Nat} (h : byteV l k ≠ 32) : k < l.length := by
  by_cases hk : k < l.length
  · exact hk
  · exact absurd (by unfold byteV; rw [dif_neg hk]) h
theorem digitV_in {l : List UInt8} {k : Nat} (h : ¬ 15 < digitV (byteV l k)) : k < l.length := byteV_in (fun e => by rw [e] at h; exact h (by decide))
theorem codF_le (n : Nat) (l : List UInt8) (k r : Nat) (x : Nat × Nat) (h : codF n l k r = some x) : x.2 = k + n ∧ (n = 0 ∨ x.2 ≤ l.length) := by
  induction n generalizing k r with
  | zero => simp [codF] at h; subst h; simp
  | succ n ih =>
    unfold codF at h
    split at h
    · cases h
    · rename_i hd
      have hk := digitV_in hd
      obtain ⟨h1, h2⟩ := ih _ _ h
      refine ⟨by omega, .inr ?_⟩
      rcases h2 with h2 | h2 <;> omega
theorem codOk_some {most : Nat} {o : Option (Nat × Nat)} {x : Nat × Nat} (h : codOk most o = some x) : o = some x ∧ x.1 ≤ 1114111 := by
  cases o with
  | none => cases h
  | some y =>
    unfold codOk at h
    simp only at h
    split at h
    · cases h
    · rename_i hn
      obtain rfl : y = x := by simpa using h
      refine ⟨rfl, ?_⟩
      have hv : runeV y.1 = true := by
        cases hr : runeV y.1 with
        | true => rfl
        | false => exact absurd (.inr hr) hn
      simp [runeV] at hv
      omega
theorem escF_le (l : List UInt8) (k : Nat) (x : Nat × Nat) (h : escF l k = some x) : x.1 ≤ 1114111 ∧ k < x.2 ∧ x.2 ≤ l.length := by
  unfold escF at h
  have two : ∀ q : Int, q ≠ 32 → byteV l (k + 1) = q → k + 2 ≤ l.length := fun q hq e => by have := byteV_in (l := l) (k := k + 1) (by rw [e]; exact hq); omega
  split at h
  · rename_i e; cases h; exact ⟨by dsimp only; omega, by show k < k + 2; omega, two _ (by decide) e⟩
  split at h
  · rename_i e; cases h; exact ⟨by dsimp only; omega, by show k < k + 2; omega, two _ (by decide) e⟩
  split at h
  · rename_i e; cases h; exact ⟨by dsimp only; omega, by show k < k + 2; omega, two _ (by decide) e⟩
  split at h
  · rename_i e; cases h; exact ⟨by dsimp only; omega, by show k < k + 2; omega, two _ (by decide) e⟩
  split at h
  · rename_i e; cases h; exact ⟨by dsimp only; omega, by show k < k + 2; omega, two _ (by decide) e⟩
  split at h
  · rename_i e; cases h; exact ⟨by dsimp only; omega, by show k < k + 2; omega, two _ (by decide) e⟩
  split at h
  · rename_i e; cases h; exact ⟨by dsimp only; omega, by show k < k + 2; omega, two _ (by decide) e⟩
  split at h
  · obtain ⟨h1, h2⟩ := codOk_some h
    obtain ⟨h3, h4⟩ := codF_le _ _ _ _ _ h1
    exact ⟨h2, by omega, by omega⟩
  split at h
  · obtain ⟨h1, h2⟩ := codOk_some h
    obtain ⟨h3, h4⟩ := codF_le _ _ _ _ _ h1
    exact ⟨h2, by omega, by omega⟩
  split at h
  · obtain ⟨h1, h2⟩ := codOk_some h
    obtain ⟨h3, h4⟩ := codF_le _ _ _ _ _ h1
    exact ⟨h2, by omega, by omega⟩
  · cases h
theorem symF_le (l : List UInt8) (k : Nat) (x : Nat × Nat) (h : symF l k = some x) : x.1 ≤ 1114111 ∧ k < x.2 ∧ x.2 ≤ l.length := by
  unfold symF at h
  split at h
  · cases h
  rename_i hk
  split at h
  · cases h
  split at h
  · exact escF_le l k x h
  split at h
  · cases h
  · cases h
    have h1 := Lib.decodeL_le (l.drop k) (by intro e; have := congrArg List.length e; simp at this; omega)
    have h2 := Lib.decodeL_width (l.drop k)
    have h3 := Lib.decodeL_rune (l.drop k)
    simp only [List.length_drop] at h1
    exact ⟨h3, by show k < k + _; omega, by show k + _ ≤ _; omega⟩

/-- The text of a literal, and where it ends; none within: it is no literal. -/
def strG : Nat → List UInt8 → Nat → List UInt8 → Option (Option (List UInt8 × Nat))
  | 0, _, _, _ => none
  | n + 1, l, p, out =>
    if byteV l p = 34 then some (some (out, p + 1))
    else match symF l p with
      | none => some none
      | some x => strG n l x.2 (out ++ Lib.encodeRune (x.1 : Int))
def StrPost (b : Nat) (s : ByteArray) (k : Nat) (ln : Bool) (M T : Value) : Option (List UInt8 × Nat) → Ending → World → Prop
  | some x, e, w' => e = .returned (.string ⟨x.1.toArray⟩) ∧ Scn w' b s (x.2 : Nat) ln M T
  | none, e, _ => e = fltE k 31
theorem encode_len (r : Int) : (Lib.encodeRune r).length ≤ 4 := by rw [← Lib.runeCells_length]; exact (Lib.runeCells_le r).2

set_option maxRecDepth 100000 in
set_option maxHeartbeats 1000000 in
theorem str_gen (b : Nat) (hb4 : 5 ≤ b) (s : ByteArray) (k : Nat) (ln : Bool) (M T : Value) (w : World) (hs : s.size ≤ 100000000) (hk : k < s.size) (h : Scn w b s k ln M T) (hG : Glob w)
    (hp : hasPre (s.data.toList.drop k) [34, 34, 34] = false) (fuel : Nat) (R : Option (List UInt8 × Nat)) (hF : strG fuel s.data.toList (k + 1) [] = some R) :
    Calls Tryd.prog 52 #[.pointer (some ⟨b, 0, none⟩)] w fun e w' => StrPost b s k ln M T R e w' ∧ w.grownBy w' (some b) := by
  have hbl := h.lt
  have c0 := h.c0
  have c1 := h.c1
  have f1 := h.fz 1
  have i1 : (k : Int) + 1 ≤ s.size := by omega
  have i2 : (s.size : Int) ≤ 100000000 := by omega
  have P1 := Lib.hid (fun W => prefix_at s k ⟨#[34, 34, 34]⟩ W (by omega) (by decide))
  have hp' : hasPre (s.data.toList.drop k) (ByteArray.mk #[34, 34, 34]).data.toList = false := hp
  rw [hp'] at P1
  have B := Lib.hid (fun (j : Nat) W (hj : j ≤ s.size) (h : Scn W b s j ln M T) => byteAt_any b s j ln M T j W (by unfold maxLen; omega) h)
  have hs1 : Scn (w.setCell ⟨b, 1, none⟩ (.int .i64 ((k : Int) + 1))) b s (k + 1 : Nat) ln M T := by simpa using h.set1 ((k : Int) + 1)
  have gs1 := grown_set (w := w) b 1 (.int .i64 ((k : Int) + 1))
  have HF := Lib.hid hF
  have HG := Lib.hid hG
  clear hp hp' hG hF
  go_enter Tryd.func52, Tryd.ntmps52
  go_wp2_with fail
  refine (P1.out _).mono ?_
  rintro e w' ⟨rfl, rfl⟩
  go_wp2_with fail
  go_loopg [6] fuel (fun g tv wr => ∃ (don : List UInt8) (p : Nat), Scn wr b s (p : Nat) ln M T ∧ p ≤ s.size ∧ don.length ≤ 4 * p ∧ Hid (strG g s.data.toList p don = some R) ∧ wr.ownsRow w.heap.size 5 1 tv don.length (u8s don) ∧ w.grownBy wr (some b))
  case atStart => exact ⟨[], k + 1, hs1, by omega, by simp, HF, World.ownsRow_nil _ _ _ _, gs1⟩
  case round =>
    obtain ⟨don, p, hh, hpl, hdl, hSG, ho, hg⟩ := hrel
    have hgs := hg.size
    have c1' := hh.c1
    have f1' := hh.fz 1
    have B1 := B.out p _ hpl hh
    have hS2 := hSG.out
    cases gk with
    | zero => simp [strG] at hS2
    | succ g =>
      unfold strG at hS2
      by_cases hb : byteV s.data.toList p = 34
      · rw [if_pos hb] at hS2
        rw [hb] at B1
        have B1' := Lib.hid B1
        obtain rfl : some (don, p + 1) = R := by simpa using hS2
        have i3 : (p : Int) + 1 ≤ 100000001 := by omega
        have CV : ∀ W', (∀ q, w.heap.size ≤ q → q < wr.heap.size → W'.heap[q]? = wr.heap[q]?) → (convert 46 9 _).run Tryd.prog W' = .ok (.string ⟨don.toArray⟩) W' := fun W' hW => conv_own (l := don) (owns_kept ho fun q h1 h2 => hW q h2 h1)
        have CV' := CV (wr.setCell ⟨b, 1, none⟩ (.int .i64 ((p : Int) + 1))) (fun q h1 h2 => Below.heap_setCell _ _ _ _ (by simp; omega))
        clear B1 ho c0 c1 f1 CV hS2 hSG
        go_wp2_with fail
        refine B1'.out.mono ?_
        rintro e w' ⟨rfl, rfl⟩
        go_wp2_with fail
        go_ret
        exact ⟨⟨rfl, by simpa using hh.set1 ((p : Int) + 1)⟩, hg.trans (grown_set b 1 _)⟩
      · rw [if_neg hb] at hS2
        obtain ⟨q, hq⟩ : ∃ q, byteV s.data.toList p = q := ⟨_, rfl⟩
        rw [hq] at hb B1
        have B1' := Lib.hid B1
        have jb : (q == 34) = false := by simpa using hb
        have CS := symbolic_gen b s p k ln M T wr (by omega) hh (HG.out.grown hg (fun j e => by cases e; omega))
        cases hR : symF s.data.toList p with
        | none =>
          rw [hR] at hS2 CS
          simp only at hS2
          obtain rfl : none = R := by simpa using hS2
          have CS' := Lib.hid CS
          clear B1 ho c0 c1 f1 CS hq hb hS2 hSG hR
          go_wp2_with fail
          refine B1'.out.mono ?_
          rintro e w' ⟨rfl, rfl⟩
          go_wp2_with fail
          refine CS'.out.mono ?_
          rintro e w2 ⟨he, g3⟩
          unfold CodPost fltE at he
          subst he
          go_wp2_with fail
          exact ⟨rfl, rfl, hg.trans g3⟩
        | some x =>
          rw [hR] at hS2 CS
          simp only at hS2
          obtain ⟨x1, x2, x3⟩ := symF_le _ _ _ hR
          rw [len_list] at x3
          have CS' := Lib.hid CS
          have HO := Lib.hid ho
          have HS := Lib.hid hS2
          have X := Lib.hid (And.intro x1 (And.intro x2 x3))
          have hDL := Lib.hid hdl
          have hPL := Lib.hid hpl
          clear B1 ho c0 c1 f1 CS hq hb hS2 hSG hR x1 x2 x3 hdl
          go_wp2_with fail
          refine B1'.out.mono ?_
          rintro e w' ⟨rfl, rfl⟩
          go_wp2_with fail
          refine CS'.out.mono ?_
          rintro e w2 ⟨⟨rfl, h3⟩, g3⟩
          have ho2 := HO.out.kept g3 (by
            cases hv : (Value.ownBlock _) with
            | none => exact .inl rfl
            | some q => exact .inr (fun e => by have := (HO.out.lt q hv).1; cases e; omega))
          have hs3 := g3.size
          have A1 := Lib.hid (appendRune_any w.heap.size _ don.length _ x.1 (Lib.encodeRune (x.1 : Int)).length (Lib.encodeRune (x.1 : Int)) w2 X.out.1 rfl rfl (by have := hDL.out; have := hPL.out; omega) (by omega) ho2)
          have HL := HO.out.lt
          go_wp2_with fail
          refine A1.out.mono ?_
          rintro e w3 ⟨v', rfl, ho3, g4⟩
          go_wp2_with fail
          go_roundg g
          case rel =>
            exact ⟨don ++ Lib.encodeRune (x.1 : Int), x.2, h3.grown g4 (fun e => by have := (HL b e.symm).1; omega), X.out.2.2, by have := encode_len (x.1 : Int); have := hDL.out; have := X.out.2.1; rw [List.length_append]; omega, HS,
              by rw [List.length_append, u8s_append]; exact ho3, grown_own (hg.trans g3) g4 (fun q e => (HL q e).1)⟩
          case measure => omega
end Go.Proofs.YtpebdfofnmojcaaDoor

/- Contract: decimal (the method) over every text. -/
namespace Go.Proofs.YtpebdfofnmojcaaDoor
open Go.RowKit

theorem digF_total : ∀ (n : Nat) (l : List UInt8) (base : Int) (k : Nat) (bw : Bool), base ≤ 16 → k ≤ l.length → l.length < n + k →
    ∃ ds k', digF n l base k bw = some (ds, k') ∧ k' ≤ l.length ∧ ds.length + k ≤ k'
  | 0, l, base, k, bw, hb, hk, hn => by omega
  | n + 1, l, base, k, bw, hb, hk, hn => by
    unfold digF
    by_cases hd : digitV (byteV l k) < base
    · have hl : k < l.length := digitV_in (by omega)
      obtain ⟨ds, k', e, h1, h2⟩ := digF_total n l base (k + 1) true hb (by omega) (by omega)
      rw [if_pos hd, e]
      exact ⟨_, _, rfl, h1, by simp; omega⟩
    · rw [if_neg hd]
      by_cases h95 : byteV l k = 95 ∧ bw = true ∧ digitV (byteV l (k + 1)) < base
      · have hl : k < l.length := byteV_in (by omega)
        obtain ⟨ds, k', e, h1, h2⟩ := digF_total n l base (k + 1) false hb (by omega) (by omega)
        rw [if_pos h95]
        exact ⟨_, _, e, h1, by omega⟩
      · rw [if_neg h95]
        exact ⟨_, _, rfl, hk, by simp⟩

/-- The digits from a place, and where they end. -/
def runD (l : List UInt8) (base : Int) (k : Nat) : List Int × Nat := (digF (l.length + 1) l base k false).getD ([], k)
theorem runD_some (l : List UInt8) (base : Int) (k : Nat) (hb : base ≤ 16) (hk : k ≤ l.length) :
    digF (l.length + 1) l base k false = some ((runD l base k).1, (runD l base k).2) ∧ (runD l base k).2 ≤ l.length ∧ (runD l base k).1.length ≤ l.length := by
  obtain ⟨ds, k', e, h1, h2⟩ := digF_total (l.length + 1) l base k false hb hk (by omega)
  unfold runD
  rw [e]
  exact ⟨rfl, h1, by simp; omega⟩

/-- An exponent behind a text, if there is one. -/
def expF (l t : List UInt8) (k : Nat) : List UInt8 × Bool × Nat :=
  if eB (byteV l k) = true then
    if byteV l (k + 1) = 43 then (t ++ 101 :: 43 :: runL (runD l 10 (k + 2)).1, !(runD l 10 (k + 2)).1.isEmpty, (runD l 10 (k + 2)).2)
    else if byteV l (k + 1) = 45 then (t ++ 101 :: 45 :: runL (runD l 10 (k + 2)).1, !(runD l 10 (k + 2)).1.isEmpty, (runD l 10 (k + 2)).2)
    else (t ++ 101 :: runL (runD l 10 (k + 1)).1, !(runD l 10 (k + 1)).1.isEmpty, (runD l 10 (k + 1)).2)
  else (t, true, k)
/-- What 'decimal' reads. -/
def decF (l : List UInt8) (k : Nat) : Nat × List UInt8 × Bool × Nat :=
  if byteV l (runD l 10 k).2 = 46 ∧ digitB (byteV l ((runD l 10 k).2 + 1)) = true then
    (4, expF l (runL (runD l 10 k).1 ++ 46 :: runL (runD l 10 ((runD l 10 k).2 + 1)).1) (runD l 10 ((runD l 10 k).2 + 1)).2)
  else if eB (byteV l (runD l 10 k).2) = true then (4, expF l (runL (runD l 10 k).1) (runD l 10 k).2)
  else (3, decL 40 (cutW (valD 10 (runD l 10 k).1 0)) [], !(runD l 10 k).1.isEmpty && fitsW (valD 10 (runD l 10 k).1 0), (runD l 10 k).2)

theorem eB_in (l : List UInt8) (k : Nat) (h : eB (byteV l k) = true) : k < l.length := by
  apply byteV_in
  intro e
  rw [e] at h
  revert h
  decide

theorem decimal_gen (b : Nat) (s : ByteArray) (k : Nat) (ln : Bool) (M T : Value) (w : World) (hs : s.size ≤ 100000000) (hk : k ≤ s.size) (h : Scn w b s k ln M T) :
    Calls Tryd.prog 63 #[.pointer (some ⟨b, 0, none⟩)] w fun e w' =>
      e = .returned (.tuple #[.int .i64 (decF s.data.toList k).1, .string ⟨(decF s.data.toList k).2.1.toArray⟩, .bool (decF s.data.toList k).2.2.1]) ∧
      Scn w' b s (decF s.data.toList k).2.2.2 ln M T ∧ (decF s.data.toList k).2.2.2 ≤ s.size ∧ w.grownBy w' (some b) := by
  have hl := len_list s
  have D : ∀ j, j ≤ s.size → _ := fun j hj => runD_some s.data.toList 10 j (by decide) (by rw [hl]; exact hj)
  obtain ⟨d1, d2, d3⟩ := D k hk
  rw [hl] at d2 d3
  unfold decF
  by_cases hp : byteV s.data.toList (runD s.data.toList 10 k).2 = 46 ∧ digitB (byteV s.data.toList ((runD s.data.toList 10 k).2 + 1)) = true
  · rw [if_pos hp]
    have hq : (runD s.data.toList 10 k).2 + 1 ≤ s.size := by
      have := byteV_in (l := s.data.toList) (k := (runD s.data.toList 10 k).2) (by omega)
      omega
    obtain ⟨q1, q2, q3⟩ := D _ hq
    rw [hl] at q2 q3
    unfold expF
    by_cases he : eB (byteV s.data.toList (runD s.data.toList 10 ((runD s.data.toList 10 k).2 + 1)).2) = true
    · rw [if_pos he]
      have hel := eB_in _ _ he
      rw [hl] at hel
      by_cases h43 : byteV s.data.toList ((runD s.data.toList 10 ((runD s.data.toList 10 k).2 + 1)).2 + 1) = 43
      · rw [if_pos h43]
        have h2l := byteV_in (l := s.data.toList) (k := (runD s.data.toList 10 ((runD s.data.toList 10 k).2 + 1)).2 + 1) (by omega)
        rw [hl] at h2l
        obtain ⟨r1, r2, r3⟩ := D ((runD s.data.toList 10 ((runD s.data.toList 10 k).2 + 1)).2 + 2) (by omega)
        exact (decimal_pointSign b s k ln M T w (by omega) hk h _ _ _ d1 (by omega) hp.1 hp.2 _ _ _ hq q1 (by omega) he 43 (.inl rfl) h43 _ _ _ (by omega) r1 (by omega)).mono fun _ _ x => by simpa using x
      · rw [if_neg h43]
        by_cases h45 : byteV s.data.toList ((runD s.data.toList 10 ((runD s.data.toList 10 k).2 + 1)).2 + 1) = 45
        · rw [if_pos h45]
          have h2l := byteV_in (l := s.data.toList) (k := (runD s.data.toList 10 ((runD s.data.toList 10 k).2 + 1)).2 + 1) (by omega)
          rw [hl] at h2l
          obtain ⟨r1, r2, r3⟩ := D ((runD s.data.toList 10 ((runD s.data.toList 10 k).2 + 1)).2 + 2) (by omega)
          exact (decimal_pointSign b s k ln M T w (by omega) hk h _ _ _ d1 (by omega) hp.1 hp.2 _ _ _ hq q1 (by omega) he 45 (.inr rfl) h45 _ _ _ (by omega) r1 (by omega)).mono fun _ _ x => by simpa using x
        · rw [if_neg h45]
          obtain ⟨r1, r2, r3⟩ := D ((runD s.data.toList 10 ((runD s.data.toList 10 k).2 + 1)).2 + 1) (by omega)
          exact (decimal_pointExp b s k ln M T w (by omega) hk h _ _ _ d1 (by omega) hp.1 hp.2 _ _ _ hq q1 (by omega) he h43 h45 _ _ _ (by omega) r1 (by omega)).mono fun _ _ x => by simpa using x
    · rw [if_neg he]
      exact (decimal_point b s k ln M T w (by omega) hk h _ _ _ d1 (by omega) hp.1 hp.2 _ _ _ hq q1 (by omega) (by simpa using he)).mono fun _ _ x => by simpa using x
  · rw [if_neg hp]
    unfold expF
    by_cases he : eB (byteV s.data.toList (runD s.data.toList 10 k).2) = true
    · rw [if_pos he, if_pos he]
      have hel := eB_in _ _ he
      rw [hl] at hel
      by_cases h43 : byteV s.data.toList ((runD s.data.toList 10 k).2 + 1) = 43
      · rw [if_pos h43]
        have h2l := byteV_in (l := s.data.toList) (k := (runD s.data.toList 10 k).2 + 1) (by omega)
        rw [hl] at h2l
        obtain ⟨r1, r2, r3⟩ := D ((runD s.data.toList 10 k).2 + 2) (by omega)
        exact (decimal_sign b s k ln M T w (by omega) hk h _ _ _ d1 (by omega) he 43 (.inl rfl) h43 _ _ _ (by omega) r1 (by omega)).mono fun _ _ x => by simpa using x
      · rw [if_neg h43]
        by_cases h45 : byteV s.data.toList ((runD s.data.toList 10 k).2 + 1) = 45
        · rw [if_pos h45]
          have h2l := byteV_in (l := s.data.toList) (k := (runD s.data.toList 10 k).2 + 1) (by omega)
          rw [hl] at h2l
          obtain ⟨r1, r2, r3⟩ := D ((runD s.data.toList 10 k).2 + 2) (by omega)
          exact (decimal_sign b s k ln M T w (by omega) hk h _ _ _ d1 (by omega) he 45 (.inr rfl) h45 _ _ _ (by omega) r1 (by omega)).mono fun _ _ x => by simpa using x
        · rw [if_neg h45]
          obtain ⟨r1, r2, r3⟩ := D ((runD s.data.toList 10 k).2 + 1) (by omega)
          exact (decimal_exp b s k ln M T w (by omega) hk h _ _ _ d1 (by omega) he h43 h45 _ _ _ (by omega) r1 (by omega)).mono fun _ _ x => by simpa using x
    · rw [if_neg he]
      exact (decimal_none b s k ln M T w (by omega) hk h _ _ _ d1 (by omega) (fun e => by
        cases hd : digitB (byteV s.data.toList ((runD s.data.toList 10 k).2 + 1)) with
        | true => exact absurd ⟨e, hd⟩ hp
        | false => rfl) (by simpa using he)).mono fun _ _ x => x
end Go.Proofs.YtpebdfofnmojcaaDoor

/- Contract: character over every text. -/
namespace Go.Proofs.YtpebdfofnmojcaaDoor
open Go.RowKit

/-- A character between primes: its number and where it ends, or the code of the error. -/
def chrF (l : List UInt8) (k : Nat) : (Nat × Nat) ⊕ Int :=
  if byteV l (k + 1) = 39 then .inr 31
  else match symF l (k + 1) with
    | none => .inr 31
    | some x => if byteV l x.2 ≠ 39 then .inr 31 else if wordB (byteV l (x.2 + 1)) = true then .inr 33 else .inl (x.1, x.2 + 1)
def ChrPost (b : Nat) (s : ByteArray) (k : Nat) (ln : Bool) (M T : Value) : (Nat × Nat) ⊕ Int → Ending → World → Prop
  | .inl x, e, w' => e = .returned (.string ⟨(decL 40 x.1 []).toArray⟩) ∧ Scn w' b s (x.2 : Nat) ln M T
  | .inr code, e, _ => e = fltE k code

set_option maxRecDepth 100000 in
set_option maxHeartbeats 1000000 in
theorem character_gen (b : Nat) (hb4 : 5 ≤ b) (s : ByteArray) (k : Nat) (ln : Bool) (M T : Value) (w : World) (hs : s.size ≤ 100000000) (hk : k < s.size) (h : Scn w b s k ln M T) (hG : Glob w) :
    Calls Tryd.prog 53 #[.pointer (some ⟨b, 0, none⟩)] w fun e w' => ChrPost b s k ln M T (chrF s.data.toList k) e w' ∧ w.grownBy w' (some b) := by
  obtain ⟨R, hR⟩ : ∃ R, chrF s.data.toList k = R := ⟨_, rfl⟩
  rw [hR]
  unfold chrF at hR
  have c1 := h.c1
  have f1 := h.fz 1
  have i1 : (k : Int) + 1 ≤ s.size := by omega
  have i2 : (s.size : Int) ≤ 100000000 := by omega
  have B := Lib.hid (fun (j : Nat) W (hj : j ≤ s.size + 1) (h : Scn W b s j ln M T) (j2 : Nat) (hj2 : j2 ≤ s.size + 1) => byteAt_any b s j ln M T j2 W (by unfold maxLen; omega) h)
  have hs1 : Scn (w.setCell ⟨b, 1, none⟩ (.int .i64 ((k : Int) + 1))) b s (k + 1 : Nat) ln M T := by simpa using h.set1 ((k : Int) + 1)
  have gs1 := grown_set (w := w) b 1 (.int .i64 ((k : Int) + 1))
  have GL : Glob (w.setCell ⟨b, 1, none⟩ (.int .i64 ((k : Int) + 1))) := hG.grown gs1 (fun j e => by cases e; omega)
  have B1 := B.out (k + 1) _ (by omega) hs1 (k + 1) (by omega)
  have CS := symbolic_gen b s (k + 1) k ln M T _ (by omega) hs1 GL
  rw [show ((k + 1 : Nat) : Int) = (k : Int) + 1 from by omega] at B1
  obtain ⟨x, hx⟩ : ∃ x, byteV s.data.toList (k + 1) = x := ⟨_, rfl⟩
  rw [hx] at B1 hR
  have B1' := Lib.hid B1
  clear B1 hG GL hx
  by_cases h39 : x = 39
  · subst h39
    have HR : Hid (.inr 31 = R) := Lib.hid (by simpa using hR)
    clear hR CS
    go_enter Tryd.func53, Tryd.ntmps53
    go_wp2_with fail
    refine B1'.out.mono ?_
    rintro e w' ⟨rfl, rfl⟩
    go_wp2_with fail
    refine ⟨rfl, ?_, gs1⟩
    rw [← HR.out]
    rfl
  rw [if_neg h39] at hR
  have j1 : (x == 39) = false := by simpa using h39
  cases hS : symF s.data.toList (k + 1) with
  | none =>
    rw [hS] at hR CS
    simp only at hR
    subst hR
    have CS' := Lib.hid CS
    clear CS h39
    go_enter Tryd.func53, Tryd.ntmps53
    go_wp2_with fail
    refine B1'.out.mono ?_
    rintro e w' ⟨rfl, rfl⟩
    go_wp2_with fail
    refine CS'.out.mono ?_
    rintro e w2 ⟨he, g3⟩
    unfold CodPost fltE at he
    subst he
    go_wp2_with fail
    exact ⟨rfl, rfl, gs1.trans g3⟩
  | some y =>
    rw [hS] at hR CS
    simp only at hR
    obtain ⟨y1, y2, y3⟩ := symF_le _ _ _ hS
    rw [len_list] at y3
    have CS' := Lib.hid CS
    have Y := Lib.hid (And.intro y1 (And.intro y2 y3))
    obtain ⟨z, hz⟩ : ∃ z, byteV s.data.toList y.2 = z := ⟨_, rfl⟩
    rw [hz] at hR
    have HZ := Lib.hid hz
    have DC := Lib.hid (fun W => decimal_small y.1 W (by have := Y.out.1; omega))
    clear CS h39 hS y1 y2 y3 hz
    by_cases hz39 : z = 39
    · subst hz39
      simp only [ne_eq, not_true_eq_false, if_false] at hR
      obtain ⟨u, hu⟩ : ∃ u, byteV s.data.toList (y.2 + 1) = u := ⟨_, rfl⟩
      rw [hu] at hR
      have HU := Lib.hid hu
      have WD := inWord_any u
      have i3 : (y.2 : Int) + 1 ≤ 100000001 := by have := Y.out.2.2; omega
      have I3 := Lib.hid i3
      clear hu i3
      cases hw : wordB u with
      | true =>
        rw [hw] at hR
        have WD' := Lib.hid (fun W => (by have := WD W; rw [hw] at this; exact this : Calls Tryd.prog 35 #[.int .u8 u] W fun e w' => e = .returned (.bool true) ∧ W = w'))
        simp only [if_true] at hR
        subst hR
        clear WD hw
        go_enter Tryd.func53, Tryd.ntmps53
        go_wp2_with fail
        refine B1'.out.mono ?_
        rintro e w' ⟨rfl, rfl⟩
        go_wp2_with fail
        refine CS'.out.mono ?_
        rintro e w2 ⟨⟨rfl, h3⟩, g3⟩
        have c1' := h3.c1
        have f1' := h3.fz 1
        have B2 := B.out y.2 _ (by have := Y.out.2.2; omega) h3 y.2 (by have := Y.out.2.2; omega)
        rw [HZ.out] at B2
        have B2' := Lib.hid B2
        have h4 : Scn (w2.setCell ⟨b, 1, none⟩ (.int .i64 ((y.2 : Int) + 1))) b s (y.2 + 1 : Nat) ln M T := by simpa using h3.set1 ((y.2 : Int) + 1)
        have B3 := B.out (y.2 + 1) _ (by have := Y.out.2.2; omega) h4 (y.2 + 1) (by have := Y.out.2.2; omega)
        rw [HU.out, show ((y.2 + 1 : Nat) : Int) = (y.2 : Int) + 1 from by omega] at B3
        have B3' := Lib.hid B3
        have i3 := I3.out
        clear B2 B3 c1 f1 h3
        go_wp2_with fail
        refine B2'.out.mono ?_
        rintro e w' ⟨rfl, rfl⟩
        go_wp2_with fail
        refine B3'.out.mono ?_
        rintro e w' ⟨rfl, rfl⟩
        go_wp2_with fail
        refine (WD'.out _).mono ?_
        rintro e w' ⟨rfl, rfl⟩
        go_wp2_with fail
        exact ⟨rfl, rfl, (gs1.trans g3).trans (grown_set b 1 _)⟩
      | false =>
        rw [hw] at hR
        have WD' := Lib.hid (fun W => (by have := WD W; rw [hw] at this; exact this : Calls Tryd.prog 35 #[.int .u8 u] W fun e w' => e = .returned (.bool false) ∧ W = w'))
        simp only [Bool.false_eq_true, if_false] at hR
        subst hR
        clear WD hw
        have jy : (0 : Int) ≤ (y.1 : Int) := by omega
        have jy2 : (y.1 : Int) ≤ 1114111 := by have := Y.out.1; omega
        go_enter Tryd.func53, Tryd.ntmps53
        go_wp2_with fail
        refine B1'.out.mono ?_
        rintro e w' ⟨rfl, rfl⟩
        go_wp2_with fail
        refine CS'.out.mono ?_
        rintro e w2 ⟨⟨rfl, h3⟩, g3⟩
        have c1' := h3.c1
        have f1' := h3.fz 1
        have B2 := B.out y.2 _ (by have := Y.out.2.2; omega) h3 y.2 (by have := Y.out.2.2; omega)
        rw [HZ.out] at B2
        have B2' := Lib.hid B2
        have h4 : Scn (w2.setCell ⟨b, 1, none⟩ (.int .i64 ((y.2 : Int) + 1))) b s (y.2 + 1 : Nat) ln M T := by simpa using h3.set1 ((y.2 : Int) + 1)
        have B3 := B.out (y.2 + 1) _ (by have := Y.out.2.2; omega) h4 (y.2 + 1) (by have := Y.out.2.2; omega)
        rw [HU.out, show ((y.2 + 1 : Nat) : Int) = (y.2 : Int) + 1 from by omega] at B3
        have B3' := Lib.hid B3
        have i3 := I3.out
        have H4 := Lib.hid h4
        clear B2 B3 c1 f1 h3 h4
        go_wp2_with fail
        refine B2'.out.mono ?_
        rintro e w' ⟨rfl, rfl⟩
        go_wp2_with fail
        refine B3'.out.mono ?_
        rintro e w' ⟨rfl, rfl⟩
        go_wp2_with fail
        refine (WD'.out _).mono ?_
        rintro e w' ⟨rfl, rfl⟩
        go_wp2_with fail
        refine (DC.out _).mono ?_
        rintro e w5 ⟨rfl, hb5⟩
        go_wp2_with fail
        go_ret
        exact ⟨⟨rfl, H4.out.grown (grown_of_below hb5 none) (by simp)⟩, ((gs1.trans g3).trans (grown_set b 1 _)).trans (grown_of_below hb5 _)⟩
    · rw [if_pos hz39] at hR
      have jz : (z == 39) = false := by simpa using hz39
      subst hR
      clear hz39
      go_enter Tryd.func53, Tryd.ntmps53
      go_wp2_with fail
      refine B1'.out.mono ?_
      rintro e w' ⟨rfl, rfl⟩
      go_wp2_with fail
      refine CS'.out.mono ?_
      rintro e w2 ⟨⟨rfl, h3⟩, g3⟩
      have c1' := h3.c1
      have B2 := B.out y.2 _ (by have := Y.out.2.2; omega) h3 y.2 (by have := Y.out.2.2; omega)
      rw [HZ.out] at B2
      have B2' := Lib.hid B2
      clear B2 c1 f1 h3
      go_wp2_with fail
      refine B2'.out.mono ?_
      rintro e w' ⟨rfl, rfl⟩
      go_wp2_with fail
      exact ⟨rfl, rfl, gs1.trans g3⟩
end Go.Proofs.YtpebdfofnmojcaaDoor

/- Contract: number over every text. -/
namespace Go.Proofs.YtpebdfofnmojcaaDoor
open Go.RowKit

theorem hasPre_two (l : List UInt8) (k : Nat) (a c : UInt8) (h : hasPre (l.drop k) [a, c] = true) : k + 2 ≤ l.length := by
  unfold hasPre at h
  have := List.IsPrefix.length_le (List.isPrefixOf_iff_prefix.1 h)
  simp at this
  omega

/-- An integer of a base: what 'integer' gives. -/
def intF (l : List UInt8) (base : Nat) (k : Nat) : Nat × List UInt8 × Bool × Nat :=
  (3, decL 40 (cutW (valD base (runD l base k).1 0)) [], !(runD l base k).1.isEmpty && fitsW (valD base (runD l base k).1 0), (runD l base k).2)
theorem integer_gen (b : Nat) (s : ByteArray) (k base : Nat) (hb0 : 1 ≤ base) (hb : base ≤ 16) (ln : Bool) (M T : Value) (w : World) (hs : s.size ≤ 100000000) (hk : k ≤ s.size) (h : Scn w b s k ln M T) :
    Calls Tryd.prog 62 #[.pointer (some ⟨b, 0, none⟩), .int .i64 base] w fun e w' =>
      e = .returned (.tuple #[.string ⟨(intF s.data.toList base k).2.1.toArray⟩, .bool (intF s.data.toList base k).2.2.1]) ∧
      Scn w' b s (intF s.data.toList base k).2.2.2 ln M T ∧ (intF s.data.toList base k).2.2.2 ≤ s.size ∧ w.grownBy w' (some b) := by
  have hl := len_list s
  obtain ⟨d1, d2, d3⟩ := runD_some s.data.toList base k (by omega) (by omega)
  exact integer_any b s k base hb0 hb ln M T w (by omega) hk h _ _ _ d1

/-- What 'number' reads, before it looks whether it ended well. -/
def rawF (l : List UInt8) (k : Nat) : Nat × List UInt8 × Bool × Nat :=
  if hasPre (l.drop k) [48, 120] = true then intF l 16 (k + 2) else if hasPre (l.drop k) [48, 98] = true then intF l 2 (k + 2) else decF l k
def numF (l : List UInt8) (k : Nat) : Option (Nat × List UInt8 × Nat) :=
  if (rawF l k).2.2.1 = true ∧ wordB (byteV l (rawF l k).2.2.2) = false then some ((rawF l k).1, (rawF l k).2.1, (rawF l k).2.2.2) else none
def NumPost (b : Nat) (s : ByteArray) (k : Nat) (ln : Bool) (M T : Value) : Option (Nat × List UInt8 × Nat) → Ending → World → Prop
  | some x, e, w' => e = .returned (.tuple #[.int .i64 x.1, .string ⟨x.2.1.toArray⟩]) ∧ Scn w' b s x.2.2 ln M T
  | none, e, _ => e = fltE k 33

set_option maxRecDepth 100000 in
set_option maxHeartbeats 1000000 in
theorem number_gen (b : Nat) (s : ByteArray) (k : Nat) (ln : Bool) (M T : Value) (w : World) (hs : s.size ≤ 100000000) (hk : k ≤ s.size) (h : Scn w b s k ln M T) :
    Calls Tryd.prog 51 #[.pointer (some ⟨b, 0, none⟩)] w fun e w' => NumPost b s k ln M T (numF s.data.toList k) e w' ∧ w.grownBy w' (some b) := by
  obtain ⟨R, hR⟩ : ∃ R, numF s.data.toList k = R := ⟨_, rfl⟩
  rw [hR]
  unfold numF rawF at hR
  have c0 := h.c0
  have c1 := h.c1
  have f1 := h.fz 1
  have hl := len_list s
  have i2 : (s.size : Int) ≤ 100000000 := by omega
  have B := Lib.hid (fun (j : Nat) W (hj : j ≤ s.size + 1) (h : Scn W b s j ln M T) => byteAt_any b s j ln M T j W (by unfold maxLen; omega) h)
  have WD := Lib.hid (fun u W => inWord_any u W)
  have i0 : (k : Int) ≤ s.size := by omega
  have P1 := Lib.hid (fun W => prefix_at s k ⟨#[48, 120]⟩ W (by omega) (by decide))
  have P2 := Lib.hid (fun W => prefix_at s k ⟨#[48, 98]⟩ W (by omega) (by decide))
  rw [show (ByteArray.mk #[48, 120]).data.toList = [48, 120] from rfl] at P1
  rw [show (ByteArray.mk #[48, 98]).data.toList = [48, 98] from rfl] at P2
  by_cases hp : hasPre (s.data.toList.drop k) [48, 120] = true
  · rw [if_pos hp] at hR
    rw [hp] at P1
    have hk2 : k + 2 ≤ s.size := by rw [← hl]; exact hasPre_two _ _ _ _ hp
    have i1 : (k : Int) + 2 ≤ s.size := by omega
    have hs1 := h.set1 ((k : Int) + 2)
    have gs1 := grown_set (w := w) b 1 (.int .i64 ((k : Int) + 2))
    have I1 := integer_gen b s (k + 2) 16 (by omega) (by omega) ln M T (w.setCell ⟨b, 1, none⟩ (.int .i64 ((k : Int) + 2))) hs hk2 (by simpa using hs1)
    clear hs1
    obtain ⟨z, hz⟩ : ∃ z, intF s.data.toList 16 (k + 2) = z := ⟨_, rfl⟩
    rw [hz] at hR I1
    obtain ⟨kd, tx, ok, k2⟩ := z
    simp only at hR I1
    obtain ⟨I2⟩ : Nonempty (Hid _) := ⟨Lib.hid I1⟩
    obtain rfl : 3 = kd := congrArg Prod.fst hz
    clear I1 hz
    cases ok with
    | false =>
      simp only [Bool.false_eq_true, false_and, if_false] at hR
      subst hR
      go_enter Tryd.func51, Tryd.ntmps51
      go_wp2_with fail
      refine (P1.out _).mono ?_
      rintro e w' ⟨rfl, rfl⟩
      go_wp2_with fail
      refine I2.out.mono ?_
      rintro e w' ⟨rfl, h2, hk2, g2⟩
      go_wp2_with fail
      exact ⟨rfl, rfl, gs1.trans g2⟩
    | true =>
      obtain ⟨u, hu⟩ : ∃ u, byteV s.data.toList k2 = u := ⟨_, rfl⟩
      rw [hu] at hR
      cases hw : wordB u with
      | true =>
        rw [hw] at hR
        simp only [Bool.true_eq_false, and_false, if_false] at hR
        subst hR
        go_enter Tryd.func51, Tryd.ntmps51
        go_wp2_with fail
        refine (P1.out _).mono ?_
        rintro e w' ⟨rfl, rfl⟩
        go_wp2_with fail
        refine I2.out.mono ?_
        rintro e w' ⟨rfl, h2, hk2, g2⟩
        have B1 := Lib.hid (B.out k2 w' (by omega) h2)
        rw [hu] at B1
        have W1 := Lib.hid (WD.out u w')
        rw [hw] at W1
        have c12 := h2.c1
        go_wp2_with fail
        refine B1.out.mono ?_
        rintro e w' ⟨rfl, rfl⟩
        go_wp2_with fail
        refine W1.out.mono ?_
        rintro e w' ⟨rfl, rfl⟩
        go_wp2_with fail
        exact ⟨rfl, rfl, gs1.trans g2⟩
      | false =>
        rw [hw] at hR
        simp only [and_self, if_true] at hR
        subst hR
        go_enter Tryd.func51, Tryd.ntmps51
        go_wp2_with fail
        refine (P1.out _).mono ?_
        rintro e w' ⟨rfl, rfl⟩
        go_wp2_with fail
        refine I2.out.mono ?_
        rintro e w' ⟨rfl, h2, hk2, g2⟩
        have B1 := Lib.hid (B.out k2 w' (by omega) h2)
        rw [hu] at B1
        have W1 := Lib.hid (WD.out u w')
        rw [hw] at W1
        have c12 := h2.c1
        go_wp2_with fail
        refine B1.out.mono ?_
        rintro e w' ⟨rfl, rfl⟩
        go_wp2_with fail
        refine W1.out.mono ?_
        rintro e w' ⟨rfl, rfl⟩
        go_wp2_with fail
        go_ret2
        exact ⟨⟨rfl, h2⟩, gs1.trans g2⟩
  rw [if_neg hp] at hR
  rw [Bool.not_eq_true] at hp
  rw [hp] at P1
  by_cases hq : hasPre (s.data.toList.drop k) [48, 98] = true
  · rw [if_pos hq] at hR
    rw [hq] at P2
    have hk2 : k + 2 ≤ s.size := by rw [← hl]; exact hasPre_two _ _ _ _ hq
    have i1 : (k : Int) + 2 ≤ s.size := by omega
    have hs1 := h.set1 ((k : Int) + 2)
    have gs1 := grown_set (w := w) b 1 (.int .i64 ((k : Int) + 2))
    have I1 := integer_gen b s (k + 2) 2 (by omega) (by omega) ln M T (w.setCell ⟨b, 1, none⟩ (.int .i64 ((k : Int) + 2))) hs hk2 (by simpa using hs1)
    clear hs1
    obtain ⟨z, hz⟩ : ∃ z, intF s.data.toList 2 (k + 2) = z := ⟨_, rfl⟩
    rw [hz] at hR I1
    obtain ⟨kd, tx, ok, k2⟩ := z
    simp only at hR I1
    obtain ⟨I2⟩ : Nonempty (Hid _) := ⟨Lib.hid I1⟩
    obtain rfl : 3 = kd := congrArg Prod.fst hz
    clear I1 hz
    cases ok with
    | false =>
      simp only [Bool.false_eq_true, false_and, if_false] at hR
      subst hR
      go_enter Tryd.func51, Tryd.ntmps51
      go_wp2_with fail
      refine (P1.out _).mono ?_
      rintro e w' ⟨rfl, rfl⟩
      go_wp2_with fail
      refine (P2.out _).mono ?_
      rintro e w' ⟨rfl, rfl⟩
      go_wp2_with fail
      refine I2.out.mono ?_
      rintro e w' ⟨rfl, h2, hk2, g2⟩
      go_wp2_with fail
      exact ⟨rfl, rfl, gs1.trans g2⟩
    | true =>
      obtain ⟨u, hu⟩ : ∃ u, byteV s.data.toList k2 = u := ⟨_, rfl⟩
      rw [hu] at hR
      cases hw : wordB u with
      | true =>
        rw [hw] at hR
        simp only [Bool.true_eq_false, and_false, if_false] at hR
        subst hR
        go_enter Tryd.func51, Tryd.ntmps51
        go_wp2_with fail
        refine (P1.out _).mono ?_
        rintro e w' ⟨rfl, rfl⟩
        go_wp2_with fail
        refine (P2.out _).mono ?_
        rintro e w' ⟨rfl, rfl⟩
        go_wp2_with fail
        refine I2.out.mono ?_
        rintro e w' ⟨rfl, h2, hk2, g2⟩
        have B1 := Lib.hid (B.out k2 w' (by omega) h2)
        rw [hu] at B1
        have W1 := Lib.hid (WD.out u w')
        rw [hw] at W1
        have c12 := h2.c1
        go_wp2_with fail
        refine B1.out.mono ?_
        rintro e w' ⟨rfl, rfl⟩
        go_wp2_with fail
        refine W1.out.mono ?_
        rintro e w' ⟨rfl, rfl⟩
        go_wp2_with fail
        exact ⟨rfl, rfl, gs1.trans g2⟩
      | false =>
        rw [hw] at hR
        simp only [and_self, if_true] at hR
        subst hR
        go_enter Tryd.func51, Tryd.ntmps51
        go_wp2_with fail
        refine (P1.out _).mono ?_
        rintro e w' ⟨rfl, rfl⟩
        go_wp2_with fail
        refine (P2.out _).mono ?_
        rintro e w' ⟨rfl, rfl⟩
        go_wp2_with fail
        refine I2.out.mono ?_
        rintro e w' ⟨rfl, h2, hk2, g2⟩
        have B1 := Lib.hid (B.out k2 w' (by omega) h2)
        rw [hu] at B1
        have W1 := Lib.hid (WD.out u w')
        rw [hw] at W1
        have c12 := h2.c1
        go_wp2_with fail
        refine B1.out.mono ?_
        rintro e w' ⟨rfl, rfl⟩
        go_wp2_with fail
        refine W1.out.mono ?_
        rintro e w' ⟨rfl, rfl⟩
        go_wp2_with fail
        go_ret2
        exact ⟨⟨rfl, h2⟩, gs1.trans g2⟩
  rw [if_neg hq] at hR
  rw [Bool.not_eq_true] at hq
  rw [hq] at P2
  have I1 := decimal_gen b s k ln M T w hs hk h
  obtain ⟨z, hz⟩ : ∃ z, decF s.data.toList k = z := ⟨_, rfl⟩
  rw [hz] at hR I1
  obtain ⟨kd, tx, ok, k2⟩ := z
  simp only at hR I1
  obtain ⟨I2⟩ : Nonempty (Hid _) := ⟨Lib.hid I1⟩
  clear I1 hz
  cases ok with
  | false =>
    simp only [Bool.false_eq_true, false_and, if_false] at hR
    subst hR
    go_enter Tryd.func51, Tryd.ntmps51
    go_wp2_with fail
    refine (P1.out _).mono ?_
    rintro e w' ⟨rfl, rfl⟩
    go_wp2_with fail
    refine (P2.out _).mono ?_
    rintro e w' ⟨rfl, rfl⟩
    go_wp2_with fail
    refine I2.out.mono ?_
    rintro e w' ⟨rfl, h2, hk2, g2⟩
    go_wp2_with fail
    exact ⟨rfl, rfl, g2⟩
  | true =>
    obtain ⟨u, hu⟩ : ∃ u, byteV s.data.toList k2 = u := ⟨_, rfl⟩
    rw [hu] at hR
    cases hw : wordB u with
    | true =>
      rw [hw] at hR
      simp only [Bool.true_eq_false, and_false, if_false] at hR
      subst hR
      go_enter Tryd.func51, Tryd.ntmps51
      go_wp2_with fail
      refine (P1.out _).mono ?_
      rintro e w' ⟨rfl, rfl⟩
      go_wp2_with fail
      refine (P2.out _).mono ?_
      rintro e w' ⟨rfl, rfl⟩
      go_wp2_with fail
      refine I2.out.mono ?_
      rintro e w' ⟨rfl, h2, hk2, g2⟩
      have B1 := Lib.hid (B.out k2 w' (by omega) h2)
      rw [hu] at B1
      have W1 := Lib.hid (WD.out u w')
      rw [hw] at W1
      have c12 := h2.c1
      go_wp2_with fail
      refine B1.out.mono ?_
      rintro e w' ⟨rfl, rfl⟩
      go_wp2_with fail
      refine W1.out.mono ?_
      rintro e w' ⟨rfl, rfl⟩
      go_wp2_with fail
      exact ⟨rfl, rfl, g2⟩
    | false =>
      rw [hw] at hR
      simp only [and_self, if_true] at hR
      subst hR
      go_enter Tryd.func51, Tryd.ntmps51
      go_wp2_with fail
      refine (P1.out _).mono ?_
      rintro e w' ⟨rfl, rfl⟩
      go_wp2_with fail
      refine (P2.out _).mono ?_
      rintro e w' ⟨rfl, rfl⟩
      go_wp2_with fail
      refine I2.out.mono ?_
      rintro e w' ⟨rfl, h2, hk2, g2⟩
      have B1 := Lib.hid (B.out k2 w' (by omega) h2)
      rw [hu] at B1
      have W1 := Lib.hid (WD.out u w')
      rw [hw] at W1
      have c12 := h2.c1
      go_wp2_with fail
      refine B1.out.mono ?_
      rintro e w' ⟨rfl, rfl⟩
      go_wp2_with fail
      refine W1.out.mono ?_
      rintro e w' ⟨rfl, rfl⟩
      go_wp2_with fail
      go_ret2
      exact ⟨⟨rfl, h2⟩, g2⟩
end Go.Proofs.YtpebdfofnmojcaaDoor

/- The walks of blanks and strings end with fuel enough. -/
namespace Go.Proofs.YtpebdfofnmojcaaDoor
open Go.RowKit

theorem indexByte_ge (l : List UInt8) (c : UInt8) : -1 ≤ Lib.indexByte l c := by
  induction l with
  | nil => simp [Lib.indexByte]
  | cons b l ih =>
    unfold Lib.indexByte
    split
    · omega
    · split <;> omega
theorem lineLen_pos (l : List UInt8) (h : hasPre l [47, 47] = true) : 1 ≤ lineLen l := by
  unfold hasPre at h
  obtain ⟨t, rfl⟩ := List.isPrefixOf_iff_prefix.1 h
  unfold lineLen
  have e : Lib.indexByte ([47, 47] ++ t) 10 = if Lib.indexByte ([47] ++ t) 10 == -1 then -1 else Lib.indexByte ([47] ++ t) 10 + 1 := rfl
  have g := indexByte_ge ([47] ++ t) 10
  split
  · rename_i h0
    rw [e] at h0 ⊢
    split
    · rename_i h1
      rw [if_pos h1] at h0
      omega
    · rename_i h1
      have : Lib.indexByte ([47] ++ t) 10 ≠ -1 := by simpa using h1
      omega
  · simp
theorem blkF_ge (n : Nat) (r : List UInt8) (d a e : Nat) (h : blkF n r d a = some e) : a ≤ e := by
  induction n generalizing d a with
  | zero => simp [blkF] at h
  | succ n ih =>
    unfold blkF at h
    split at h
    · simp at h; omega
    · split at h
      · cases h
      · split at h
        · have := ih _ _ h; omega
        · split at h
          · have := ih _ _ h; omega
          · have := ih _ _ h; omega
theorem blG_total : ∀ (n : Nat) (l : List UInt8) (k : Nat) (ln : Bool), l.length < n + k → ∃ R, blG n l k ln = some R ∨ (n = 0 ∧ l.length < k)
  | 0, l, k, ln, h => ⟨.inr 0, .inr ⟨rfl, by omega⟩⟩
  | n + 1, l, k, ln, h => by
    by_cases hk : l.length ≤ k
    · exact ⟨.inl (k, ln), .inl (by unfold blG; rw [if_pos hk])⟩
    have next : ∀ k' ln', k < k' → ∃ R, blG n l k' ln' = some R ∨ (n + 1 = 0 ∧ l.length < k) := by
      intro k' ln' hk'
      cases n with
      | zero => omega
      | succ m =>
        obtain ⟨R, hR⟩ := blG_total (m + 1) l k' ln' (by omega)
        rcases hR with hR | ⟨h0, -⟩
        · exact ⟨R, .inl hR⟩
        · omega
    unfold blG
    rw [if_neg hk]
    split
    · exact next _ _ (by omega)
    split
    · exact next _ _ (by omega)
    split
    · rename_i hp
      have := lineLen_pos _ hp
      split
      · exact next _ _ (by omega)
      · exact ⟨_, .inl rfl⟩
    split
    · split
      · rename_i a ha
        refine next _ _ ?_
        unfold BlkOk at ha
        split at ha
        · rename_i e he
          have := blkF_ge _ _ _ _ _ he
          split at ha
          · simp at ha; omega
          · cases ha
        · cases ha
      · exact ⟨_, .inl rfl⟩
    · exact ⟨_, .inl rfl⟩
theorem blG_ends (l : List UInt8) (k : Nat) (ln : Bool) (_hk : k ≤ l.length) : ∃ R, blG (l.length + 1) l k ln = some R := by
  obtain ⟨R, h | ⟨h, -⟩⟩ := blG_total (l.length + 1) l k ln (by omega)
  · exact ⟨R, h⟩
  · omega
theorem strG_total : ∀ (n : Nat) (l : List UInt8) (p : Nat) (out : List UInt8), p ≤ l.length → l.length < n + p → ∃ R, strG n l p out = some R
  | 0, l, p, out, hp, h => by omega
  | n + 1, l, p, out, hp, h => by
    unfold strG
    split
    · exact ⟨_, rfl⟩
    · split
      · exact ⟨_, rfl⟩
      · rename_i x hx
        obtain ⟨-, h1, h2⟩ := symF_le _ _ _ hx
        exact strG_total n l x.2 _ h2 (by omega)
end Go.Proofs.YtpebdfofnmojcaaDoor

/- Contract: str over every text that begins with three quotes. -/
namespace Go.Proofs.YtpebdfofnmojcaaDoor
open Go.RowKit

/-- A string between three quotes: its text, and where it ends. -/
def tripF (l : List UInt8) (k : Nat) : Option (List UInt8 × Nat) :=
  if Lib.index (l.drop (k + 3)) [34, 34, 34] < 0 then none
  else if Lib.validD ((l.drop (k + 3)).take (Lib.index (l.drop (k + 3)) [34, 34, 34]).toNat) = false then none
  else some ((l.drop (k + 3)).take (Lib.index (l.drop (k + 3)) [34, 34, 34]).toNat, k + (Lib.index (l.drop (k + 3)) [34, 34, 34]).toNat + 6)

theorem index3 (r : ByteArray) (w : World) (hr : r.size ≤ 4000000000) (hG : Glob w) :
    Calls Tryd.prog 32 #[.string r, .string ⟨#[34, 34, 34]⟩] w fun e w' => e = .returned (.int .i64 (Lib.index r.data.toList [34, 34, 34])) ∧ w = w' := by
  obtain ⟨m, hm⟩ := hG.mx
  exact (Any.strings_Index Tryd.lays143 r ⟨#[34, 34, 34]⟩ m w (by omega) hm).mono fun _ _ ⟨h1, h2⟩ => ⟨h1, h2.symm⟩
theorem pre_three (l : List UInt8) (k : Nat) (t : List UInt8) (ht : t.length = 3) (h : hasPre (l.drop k) t = true) : k + 3 ≤ l.length := by
  have := List.IsPrefix.length_le (List.isPrefixOf_iff_prefix.1 h)
  simp at this
  omega
theorem index_in (l t : List UInt8) (i : Nat) (ht : t.length = 3) (h : Lib.index l t = i) : i + 3 ≤ l.length := by
  rcases Lib.index_spec l t with ⟨h1, -⟩ | ⟨j, h1, h2, h3, -⟩
  · omega
  · obtain rfl : j = i := by omega
    unfold Lib.occAt at h3
    have := List.IsPrefix.length_le (List.isPrefixOf_iff_prefix.1 h3)
    simp at this
    omega

set_option maxRecDepth 100000 in
set_option maxHeartbeats 1000000 in
theorem str_trip (b : Nat) (_hb4 : 5 ≤ b) (s : ByteArray) (k : Nat) (ln : Bool) (M T : Value) (w : World) (hs : s.size ≤ 100000000) (_hk : k < s.size) (h : Scn w b s k ln M T) (hG : Glob w)
    (hp : hasPre (s.data.toList.drop k) [34, 34, 34] = true) :
    Calls Tryd.prog 52 #[.pointer (some ⟨b, 0, none⟩)] w fun e w' => StrPost b s k ln M T (tripF s.data.toList k) e w' ∧ w.grownBy w' (some b) := by
  have hbl := h.lt
  have c0 := h.c0
  have c1 := h.c1
  have f1 := h.fz 1
  have h3 := pre_three _ _ _ rfl hp
  rw [len_list] at h3
  have P1 := (fun W => prefix_at s k ⟨#[34, 34, 34]⟩ W (by omega) (by decide))
  have hp' : hasPre (s.data.toList.drop k) (ByteArray.mk #[34, 34, 34]).data.toList = true := hp
  rw [hp'] at P1
  obtain ⟨r, hr⟩ : ∃ r, s.extract k s.size = r := ⟨_, rfl⟩
  have r1 : r.size = s.size - k := by rw [← hr, rest_size]
  have r2 : r.data.toList = s.data.toList.drop k := by rw [← hr, rest_list]
  have q1 : (r.extract 3 r.size).size = s.size - k - 3 := by rw [rest_size, r1]
  have q2 : (r.extract 3 r.size).data.toList = s.data.toList.drop (k + 3) := by rw [rest_list, r2, List.drop_drop]
  have X := index3 (r.extract 3 r.size) w (by omega) hG
  rw [q2] at X
  have i1 : (k : Int) ≤ s.size := by omega
  have i2 : (s.size : Int) ≤ 100000000 := by omega
  have i3 : (3 : Int) ≤ r.size := by omega
  have i4 : (r.size : Int) ≤ 100000000 := by omega
  have hG' := Lib.hid hG
  have hh := Lib.hid h
  rw [hr] at P1
  replace P1 := Lib.hid P1
  clear hp hp' hG
  have hI := Lib.index_spec (s.data.toList.drop (k + 3)) [34, 34, 34]
  rcases hI with ⟨g, -⟩ | ⟨i, g, -⟩
  · have F : tripF s.data.toList k = none := by unfold tripF; rw [if_pos (by rw [g]; decide)]
    rw [F]
    rw [g] at X
    have X' := Lib.hid X
    clear X r1 r2 q1 q2
    go_enter Tryd.func52, Tryd.ntmps52
    go_wp2_with fail
    refine (P1.out _).mono ?_
    rintro e w' ⟨rfl, rfl⟩
    go_wp2_with (go_at_call 32; refine X'.out.mono ?_; rintro e w' ⟨rfl, rfl⟩)
    exact ⟨rfl, rfl, World.grownBy.refl _ _⟩
  · have gi := index_in _ _ _ rfl g
    simp only [List.length_drop, len_list] at gi
    rw [g] at X
    have X' := Lib.hid X
    have j1 : (i : Int) + 3 ≤ r.size := by omega
    have j2 : (0 : Int) ≤ i := by omega
    have e1 : (r.extract 3 (3 + i)).data.toList = (s.data.toList.drop (k + 3)).take i := by
      rw [extract_list, r2, List.drop_drop]
      congr 1
      omega
    have e2 : (r.extract 3 (3 + i)).size = i := by rw [← len_list, e1]; simp; omega
    have V := Tryd.utf8_ValidString (r.extract 3 (3 + i)) w (by omega) hG'.out.u8
    rw [e1] at V
    cases hv : Lib.validD ((s.data.toList.drop (k + 3)).take i) with
    | false =>
      have F : tripF s.data.toList k = none := by
        unfold tripF; rw [if_neg (by rw [g]; omega), if_pos (by rw [g]; simpa using hv)]
      rw [F]
      rw [hv] at V
      have V' := Lib.hid V
      clear X V hv r1 r2 q1 q2 e1 e2
      go_enter Tryd.func52, Tryd.ntmps52
      go_wp2_with fail
      refine (P1.out _).mono ?_
      rintro e w' ⟨rfl, rfl⟩
      go_wp2_with (first | (go_at_call 32; refine X'.out.mono ?_; rintro e w' ⟨rfl, rfl⟩) | (go_at_call 22; refine V'.out.mono ?_; rintro e w1 ⟨rfl, hb1⟩; have g1 := grown_of_below hb1 (some b)))
      exact ⟨rfl, rfl, g1⟩
    | true =>
      have F : tripF s.data.toList k = some ((s.data.toList.drop (k + 3)).take i, k + i + 6) := by
        unfold tripF; rw [if_neg (by rw [g]; omega), if_neg (by rw [g]; simp [hv]), g]; simp
      rw [F]
      rw [hv] at V
      have V' := Lib.hid V
      have E := Lib.hid e1
      clear X V hv c0 c1 f1 r1 r2 q1 q2 e1 e2
      have c0 := hh.out.c0
      have c1 := hh.out.c1
      go_enter Tryd.func52, Tryd.ntmps52
      go_wp2_with fail
      refine (P1.out _).mono ?_
      rintro e w' ⟨rfl, rfl⟩
      go_wp2_with (first | (go_at_call 32; refine X'.out.mono ?_; rintro e w' ⟨rfl, rfl⟩) | (go_at_call 22; refine V'.out.mono ?_; rintro e w1 ⟨rfl, hb1⟩; have g1 := grown_of_below hb1 (some b); have hs1 := hh.out.grown (grown_of_below hb1 none) (by simp); have c1 := hs1.c1; have f1 := hs1.fz 1))
      go_ret
      refine ⟨⟨?_, ?_⟩, ?_⟩
      · show Ending.returned (.string (r.extract 3 (3 + i))) = Ending.returned (.string ⟨((s.data.toList.drop (k + 3)).take i).toArray⟩)
        rw [← E.out]
      · have := hs1.set1 ((k : Int) + ((i : Int) + 6))
        have e : ((k + i + 6 : Nat) : Int) = (k : Int) + ((i : Int) + 6) := by omega
        show Scn _ b s ((k + i + 6 : Nat) : Int) ln M T
        rw [e]
        exact this
      · exact g1.trans (grown_set b 1 _)
end Go.Proofs.YtpebdfofnmojcaaDoor

/- The tokens of awake's two texts are read one behind the other. -/
namespace Go.Proofs.YtpebdfofnmojcaaDoor
open Go.RowKit Go.Maps Go.WideMaps

def runF : Nat → (Int → Bool) → List UInt8 → Nat → Option Nat
  | 0, _, _, _ => none
  | n + 1, p, l, k => match l[k]? with
    | none => some k
    | some c => if p (c.toNat : Int) = true then runF n p l (k + 1) else some k
theorem runF_sound {n : Nat} {p : Int → Bool} {l : List UInt8} {k r : Nat} (h : runF n p l k = some r) : runEnd p l k = r := by
  induction n generalizing k with
  | zero => simp [runF] at h
  | succ n ih =>
    unfold runF at h
    by_cases hk : k < l.length
    · rw [List.getElem?_eq_getElem hk] at h
      simp only at h
      by_cases hp : p (l[k].toNat : Int) = true
      · rw [if_pos hp] at h; rw [runEnd_go hk hp]; exact ih h
      · rw [if_neg hp] at h; rw [runEnd_stop hk (by simpa using hp)]; simpa using h
    · rw [List.getElem?_eq_none (by omega)] at h
      rw [runEnd_end (by omega)]; simpa using h
theorem wordEnd_of {n : Nat} {l : List UInt8} {k r r2 : Nat} (h : runF n wordB l k = some r) (h2 : runF n primeB l r = some r2) : wordEnd l k = r2 := by
  unfold wordEnd; rw [runF_sound h, runF_sound h2]

section
variable {s : ByteArray} {k : Nat}
theorem byte_c (hk : k < s.size) {c : UInt8} (hc : ∀ h : k < s.size, s[k]'h = c) : byteV s.data.toList k = (c.toNat : Int) := by
  rw [byteV_at s k hk, hc hk]

theorem reads_word (hs : s.size ≤ 20000) (hk : k < s.size) (hd : digitB (byteV s.data.toList k) = false) (hw : wordB (byteV s.data.toList k) = true) {k2 : Nat} (h2 : wordEnd s.data.toList k = k2)
    {kind : Int} (hkd : kwKind ((s.data.toList.drop k).take (k2 - k)) = kind) {text : ByteArray} (ht : s.extract k k2 = text) : Reads s k k2 kind text := by
  intro W b m T c hb hm hc hM
  rw [byte_c hk hc] at hd hw
  refine read_word (Q := fun w' => Scn w' b s k2 false (.map (some m)) T ∧ W.grownBy w' (some b)) hM.box c.toNat kind text hd hw ?_
  subst h2 hkd ht
  exact word_any b (b + 1) s k false m T W (by omega) (by omega) (by omega) (by omega) hM.scn hM.box.s hM.map

theorem reads_symbol (hs : s.size ≤ 20000) (hk : k < s.size) (hd : digitB (byteV s.data.toList k) = false) (hw : wordB (byteV s.data.toList k) = false) (h34 : byteV s.data.toList k ≠ 34) (h39 : byteV s.data.toList k ≠ 39)
    {t : List UInt8} (ht : symOf s.data.toList k = t) (hne : t ≠ []) : Reads s k (k + t.length) 6 (str t) := by
  intro W b m T c hb hm hc hM
  rw [byte_c hk hc] at hd hw h34 h39
  refine read_symbol (Q := fun w' => Scn w' b s (k + t.length : Nat) false (.map (some m)) T ∧ W.grownBy w' (some b)) hM.box c.toNat 6 (str t) hd hw h34 h39 ?_
  subst ht
  exact symbol_any b (b + 1) s k false (.map (some m)) T W (by omega) (by omega) hM.scn hM.glob hM.box.s hne

theorem reads_hex (hs : s.size ≤ 20000) (hk : k + 2 ≤ s.size) (hd : digitB (byteV s.data.toList k) = true) (hp : hasPre (s.data.toList.drop k) [48, 120] = true)
    (fuel k' : Nat) (ds : List Int) (hF : digF fuel s.data.toList 16 (k + 2) false = some (ds, k')) (hv : valD 16 ds 0 < 18446744073709551616) (hds : ds.isEmpty = false)
    (hc : wordB (byteV s.data.toList k') = false) {text : ByteArray} (ht : (⟨(decL 40 (valD 16 ds 0) []).toArray⟩ : ByteArray) = text) : Reads s k k' 3 text := by
  intro W b m T c hb hm hc' hM
  rw [byte_c (by omega) hc'] at hd
  refine read_number (Q := fun w' => Scn w' b s k' false (.map (some m)) T ∧ W.grownBy w' (some b)) hM.box c.toNat 3 text hd ?_
  subst ht
  refine (number_hex b s k false (.map (some m)) T W (by omega) hk hM.scn hp fuel k' ds hF hv hds hc).mono ?_
  rintro e w' ⟨he, h1, _, h2⟩
  exact ⟨he, h1, h2⟩

theorem reads_int (hs : s.size ≤ 20000) (hk : k < s.size) (hd : digitB (byteV s.data.toList k) = true) (hp : hasPre (s.data.toList.drop k) [48, 120] = false) (hp2 : hasPre (s.data.toList.drop k) [48, 98] = false)
    (fuel k' : Nat) (ds : List Int) (hF : digF fuel s.data.toList 10 k false = some (ds, k')) (hlen : ds.length ≤ 4000000000) (hv : valD 10 ds 0 < 18446744073709551616) (hds : ds.isEmpty = false)
    (hc : byteV s.data.toList k' = 46) (hn : byteV s.data.toList (k' + 1) = 101) {text : ByteArray} (ht : (⟨(decL 40 (valD 10 ds 0) []).toArray⟩ : ByteArray) = text) : Reads s k k' 3 text := by
  intro W b m T c hb hm hc' hM
  rw [byte_c (by omega) hc'] at hd
  refine read_number (Q := fun w' => Scn w' b s k' false (.map (some m)) T ∧ W.grownBy w' (some b)) hM.box c.toNat 3 text hd ?_
  subst ht
  refine (number_int b s k false (.map (some m)) T W (by omega) (by omega) hM.scn hp hp2 fuel k' ds hF hlen hv hds hc hn).mono ?_
  rintro e w' ⟨he, h1, _, h2⟩
  exact ⟨he, h1, h2⟩

theorem reads_strA (hs : s.size ≤ 20000) (hk : k + 7 ≤ s.size) (h0 : byteV s.data.toList k = 34) (hp : hasPre (s.data.toList.drop k) [34, 34, 34] = false)
    (h1 : s[k + 1] = 97) (h2 : s[k + 2] = 92) (b1 : byteV s.data.toList (k + 1) = 97) (b2 : byteV s.data.toList (k + 2) = 92) (b3 : byteV s.data.toList (k + 3) = 120) (b4 : byteV s.data.toList (k + 4) = 52) (b5 : byteV s.data.toList (k + 5) = 49) (b6 : byteV s.data.toList (k + 6) = 34) :
    Reads s k (k + 7) 5 ⟨#[97, 65]⟩ := by
  intro W b m T c hb hm hc' hM
  rw [byte_c (by omega) hc'] at h0
  rw [h0]
  exact read_str (Q := fun w' => Scn w' b s (k + 7 : Nat) false (.map (some m)) T ∧ W.grownBy w' (some b)) hM.box ⟨#[97, 65]⟩ (str_A b s k false (.map (some m)) T W (by omega) hk hM.scn hp h1 h2 b1 b2 b3 b4 b5 b6)
end

def tA : ByteArray := ⟨#[108, 101, 116, 32, 120, 39, 32, 61, 32, 48, 120, 70, 70, 32, 47, 47, 32, 97]⟩
def tB : ByteArray := ⟨#[49, 46, 101, 32, 97, 46, 62, 98, 32, 34, 97, 92, 120, 52, 49, 34]⟩
def toksA : List Tok := [⟨2, ⟨#[108, 101, 116]⟩, 0, true⟩, ⟨1, ⟨#[120, 39]⟩, 4, false⟩, ⟨6, str [61], 7, false⟩, ⟨3, ⟨#[50, 53, 53]⟩, 9, false⟩]
def toksB : List Tok := [⟨3, ⟨#[49]⟩, 0, true⟩, ⟨6, str [46], 1, false⟩, ⟨1, ⟨#[101]⟩, 2, false⟩, ⟨1, ⟨#[97]⟩, 4, false⟩, ⟨6, str [46, 62], 5, false⟩, ⟨1, ⟨#[98]⟩, 7, false⟩, ⟨5, ⟨#[97, 65]⟩, 9, false⟩]

theorem chainA : Chain tA 0 true toksA := by
  refine ⟨by decide, 20, 3, by decide +kernel, by decide, ?_, by decide, 20, 6, by decide +kernel, by decide, ?_, by decide, 20, 8, by decide +kernel, by decide, ?_, by decide, 20, 13, by decide +kernel, by decide, ?_, by decide, 20, false, by decide +kernel⟩
  · exact reads_word (by decide) (by decide) (by decide +kernel) (by decide +kernel) (wordEnd_of (n := 20) (r := 3) (by decide +kernel) (by decide +kernel)) (by decide +kernel) (by decide +kernel)
  · exact reads_word (by decide) (by decide) (by decide +kernel) (by decide +kernel) (wordEnd_of (n := 20) (r := 5) (by decide +kernel) (by decide +kernel)) (by decide +kernel) (by decide +kernel)
  · exact reads_symbol (t := [61]) (by decide) (by decide) (by decide +kernel) (by decide +kernel) (by decide +kernel) (by decide +kernel) (by decide +kernel) (by decide)
  · exact reads_hex (by decide) (by decide) (by decide +kernel) (by decide +kernel) 20 13 [15, 15] (by decide +kernel) (by decide +kernel) (by decide) (by decide +kernel) (by decide +kernel)

theorem chainB : Chain tB 0 true toksB := by
  refine ⟨by decide, 20, 1, by decide +kernel, by decide, ?_, by decide, 20, 2, by decide +kernel, by decide, ?_, by decide, 20, 3, by decide +kernel, by decide, ?_, by decide, 20, 5, by decide +kernel, by decide, ?_,
    by decide, 20, 7, by decide +kernel, by decide, ?_, by decide, 20, 8, by decide +kernel, by decide, ?_, by decide, 20, 16, by decide +kernel, by decide, ?_, by decide, 20, false, by decide +kernel⟩
  · exact reads_int (by decide) (by decide) (by decide +kernel) (by decide +kernel) (by decide +kernel) 20 1 [1] (by decide +kernel) (by decide) (by decide +kernel) (by decide) (by decide +kernel) (by decide +kernel) (by decide +kernel)
  · exact reads_symbol (t := [46]) (by decide) (by decide) (by decide +kernel) (by decide +kernel) (by decide +kernel) (by decide +kernel) (by decide +kernel) (by decide)
  · exact reads_word (by decide) (by decide) (by decide +kernel) (by decide +kernel) (wordEnd_of (n := 20) (r := 3) (by decide +kernel) (by decide +kernel)) (by decide +kernel) (by decide +kernel)
  · exact reads_word (by decide) (by decide) (by decide +kernel) (by decide +kernel) (wordEnd_of (n := 20) (r := 5) (by decide +kernel) (by decide +kernel)) (by decide +kernel) (by decide +kernel)
  · exact reads_symbol (t := [46, 62]) (by decide) (by decide) (by decide +kernel) (by decide +kernel) (by decide +kernel) (by decide +kernel) (by decide +kernel) (by decide)
  · exact reads_word (by decide) (by decide) (by decide +kernel) (by decide +kernel) (wordEnd_of (n := 20) (r := 8) (by decide +kernel) (by decide +kernel)) (by decide +kernel) (by decide +kernel)
  · exact reads_strA (by decide) (by decide) (by decide +kernel) (by decide +kernel) (by decide +kernel) (by decide +kernel) (by decide +kernel) (by decide +kernel) (by decide +kernel) (by decide +kernel) (by decide +kernel) (by decide +kernel)
end Go.Proofs.YtpebdfofnmojcaaDoor

/- What each kind of token reads, over every text. -/
namespace Go.Proofs.YtpebdfofnmojcaaDoor
open Go.RowKit Go.Maps Go.WideMaps

section
variable {s : ByteArray} {k : Nat}

theorem breads_gen (hs : s.size ≤ 20000) (hk : k ≤ s.size) {n : Nat} {ln : Bool} {x : Nat × Bool} (h : blG n s.data.toList k ln = some (.inl x)) (hx : x.1 ≤ s.size) : BReads s k ln x.1 x.2 := by
  refine ⟨hx, fun W b m T hb hm hM => ?_⟩
  refine (blanks_gen b hb s k ln (.map (some m)) T W (by omega) hk hM.scn hM.glob n _ h).mono ?_
  rintro e w' ⟨⟨he, h1, -⟩, h2⟩
  exact ⟨he, h1, h2⟩
theorem bfails_gen (hs : s.size ≤ 20000) (hk : k ≤ s.size) {n : Nat} {ln : Bool} {p : Nat} (h : blG n s.data.toList k ln = some (.inr p)) : BFails s k ln p 32 := by
  intro W b m T hb hm hM
  refine (blanks_gen b hb s k ln (.map (some m)) T W (by omega) hk hM.scn hM.glob n _ h).mono ?_
  rintro e w' ⟨he, h2⟩
  exact ⟨he, h2⟩
theorem reads_num (hs : s.size ≤ 20000) (hk : k < s.size) (hd : digitB (byteV s.data.toList k) = true) {x : Nat × List UInt8 × Nat} (h : numF s.data.toList k = some x) : Reads s k x.2.2 (x.1 : Nat) ⟨x.2.1.toArray⟩ := by
  intro W b m T c hb hm hc hM
  rw [byte_c hk hc] at hd
  refine read_number (Q := fun w' => Scn w' b s (x.2.2 : Nat) false (.map (some m)) T ∧ W.grownBy w' (some b)) hM.box c.toNat _ _ hd ?_
  refine (number_gen b s k false (.map (some m)) T W (by omega) (by omega) hM.scn).mono ?_
  rw [h]
  rintro e w' ⟨⟨he, h1⟩, h2⟩
  exact ⟨he, h1, h2⟩
theorem fails_num (hs : s.size ≤ 20000) (hk : k < s.size) (hd : digitB (byteV s.data.toList k) = true) (h : numF s.data.toList k = none) : Fails s k k 33 := by
  intro W b m T c hb hm hc hM
  rw [byte_c hk hc] at hd
  refine read_number_bad (Q := fun w' => W.grownBy w' (some b)) hM.box c.toNat _ _ hd ?_
  refine (number_gen b s k false (.map (some m)) T W (by omega) (by omega) hM.scn).mono ?_
  rw [h]
  rintro e w' ⟨he, h2⟩
  exact ⟨he, h2⟩
theorem reads_chr (hs : s.size ≤ 20000) (hk : k < s.size) (h39 : byteV s.data.toList k = 39) {x : Nat × Nat} (h : chrF s.data.toList k = .inl x) : Reads s k x.2 3 ⟨(decL 40 x.1 []).toArray⟩ := by
  intro W b m T c hb hm hc hM
  rw [byte_c hk hc] at h39
  rw [h39]
  refine read_char (Q := fun w' => Scn w' b s (x.2 : Nat) false (.map (some m)) T ∧ W.grownBy w' (some b)) hM.box _ ?_
  refine (character_gen b hb s k false (.map (some m)) T W (by omega) hk hM.scn hM.glob).mono ?_
  rw [h]
  rintro e w' ⟨⟨he, h1⟩, h2⟩
  exact ⟨he, h1, h2⟩
theorem fails_chr (hs : s.size ≤ 20000) (hk : k < s.size) (h39 : byteV s.data.toList k = 39) {code : Int} (h : chrF s.data.toList k = .inr code) : Fails s k k code := by
  intro W b m T c hb hm hc hM
  rw [byte_c hk hc] at h39
  rw [h39]
  refine read_char_bad (Q := fun w' => W.grownBy w' (some b)) hM.box _ _ ?_
  refine (character_gen b hb s k false (.map (some m)) T W (by omega) hk hM.scn hM.glob).mono ?_
  rw [h]
  rintro e w' ⟨he, h2⟩
  exact ⟨he, h2⟩
theorem reads_strS (hs : s.size ≤ 20000) (hk : k < s.size) (h34 : byteV s.data.toList k = 34) (hp : hasPre (s.data.toList.drop k) [34, 34, 34] = false) {n : Nat} {x : List UInt8 × Nat} (h : strG n s.data.toList (k + 1) [] = some (some x)) : Reads s k x.2 5 ⟨x.1.toArray⟩ := by
  intro W b m T c hb hm hc hM
  rw [byte_c hk hc] at h34
  rw [h34]
  refine read_str (Q := fun w' => Scn w' b s (x.2 : Nat) false (.map (some m)) T ∧ W.grownBy w' (some b)) hM.box _ ?_
  refine (str_gen b hb s k false (.map (some m)) T W (by omega) hk hM.scn hM.glob hp n _ h).mono ?_
  rintro e w' ⟨⟨he, h1⟩, h2⟩
  exact ⟨he, h1, h2⟩
theorem fails_strS (hs : s.size ≤ 20000) (hk : k < s.size) (h34 : byteV s.data.toList k = 34) (hp : hasPre (s.data.toList.drop k) [34, 34, 34] = false) {n : Nat} (h : strG n s.data.toList (k + 1) [] = some none) : Fails s k k 31 := by
  intro W b m T c hb hm hc hM
  rw [byte_c hk hc] at h34
  rw [h34]
  refine read_str_bad (Q := fun w' => W.grownBy w' (some b)) hM.box _ _ ?_
  refine (str_gen b hb s k false (.map (some m)) T W (by omega) hk hM.scn hM.glob hp n _ h).mono ?_
  rintro e w' ⟨he, h2⟩
  exact ⟨he, h2⟩
theorem reads_trip (hs : s.size ≤ 20000) (hk : k < s.size) (h34 : byteV s.data.toList k = 34) (hp : hasPre (s.data.toList.drop k) [34, 34, 34] = true) {x : List UInt8 × Nat} (h : tripF s.data.toList k = some x) : Reads s k x.2 5 ⟨x.1.toArray⟩ := by
  intro W b m T c hb hm hc hM
  rw [byte_c hk hc] at h34
  rw [h34]
  refine read_str (Q := fun w' => Scn w' b s (x.2 : Nat) false (.map (some m)) T ∧ W.grownBy w' (some b)) hM.box _ ?_
  refine (str_trip b hb s k false (.map (some m)) T W (by omega) hk hM.scn hM.glob hp).mono ?_
  rw [h]
  rintro e w' ⟨⟨he, h1⟩, h2⟩
  exact ⟨he, h1, h2⟩
theorem fails_trip (hs : s.size ≤ 20000) (hk : k < s.size) (h34 : byteV s.data.toList k = 34) (hp : hasPre (s.data.toList.drop k) [34, 34, 34] = true) (h : tripF s.data.toList k = none) : Fails s k k 31 := by
  intro W b m T c hb hm hc hM
  rw [byte_c hk hc] at h34
  rw [h34]
  refine read_str_bad (Q := fun w' => W.grownBy w' (some b)) hM.box _ _ ?_
  refine (str_trip b hb s k false (.map (some m)) T W (by omega) hk hM.scn hM.glob hp).mono ?_
  rw [h]
  rintro e w' ⟨he, h2⟩
  exact ⟨he, h2⟩
end
end Go.Proofs.YtpebdfofnmojcaaDoor

/- The token at a place, over every text. -/
namespace Go.Proofs.YtpebdfofnmojcaaDoor
open Go.RowKit Go.Maps Go.WideMaps

/-- The token that begins at a place: its kind, its text and where it ends; or the place and the code of a fault. -/
def tokG (l : List UInt8) (k : Nat) : Option ((Int × List UInt8 × Nat) ⊕ (Nat × Int)) :=
  if digitB (byteV l k) = true then
    match numF l k with
    | some x => some (.inl ((x.1 : Nat), x.2.1, x.2.2))
    | none => some (.inr (k, 33))
  else if wordB (byteV l k) = true then some (.inl (kwKind ((l.drop k).take (wordEnd l k - k)), (l.drop k).take (wordEnd l k - k), wordEnd l k))
  else if byteV l k = 34 then
    if hasPre (l.drop k) [34, 34, 34] = true then
      match tripF l k with
      | some x => some (.inl (5, x.1, x.2))
      | none => some (.inr (k, 31))
    else match strG (l.length + 1) l (k + 1) [] with
      | some (some x) => some (.inl (5, x.1, x.2))
      | some none => some (.inr (k, 31))
      | none => none
  else if byteV l k = 39 then
    match chrF l k with
    | .inl x => some (.inl (3, decL 40 x.1 [], x.2))
    | .inr code => some (.inr (k, code))
  else if symOf l k = [] then some (.inr (k, 30))
  else some (.inl (6, symOf l k, k + (symOf l k).length))

section
variable {s : ByteArray} {k : Nat}
theorem fails_symbol (hs : s.size ≤ 20000) (hk : k < s.size) (hd : digitB (byteV s.data.toList k) = false) (hw : wordB (byteV s.data.toList k) = false) (h34 : byteV s.data.toList k ≠ 34) (h39 : byteV s.data.toList k ≠ 39) (ht : symOf s.data.toList k = []) : Fails s k k 30 := by
  intro W b m T c hb hm hc hM
  rw [byte_c hk hc] at hd hw h34 h39
  refine read_symbol_bad (Q := fun w' => W.grownBy w' (some b)) hM.box c.toNat _ _ hd hw h34 h39 ?_
  exact symbol_bad b (b + 1) s k false (.map (some m)) T W (by omega) (by omega) hM.scn hM.glob hM.box.s ht
theorem extract_eq (s : ByteArray) (k j : Nat) : s.extract k j = ⟨((s.data.toList.drop k).take (j - k)).toArray⟩ := by
  rw [← extract_list]
theorem tokG_reads (hs : s.size ≤ 20000) (hk : k < s.size) {x : Int × List UInt8 × Nat} (h : tokG s.data.toList k = some (.inl x)) : Reads s k x.2.2 x.1 ⟨x.2.1.toArray⟩ := by
  unfold tokG at h
  split at h
  · rename_i hd
    split at h
    · rename_i y hy
      cases h
      exact reads_num hs hk hd hy
    · cases h
  rename_i hd
  rw [Bool.not_eq_true] at hd
  split at h
  · rename_i hw
    cases h
    exact reads_word hs hk hd hw rfl rfl (extract_eq s k _)
  rename_i hw
  rw [Bool.not_eq_true] at hw
  split at h
  · rename_i h34
    split at h
    · rename_i hp
      split at h
      · rename_i y hy
        have e := Option.some.inj h
        rw [← Sum.inl.inj e]
        exact reads_trip hs hk h34 hp hy
      · cases h
    · rename_i hp
      split at h
      · rename_i y hy
        have e := Option.some.inj h
        rw [← Sum.inl.inj e]
        exact reads_strS hs hk h34 (by simpa using hp) hy
      · cases h
      · cases h
  rename_i h34
  split at h
  · rename_i h39
    split at h
    · rename_i y hy
      cases h
      exact reads_chr hs hk h39 hy
    · cases h
  rename_i h39
  split at h
  · cases h
  · rename_i hne
    obtain ⟨t, ht⟩ : ∃ t, symOf s.data.toList k = t := ⟨_, rfl⟩
    rw [ht] at h hne
    have e := Option.some.inj h
    rw [← Sum.inl.inj e]
    exact reads_symbol hs hk hd hw h34 h39 ht hne
theorem tokG_fails (hs : s.size ≤ 20000) (hk : k < s.size) {p : Nat × Int} (h : tokG s.data.toList k = some (.inr p)) : Fails s k p.1 p.2 := by
  unfold tokG at h
  split at h
  · rename_i hd
    split at h
    · cases h
    · rename_i hy
      cases h
      exact fails_num hs hk hd hy
  rename_i hd
  rw [Bool.not_eq_true] at hd
  split at h
  · cases h
  rename_i hw
  rw [Bool.not_eq_true] at hw
  split at h
  · rename_i h34
    split at h
    · rename_i hp
      split at h
      · cases h
      · rename_i hy
        have e := Option.some.inj h
        rw [← Sum.inr.inj e]
        exact fails_trip hs hk h34 hp hy
    · rename_i hp
      split at h
      · cases h
      · rename_i hy
        have e := Option.some.inj h
        rw [← Sum.inr.inj e]
        exact fails_strS hs hk h34 (by simpa using hp) hy
      · cases h
  rename_i h34
  split at h
  · rename_i h39
    split at h
    · cases h
    · rename_i y hy
      cases h
      exact fails_chr hs hk h39 hy
  rename_i h39
  split at h
  · rename_i he
    cases h
    exact fails_symbol hs hk hd hw h34 h39 he
  · cases h
end
end Go.Proofs.YtpebdfofnmojcaaDoor

/- The tokens of a text, over every text but those of triple quotes. -/
namespace Go.Proofs.YtpebdfofnmojcaaDoor
open Go.RowKit Go.Maps Go.WideMaps

/-- The tokens from a place on, and the fault behind them, if there is one. -/
def scanG : Nat → List UInt8 → Nat → Bool → Option (List Tok × Option (Nat × Int))
  | 0, _, _, _ => none
  | n + 1, l, k, ln =>
    match blG (l.length + 1) l k ln with
    | none => none
    | some (.inr p) => some ([], some (p, 32))
    | some (.inl x) =>
      if x.1 = l.length then some ([], none)
      else if x.1 < l.length then
        match tokG l x.1 with
        | none => none
        | some (.inr p) => some ([], some p)
        | some (.inl y) =>
          if y.2.2 ≤ l.length then
            match scanG n l y.2.2 false with
            | none => none
            | some r => some (⟨y.1, ⟨y.2.1.toArray⟩, x.1, x.2⟩ :: r.1, r.2)
          else none
      else none

theorem scanG_len : ∀ (n : Nat) (l : List UInt8) (k : Nat) (ln : Bool) (r : List Tok × Option (Nat × Int)), scanG n l k ln = some r → r.1.length < n
  | 0, _, _, _, _, h => by simp [scanG] at h
  | n + 1, l, k, ln, r, h => by
    unfold scanG at h
    split at h
    · cases h
    · cases h; simp
    · split at h
      · cases h; simp
      · split at h
        · split at h
          · cases h
          · cases h; simp
          · split at h
            · split at h
              · cases h
              · rename_i q hq
                have := scanG_len n l _ _ q hq
                cases h
                simp; omega
            · cases h
        · cases h

theorem scanG_sound (s : ByteArray) (hs : s.size ≤ 20000) : ∀ (n k : Nat) (ln : Bool) (toks : List Tok) (o : Option (Nat × Int)), k ≤ s.size → scanG n s.data.toList k ln = some (toks, o) →
    match o with
    | none => Runs s k ln toks
    | some p => RunsE s p.1 p.2 k ln toks
  | 0, k, ln, toks, o, hk, h => by simp [scanG] at h
  | n + 1, k, ln, toks, o, hk, h => by
    have hl := len_list s
    unfold scanG at h
    split at h
    · cases h
    · rename_i p hp
      obtain ⟨rfl, rfl⟩ := Prod.mk.inj (Option.some.inj h)
      exact .inl (bfails_gen hs hk hp)
    · rename_i x hx
      split at h
      · rename_i he
        obtain ⟨rfl, rfl⟩ := Prod.mk.inj (Option.some.inj h)
        have b := breads_gen hs hk hx (by omega)
        rw [he, hl] at b
        exact ⟨_, b⟩
      · split at h
        · rename_i hlt
          have b := breads_gen hs hk hx (by omega)
          split at h
          · cases h
          · rename_i p hp
            obtain ⟨rfl, rfl⟩ := Prod.mk.inj (Option.some.inj h)
            exact .inr ⟨_, _, b, by omega, tokG_fails hs (by omega) hp⟩
          · rename_i y hy
            split at h
            · rename_i hle
              split at h
              · cases h
              · rename_i q hq
                have ih := scanG_sound s hs n y.2.2 false q.1 q.2 (by omega) hq
                obtain ⟨rfl, rfl⟩ := Prod.mk.inj (Option.some.inj h)
                have t := tokG_reads hs (by omega) hy
                cases hq2 : q.2 with
                | none =>
                  rw [hq2] at ih
                  exact ⟨b, (by show x.1 < s.size; omega), _, t, ih⟩
                | some p =>
                  rw [hq2] at ih
                  exact ⟨b, (by show x.1 < s.size; omega), _, t, ih⟩
            · cases h
        · cases h

/-- Scan of a text of at most 20000 bytes, where 'scanG' says what it reads. -/
theorem scan_gen (s : ByteArray) (w : World) (hs : s.size ≤ 20000) (hG : Glob w) {n : Nat} (hn : n ≤ 20001) {toks : List Tok} {o : Option (Nat × Int)} (h : scanG n s.data.toList 0 true = some (toks, o)) :
    Calls Tryd.prog 28 #[.string s] w fun e w' => w.grownBy w' none ∧ match o with
      | none => ∃ v, e = .returned (.tuple #[v, .int .i64 0, .int .i64 0]) ∧ w'.ownsRow w.heap.size 36 4 v toks.length (tokCells toks)
      | some p => e = .returned (.tuple #[.slice none 0 0, .int .i64 (p.1 : Int), .int .i64 p.2]) := by
  have hlen := scanG_len _ _ _ _ _ h
  have r := scanG_sound s hs n 0 true toks o (by omega) h
  cases o with
  | none =>
    refine (scan_runs s w hs hG toks (by simp at hlen; omega) r).mono ?_
    rintro e w' ⟨v, he, h1, h2⟩
    exact ⟨h2, v, he, h1⟩
  | some p =>
    refine (scan_fails s w hs hG p.1 p.2 toks (by simp at hlen; omega) r).mono ?_
    rintro e w' ⟨he, h2⟩
    exact ⟨h2, he⟩
end Go.Proofs.YtpebdfofnmojcaaDoor

/- A token goes on, and ends within the text. -/
namespace Go.Proofs.YtpebdfofnmojcaaDoor
open Go.RowKit Go.Maps Go.WideMaps

theorem runD_ge (l : List UInt8) (base : Int) (k : Nat) (hb : base ≤ 16) (hk : k ≤ l.length) : (runD l base k).1.length + k ≤ (runD l base k).2 := by
  obtain ⟨ds, k', e, h1, h2⟩ := digF_total (l.length + 1) l base k false hb hk (by omega)
  unfold runD
  rw [e]
  exact h2
theorem runD_digit (l : List UInt8) (k : Nat) (hk : k < l.length) (hd : digitB (byteV l k) = true) : k < (runD l 10 k).2 := by
  have h := (runD_some l 10 k (by decide) (by omega)).1
  have g := runD_ge l 10 k (by decide) (by omega)
  have hv : digitV (byteV l k) < 10 := by
    unfold digitB at hd
    simp at hd
    unfold digitV
    rw [if_pos hd]
    omega
  unfold digF at h
  rw [if_pos hv] at h
  split at h
  · rename_i ds k' he
    have e := Option.some.inj h
    have e1 := congrArg Prod.fst e
    simp only at e1
    rw [← e1] at g
    simp at g
    omega
  · cases h
theorem expF_end (l t : List UInt8) (k : Nat) (hk : k ≤ l.length) : k ≤ (expF l t k).2.2 ∧ (expF l t k).2.2 ≤ l.length := by
  unfold expF
  split
  · rename_i he
    have h0 := eB_in _ _ he
    split
    · rename_i h1
      have h2 := byteV_in (l := l) (k := k + 1) (by omega)
      have a := runD_some l 10 (k + 2) (by decide) (by omega)
      have b := runD_ge l 10 (k + 2) (by decide) (by omega)
      simp only
      omega
    · split
      · rename_i h1
        have h2 := byteV_in (l := l) (k := k + 1) (by omega)
        have a := runD_some l 10 (k + 2) (by decide) (by omega)
        have b := runD_ge l 10 (k + 2) (by decide) (by omega)
        simp only
        omega
      · have a := runD_some l 10 (k + 1) (by decide) (by omega)
        have b := runD_ge l 10 (k + 1) (by decide) (by omega)
        simp only
        omega
  · simp only
    omega
theorem decF_end (l : List UInt8) (k : Nat) (hk : k < l.length) (hd : digitB (byteV l k) = true) : k < (decF l k).2.2.2 ∧ (decF l k).2.2.2 ≤ l.length := by
  have d := runD_digit l k hk hd
  have a := (runD_some l 10 k (by decide) (by omega)).2.1
  unfold decF
  split
  · rename_i hp
    have h1 := byteV_in (l := l) (k := (runD l 10 k).2) (by omega)
    have b := runD_some l 10 ((runD l 10 k).2 + 1) (by decide) (by omega)
    have c := runD_ge l 10 ((runD l 10 k).2 + 1) (by decide) (by omega)
    have e := expF_end l (runL (runD l 10 k).1 ++ 46 :: runL (runD l 10 ((runD l 10 k).2 + 1)).1) (runD l 10 ((runD l 10 k).2 + 1)).2 b.2.1
    simp only
    omega
  · split
    · have e := expF_end l (runL (runD l 10 k).1) (runD l 10 k).2 a
      simp only
      omega
    · simp only
      omega
theorem numF_end (l : List UInt8) (k : Nat) (hk : k < l.length) (hd : digitB (byteV l k) = true) (x : Nat × List UInt8 × Nat) (h : numF l k = some x) : k < x.2.2 ∧ x.2.2 ≤ l.length := by
  unfold numF at h
  split at h
  · have e := Option.some.inj h
    rw [← e]
    unfold rawF
    split
    · rename_i hp
      have h2 := hasPre_two _ _ _ _ hp
      have a := (runD_some l (16 : Nat) (k + 2) (by decide) (by omega)).2.1
      have b := runD_ge l (16 : Nat) (k + 2) (by decide) (by omega)
      unfold intF
      simp only
      omega
    · split
      · rename_i hp
        have h2 := hasPre_two _ _ _ _ hp
        have a := (runD_some l (2 : Nat) (k + 2) (by decide) (by omega)).2.1
        have b := runD_ge l (2 : Nat) (k + 2) (by decide) (by omega)
        unfold intF
        simp only
        omega
      · exact decF_end l k hk hd
  · cases h
theorem word_end (l : List UInt8) (k : Nat) (hk : k < l.length) (hw : wordB (byteV l k) = true) : k < wordEnd l k ∧ wordEnd l k ≤ l.length := by
  refine ⟨?_, wordEnd_le l k (by omega)⟩
  unfold byteV at hw
  rw [dif_pos hk] at hw
  unfold wordEnd
  rw [runEnd_go hk hw]
  have a := runEnd_ge wordB l (k + 1)
  have b := runEnd_ge primeB l (runEnd wordB l (k + 1))
  omega
theorem strG_end : ∀ (n : Nat) (l : List UInt8) (p : Nat) (out : List UInt8) (x : List UInt8 × Nat), strG n l p out = some (some x) → p < x.2 ∧ x.2 ≤ l.length
  | 0, _, _, _, _, h => by simp [strG] at h
  | n + 1, l, p, out, x, h => by
    unfold strG at h
    split at h
    · rename_i h34
      have h1 := byteV_in (l := l) (k := p) (by omega)
      have e := Option.some.inj (Option.some.inj h)
      rw [← e]
      simp only
      omega
    · split at h
      · cases h
      · rename_i y hy
        obtain ⟨-, h1, h2⟩ := symF_le _ _ _ hy
        have := strG_end n l y.2 _ x h
        omega
theorem chrF_end (l : List UInt8) (k : Nat) (x : Nat × Nat) (h : chrF l k = .inl x) : k < x.2 ∧ x.2 ≤ l.length := by
  unfold chrF at h
  split at h
  · cases h
  · split at h
    · cases h
    · rename_i y hy
      obtain ⟨-, h1, h2⟩ := symF_le _ _ _ hy
      split at h
      · cases h
      · rename_i h39
        have h3 := byteV_in (l := l) (k := y.2) (by omega)
        split at h
        · cases h
        · have e := Sum.inl.inj h
          rw [← e]
          simp only
          omega
end Go.Proofs.YtpebdfofnmojcaaDoor

/- Every text without triple quotes is read to its end or to a fault. -/
namespace Go.Proofs.YtpebdfofnmojcaaDoor
open Go.RowKit Go.Maps Go.WideMaps

theorem bestAt_pre (l : List UInt8) (a : Nat) : ∀ j, j ≤ 43 → hasPre (l.drop a) (bestAt l a j) = true
  | 0, _ => by simp [bestAt, longestIn, hasPre]
  | j + 1, h => by
    rw [bestAt_step l a j (by omega)]
    unfold symStep
    split
    · rename_i h1
      exact h1.2.1
    · exact bestAt_pre l a j (by omega)
theorem symOf_end (l : List UInt8) (k : Nat) (hk : k < l.length) : k + (symOf l k).length ≤ l.length := by
  have h := bestAt_pre l k 43 (Nat.le_refl _)
  unfold hasPre at h
  have := List.IsPrefix.length_le (List.isPrefixOf_iff_prefix.1 h)
  unfold symOf
  simp at this
  omega
theorem tripF_end (l : List UInt8) (k : Nat) (x : List UInt8 × Nat) (h : tripF l k = some x) : k < x.2 ∧ x.2 ≤ l.length := by
  unfold tripF at h
  split at h
  · cases h
  rename_i h1
  split at h
  · cases h
  have e := Option.some.inj h
  rw [← e]
  simp only
  rcases Lib.index_spec (l.drop (k + 3)) [34, 34, 34] with ⟨g, -⟩ | ⟨i, g, -⟩
  · omega
  · have := index_in _ _ _ rfl g
    rw [g]
    simp only [List.length_drop] at this
    simp only [Int.toNat_natCast]
    omega
theorem tokG_end (l : List UInt8) (k : Nat) (hk : k < l.length) {x : Int × List UInt8 × Nat} (h : tokG l k = some (.inl x)) : k < x.2.2 ∧ x.2.2 ≤ l.length := by
  unfold tokG at h
  split at h
  · rename_i hd
    split at h
    · rename_i y hy
      have e := Sum.inl.inj (Option.some.inj h)
      rw [← e]
      exact numF_end l k hk hd y hy
    · cases h
  split at h
  · rename_i hw
    have e := Sum.inl.inj (Option.some.inj h)
    rw [← e]
    exact word_end l k hk hw
  split at h
  · split at h
    · split at h
      · rename_i y hy
        have e := Sum.inl.inj (Option.some.inj h)
        rw [← e]
        exact tripF_end l k y hy
      · cases h
    · split at h
      · rename_i y hy
        have e := Sum.inl.inj (Option.some.inj h)
        rw [← e]
        have := strG_end _ _ _ _ _ hy
        simp only
        omega
      · cases h
      · cases h
  split at h
  · split at h
    · rename_i y hy
      have e := Sum.inl.inj (Option.some.inj h)
      rw [← e]
      exact chrF_end l k y hy
    · cases h
  split at h
  · cases h
  · rename_i hne
    have e := Sum.inl.inj (Option.some.inj h)
    rw [← e]
    have h1 := symOf_end l k hk
    have h2 := List.length_pos_iff.2 hne
    simp only
    omega
theorem tokG_some (l : List UInt8) (k : Nat) (_ : k < l.length) : ∃ r, tokG l k = some r := by
  unfold tokG
  split
  · split <;> exact ⟨_, rfl⟩
  split
  · exact ⟨_, rfl⟩
  split
  · split
    · split <;> exact ⟨_, rfl⟩
    obtain ⟨R, hR⟩ := strG_total (l.length + 1) l (k + 1) [] (by omega) (by omega)
    rw [hR]
    cases R <;> exact ⟨_, rfl⟩
  split
  · split <;> exact ⟨_, rfl⟩
  split <;> exact ⟨_, rfl⟩
theorem blG_end : ∀ (n : Nat) (l : List UInt8) (k : Nat) (ln : Bool) (x : Nat × Bool), k ≤ l.length → blG n l k ln = some (.inl x) → k ≤ x.1 ∧ x.1 ≤ l.length
  | 0, _, _, _, _, _, h => by simp [blG] at h
  | n + 1, l, k, ln, x, hk, h => by
    unfold blG at h
    split at h
    · have e := Sum.inl.inj (Option.some.inj h)
      rw [← e]
      exact ⟨Nat.le_refl _, hk⟩
    rename_i hlt
    split at h
    · have := blG_end n l _ _ x (by omega) h
      omega
    split at h
    · have := blG_end n l _ _ x (by omega) h
      omega
    split at h
    · split at h
      · have hb : lineLen (l.drop k) ≤ (l.drop k).length := lineLen_le _
        rw [List.length_drop] at hb
        have := blG_end n l _ _ x (by omega) h
        omega
      · cases h
    split at h
    · rename_i hp
      split at h
      · rename_i a ha
        have hb : a ≤ (l.drop k).length := by
          unfold BlkOk at ha
          split at ha
          · rename_i e he
            have h2 : 2 ≤ (l.drop k).length := by
              have := pre_two (l.drop k) 0 _ _ (by simpa using hp)
              omega
            have := blkF_le _ _ _ _ _ h2 he
            split at ha
            · simp at ha; omega
            · cases ha
          · cases ha
        rw [List.length_drop] at hb
        have := blG_end n l _ _ x (by omega) h
        omega
      · cases h
    · have e := Sum.inl.inj (Option.some.inj h)
      rw [← e]
      exact ⟨Nat.le_refl _, hk⟩
theorem scanG_total (l : List UInt8) : ∀ (n k : Nat) (ln : Bool), k ≤ l.length → l.length < n + k → ∃ r, scanG n l k ln = some r
  | 0, k, ln, hk, h => by omega
  | n + 1, k, ln, hk, h => by
    obtain ⟨R, hR⟩ := blG_ends l k ln hk
    unfold scanG
    rw [hR]
    cases R with
    | inr p => exact ⟨_, rfl⟩
    | inl x =>
      obtain ⟨h1, h2⟩ := blG_end _ _ _ _ _ hk hR
      simp only
      split
      · exact ⟨_, rfl⟩
      · rw [if_pos (by omega)]
        obtain ⟨r, hr⟩ := tokG_some l x.1 (by omega)
        rw [hr]
        cases r with
        | inr p => exact ⟨_, rfl⟩
        | inl y =>
          obtain ⟨h3, h4⟩ := tokG_end l x.1 (by omega) hr
          simp only
          rw [if_pos h4]
          obtain ⟨q, hq⟩ := scanG_total l n y.2.2 false h4 (by omega)
          rw [hq]
          exact ⟨_, rfl⟩
end Go.Proofs.YtpebdfofnmojcaaDoor

/- Tokens and blanks read no further than they must: what a text's tokens are where it is cut, or has a blank more. No program's run in this text. -/
namespace Go.Proofs.YtpebdfofnmojcaaDoor
open Go.RowKit

/-- A blank. -/
def stopC (c : Int) : Bool := c == 32 || c == 10 || c == 9 || c == 13
/-- The next n bytes of two lists are the same, and a blank or the end is behind them in the second one. -/
structure Agree (l : List UInt8) (k : Nat) (l' : List UInt8) (k' n : Nat) : Prop where
  a : k + n ≤ l.length
  b : k' + n ≤ l'.length
  e : ∀ i, i < n → byteV l (k + i) = byteV l' (k' + i)
  s : stopC (byteV l' (k' + n)) = true

theorem stop_cases {c : Int} (h : stopC c = true) : c = 32 ∨ c = 10 ∨ c = 9 ∨ c = 13 := by
  unfold stopC at h
  simp at h
  omega
theorem stop_word {c : Int} (h : stopC c = true) : wordB c = false := by
  rcases stop_cases h with rfl | rfl | rfl | rfl <;> decide
theorem stop_prime {c : Int} (h : stopC c = true) : primeB c = false := by
  rcases stop_cases h with rfl | rfl | rfl | rfl <;> decide
theorem stop_digitB {c : Int} (h : stopC c = true) : digitB c = false := by
  rcases stop_cases h with rfl | rfl | rfl | rfl <;> decide
theorem stop_digitV {c : Int} (h : stopC c = true) : digitV c = 99 := by
  rcases stop_cases h with rfl | rfl | rfl | rfl <;> decide
theorem stop_eB {c : Int} (h : stopC c = true) : eB c = false := by
  rcases stop_cases h with rfl | rfl | rfl | rfl <;> decide

section
variable {l l' : List UInt8} {k k' n : Nat}

theorem Agree.at (h : Agree l k l' k' n) {j : Nat} (hj : j ≤ n) : Agree l (k + j) l' (k' + j) (n - j) := by
  refine ⟨?_, ?_, ?_, ?_⟩
  · have := h.a; omega
  · have := h.b; omega
  · intro i hi
    have := h.e (j + i) (by omega)
    rwa [← Nat.add_assoc, ← Nat.add_assoc] at this
  · have e : k' + j + (n - j) = k' + n := by omega
    rw [e]
    exact h.s
theorem Agree.first (h : Agree l k l' k' n) (hn : 0 < n) : byteV l k = byteV l' k' := h.e 0 hn
/-- What holds of no blank holds behind the same bytes only where it held. -/
theorem Agree.no (h : Agree l k l' k' n) {p : Int → Bool} (hp : ∀ c, stopC c = true → p c = false) {i : Nat} (hi : i ≤ n) (hf : p (byteV l (k + i)) = false) : p (byteV l' (k' + i)) = false := by
  rcases Nat.lt_or_eq_of_le hi with h1 | rfl
  · rw [← h.e i h1]; exact hf
  · exact hp _ h.s
/-- What holds of no blank, and holds in the second list, holds in the first one, within the bytes. -/
theorem Agree.yes (h : Agree l k l' k' n) {p : Int → Bool} (hp : ∀ c, stopC c = true → p c = false) {i : Nat} (hi : i ≤ n) (ht : p (byteV l' (k' + i)) = true) : i < n ∧ p (byteV l (k + i)) = true := by
  rcases Nat.lt_or_eq_of_le hi with h1 | rfl
  · refine ⟨h1, ?_⟩
    rw [h.e i h1]; exact ht
  · rw [hp _ h.s] at ht
    cases ht
theorem Agree.isEq (h : Agree l k l' k' n) {q : Int} (hq : stopC q = false) {i : Nat} (hi : i ≤ n) (ht : byteV l' (k' + i) = q) : i < n ∧ byteV l (k + i) = q := by
  have := h.yes (p := fun c => c == q) (fun c hc => by
    cases hcq : (c == q) with
    | false => rfl
    | true => have e : c = q := by simpa using hcq
              rw [e, hq] at hc; cases hc) hi (by simpa using ht)
  simpa using this

/-! ### runs -/
theorem runEnd_yes {p : Int → Bool} (hp : p 32 = false) (h : p (byteV l k) = true) : k < l.length ∧ runEnd p l k = runEnd p l (k + 1) := by
  by_cases hk : k < l.length
  · refine ⟨hk, ?_⟩
    unfold byteV at h
    rw [dif_pos hk] at h
    exact runEnd_go hk h
  · unfold byteV at h
    rw [dif_neg hk, hp] at h
    cases h
theorem runEnd_no {p : Int → Bool} (h : p (byteV l k) = false) : runEnd p l k = k := by
  by_cases hk : k < l.length
  · unfold byteV at h
    rw [dif_pos hk] at h
    exact runEnd_stop hk h
  · exact runEnd_end (by omega)
theorem runEnd_loc (p : Int → Bool) (hp : ∀ c, stopC c = true → p c = false) : ∀ (n k k' m : Nat), Agree l k l' k' n → runEnd p l k = k + m → m ≤ n → runEnd p l' k' = k' + m
  | n, k, k', 0, h, hr, hm => by
    cases hb : p (byteV l k) with
    | true =>
      have := (runEnd_yes (l := l) (hp 32 (by decide)) hb).2
      have := runEnd_ge p l (k + 1)
      omega
    | false => exact runEnd_no (h.no hp (i := 0) (Nat.zero_le _) hb)
  | n, k, k', m + 1, h, hr, hm => by
    cases hb : p (byteV l k) with
    | true =>
      obtain ⟨h1, h2⟩ := runEnd_yes (l := l) (hp 32 (by decide)) hb
      have hb' : p (byteV l' k') = true := by rw [← h.first (by omega)]; exact hb
      have := (runEnd_yes (l := l') (hp 32 (by decide)) hb').2
      rw [this, runEnd_loc p hp (n - 1) (k + 1) (k' + 1) m (h.at (j := 1) (by omega)) (by omega) (by omega)]
      omega
    | false =>
      have := runEnd_no (l := l) hb
      omega
theorem wordEnd_loc (h : Agree l k l' k' n) {m : Nat} (hr : wordEnd l k = k + m) (hm : m ≤ n) : wordEnd l' k' = k' + m := by
  unfold wordEnd at hr ⊢
  have g1 := runEnd_ge wordB l k
  have g2 := runEnd_ge primeB l (runEnd wordB l k)
  obtain ⟨a, ha⟩ : ∃ a, runEnd wordB l k = k + a := ⟨runEnd wordB l k - k, by omega⟩
  rw [runEnd_loc wordB (fun _ => stop_word) n k k' a h ha (by omega)]
  rw [ha] at hr g2
  have := runEnd_loc primeB (fun _ => stop_prime) (n - a) (k + a) (k' + a) (m - a) (h.at (by omega)) (by omega) (by omega)
  omega

/-! ### the same bytes -/
theorem byteV_inj {i j : Nat} (hi : i < l.length) (hj : j < l'.length) (h : byteV l i = byteV l' j) : l[i] = l'[j] := by
  unfold byteV at h
  rw [dif_pos hi, dif_pos hj] at h
  exact UInt8.toNat_inj.1 (by omega)
theorem Agree.take (h : Agree l k l' k' n) {m : Nat} (hm : m ≤ n) : (l'.drop k').take m = (l.drop k).take m := by
  have ha := h.a
  have hb := h.b
  apply List.ext_getElem
  · simp; omega
  · intro i h1 h2
    simp at h1 h2 ⊢
    exact (byteV_inj (by omega) (by omega) (h.e i (by omega))).symm

/-! ### digits -/
theorem digF_mono : ∀ (f f' : Nat) (l : List UInt8) (base : Int) (k : Nat) (b : Bool) (r : List Int × Nat), f ≤ f' → digF f l base k b = some r → digF f' l base k b = some r
  | 0, _, _, _, _, _, _, _, h => by simp [digF] at h
  | f + 1, 0, _, _, _, _, _, hf, _ => by omega
  | f + 1, f' + 1, l, base, k, b, r, hf, h => by
    unfold digF at h ⊢
    split at h
    · rename_i hd
      rw [if_pos hd]
      split at h
      · rename_i ds e he
        rw [digF_mono f f' l base (k + 1) true _ (by omega) he]
        exact h
      · cases h
    · rename_i hd
      rw [if_neg hd]
      split at h
      · rename_i hu
        rw [if_pos hu]
        exact digF_mono f f' l base (k + 1) false _ (by omega) h
      · rename_i hu
        rw [if_neg hu]
        exact h
theorem digF_ge : ∀ (f : Nat) (l : List UInt8) (base : Int) (k : Nat) (b : Bool) (r : List Int × Nat), digF f l base k b = some r → k ≤ r.2 ∧ (digitV (byteV l k) < base → k < r.2)
  | 0, _, _, _, _, _, h => by simp [digF] at h
  | f + 1, l, base, k, b, r, h => by
    unfold digF at h
    split at h
    · split at h
      · rename_i ds e he
        have := (digF_ge f l base (k + 1) true _ he).1
        have e2 := Option.some.inj h
        rw [← e2]
        simp only at this ⊢
        omega
      · cases h
    · rename_i hd
      split at h
      · have := (digF_ge f l base (k + 1) false _ h).1
        omega
      · have e2 := Option.some.inj h
        rw [← e2]
        exact ⟨Nat.le_refl _, fun h => absurd h hd⟩
theorem digF_loc (base : Int) (hb : base ≤ 16) : ∀ (f n k k' m : Nat) (b : Bool) (ds : List Int), Agree l k l' k' n → digF f l base k b = some (ds, k + m) → m ≤ n → digF f l' base k' b = some (ds, k' + m)
  | 0, _, _, _, _, _, _, _, h, _ => by simp [digF] at h
  | f + 1, n, k, k', m, b, ds, h, hF, hm => by
    have hge := digF_ge _ _ _ _ _ _ hF
    unfold digF at hF ⊢
    split at hF
    · rename_i hd
      have hm1 := hge.2 hd
      simp only at hm1
      have h0 := h.first (by omega)
      rw [← h0, if_pos hd]
      split at hF
      · rename_i ds2 e he
        have e1 := Option.some.inj hF
        have e2 := congrArg Prod.snd e1
        have e3 := congrArg Prod.fst e1
        simp only at e2 e3
        subst e3
        have ih := digF_loc base hb f (n - 1) (k + 1) (k' + 1) (m - 1) true ds2 (h.at (j := 1) (by omega)) (by rw [he]; congr 2; omega) (by omega)
        rw [ih]
        simp only
        congr 2
        omega
      · cases hF
    · rename_i hd
      have hd' : ¬ digitV (byteV l' k') < base := by
        have := h.no (p := fun c => decide (digitV c < base)) (fun c hc => by simp [stop_digitV hc]; omega) (i := 0) (Nat.zero_le _) (by simpa using hd)
        simpa using this
      rw [if_neg hd']
      split at hF
      · rename_i hu
        have g := (digF_ge _ _ _ _ _ _ hF).2 hu.2.2
        simp only at g
        have b0 := h.first (by omega)
        have b1 := h.e 1 (by omega)
        rw [if_pos ⟨by rw [← b0]; exact hu.1, hu.2.1, by rw [← b1]; exact hu.2.2⟩]
        rw [digF_loc base hb f (n - 1) (k + 1) (k' + 1) (m - 1) false ds (h.at (j := 1) (by omega)) (by rw [hF]; congr 2; omega) (by omega)]
        congr 2
        omega
      · rename_i hu
        have e1 := Option.some.inj hF
        have e2 := congrArg Prod.snd e1
        have e3 := congrArg Prod.fst e1
        simp only at e2 e3
        subst e3
        rw [if_neg]
        · congr 2
          omega
        · rintro ⟨u1, u2, u3⟩
          obtain ⟨v1, v2⟩ := h.isEq (q := 95) (by decide) (i := 0) (Nat.zero_le _) (by simpa using u1)
          obtain ⟨w1, w2⟩ := h.yes (p := fun c => decide (digitV c < base)) (fun c hc => by simp [stop_digitV hc]; omega) (i := 1) (by omega) (by simpa using u3)
          exact hu ⟨v2, u2, by simpa using w2⟩
theorem runD_loc (base : Int) (hb : base ≤ 16) (h : Agree l k l' k' n) {m : Nat} (hr : (runD l base k).2 = k + m) (hm : m ≤ n) : runD l' base k' = ((runD l base k).1, k' + m) := by
  have ha := h.a
  have hbb := h.b
  have d1 := (runD_some l base k hb (by omega)).1
  have d2 := (runD_some l' base k' hb (by omega)).1
  rw [hr] at d1
  have d3 := digF_loc base hb _ n k k' m false _ h d1 hm
  have m2 := digF_mono _ (l.length + l'.length + 1) _ _ _ _ _ (by omega) d2
  have m3 := digF_mono _ (l.length + l'.length + 1) _ _ _ _ _ (by omega) d3
  rw [m3] at m2
  have e := Option.some.inj m2
  exact e.symm
theorem runD_ge' (l : List UInt8) (base : Int) (hb : base ≤ 16) (k : Nat) (hk : k ≤ l.length) : k ≤ (runD l base k).2 ∧ (digitV (byteV l k) < base → k < (runD l base k).2) := by
  have d1 := (runD_some l base k hb hk).1
  have := digF_ge _ _ _ _ _ _ d1
  exact this
end

section
variable {l l' : List UInt8} {k k' n : Nat}

/-! ### prefixes of two bytes -/
theorem pre_byte (l : List UInt8) (k : Nat) (a b : UInt8) : hasPre (l.drop k) [a, b] = true ↔ k + 2 ≤ l.length ∧ byteV l k = (a.toNat : Int) ∧ byteV l (k + 1) = (b.toNat : Int) := by
  unfold hasPre
  rw [List.isPrefixOf_iff_prefix]
  constructor
  · intro h
    have hl := h.length_le
    simp at hl
    have g0 := h.getElem (i := 0) (by simp)
    have g1 := h.getElem (i := 1) (by simp)
    simp at g0 g1
    unfold byteV
    rw [dif_pos (by omega), dif_pos (by omega), ← g0, ← g1]
    exact ⟨by omega, rfl, rfl⟩
  · rintro ⟨h1, h2, h3⟩
    unfold byteV at h2 h3
    rw [dif_pos (by omega)] at h2 h3
    have e2 : l[k] = a := UInt8.toNat_inj.1 (by omega)
    have e3 : l[k + 1] = b := UInt8.toNat_inj.1 (by omega)
    rw [List.drop_eq_getElem_cons (by omega), List.drop_eq_getElem_cons (by omega), e2, e3]
    exact ⟨_, rfl⟩
theorem Agree.pre (h : Agree l k l' k' n) {a b : UInt8} (hp : hasPre (l.drop k) [a, b] = true) (hn : 2 ≤ n) : hasPre (l'.drop k') [a, b] = true := by
  obtain ⟨h1, h2, h3⟩ := (pre_byte _ _ _ _).1 hp
  refine (pre_byte _ _ _ _).2 ⟨by have := h.b; omega, ?_, ?_⟩
  · rw [← h.first (by omega)]; exact h2
  · rw [← h.e 1 (by omega)]; exact h3
theorem Agree.noPre (h : Agree l k l' k' n) {a b : UInt8} (ha : stopC (a.toNat : Int) = false) (hb : stopC (b.toNat : Int) = false) (hp : hasPre (l.drop k) [a, b] = false) : hasPre (l'.drop k') [a, b] = false := by
  cases hq : hasPre (l'.drop k') [a, b] with
  | false => rfl
  | true =>
    obtain ⟨h1, h2, h3⟩ := (pre_byte _ _ _ _).1 hq
    obtain ⟨i1, e1⟩ := h.isEq ha (i := 0) (Nat.zero_le _) (by simpa using h2)
    obtain ⟨i2, e2⟩ := h.isEq hb (i := 1) (by omega) (by simpa using h3)
    rw [← hp]
    exact ((pre_byte _ _ _ _).2 ⟨by have := h.a; omega, by simpa using e1, e2⟩).symm

/-! ### numbers -/
theorem expF_loc (h : Agree l k l' k' n) (t : List UInt8) {m : Nat} (hr : (expF l t k).2.2 = k + m) (hm : m ≤ n) : expF l' t k' = ((expF l t k).1, (expF l t k).2.1, k' + m) := by
  have ha := h.a
  unfold expF at hr ⊢
  split at hr
  · rename_i he
    rw [if_pos he]
    split at hr
    · rename_i h1
      rw [if_pos h1]
      have h1' := byteV_in (l := l) (k := k + 1) (by omega)
      simp only at hr ⊢
      have g := (runD_ge' l 10 (by decide) (k + 2) (by omega)).1
      have e0 := h.first (by omega)
      have e1 := h.e 1 (by omega)
      rw [if_pos (by rw [← e0]; exact he), if_pos (by rw [← e1]; exact h1)]
      rw [runD_loc 10 (by decide) (h.at (j := 2) (by omega)) (m := m - 2) (by omega) (by omega)]
      simp only
      congr 2
      omega
    · rename_i h1
      rw [if_neg h1]
      split at hr
      · rename_i h2
        rw [if_pos h2]
        have h1' := byteV_in (l := l) (k := k + 1) (by omega)
        simp only at hr ⊢
        have g := (runD_ge' l 10 (by decide) (k + 2) (by omega)).1
        have e0 := h.first (by omega)
        have e1 := h.e 1 (by omega)
        rw [if_pos (by rw [← e0]; exact he), if_neg (by rw [← e1]; exact h1), if_pos (by rw [← e1]; exact h2)]
        rw [runD_loc 10 (by decide) (h.at (j := 2) (by omega)) (m := m - 2) (by omega) (by omega)]
        simp only
        congr 2
        omega
      · rename_i h2
        rw [if_neg h2]
        have hk : k < l.length := byteV_in (fun e => by rw [e] at he; revert he; decide)
        simp only at hr ⊢
        have g := (runD_ge' l 10 (by decide) (k + 1) (by omega)).1
        have e0 := h.first (by omega)
        rw [if_pos (by rw [← e0]; exact he), if_neg, if_neg]
        · rw [runD_loc 10 (by decide) (h.at (j := 1) (by omega)) (m := m - 1) (by omega) (by omega)]
          simp only
          congr 2
          omega
        · intro q; exact h2 (h.isEq (q := 45) (by decide) (i := 1) (by omega) q).2
        · intro q; exact h1 (h.isEq (q := 43) (by decide) (i := 1) (by omega) q).2
  · rename_i he
    rw [if_neg he]
    simp only at hr ⊢
    obtain rfl : m = 0 := by omega
    have := h.no (p := eB) (fun _ => stop_eB) (i := 0) (Nat.zero_le _) (by simpa using he)
    rw [if_neg (by simpa using this)]
    rfl
theorem expF_ge (l t : List UInt8) (k : Nat) (_ : k ≤ l.length) : k ≤ (expF l t k).2.2 := by
  unfold expF
  split
  · rename_i he
    have hk : k < l.length := byteV_in (fun e => by rw [e] at he; revert he; decide)
    split
    · rename_i h1
      have h1' := byteV_in (l := l) (k := k + 1) (by omega)
      have g := (runD_ge' l 10 (by decide) (k + 2) (by omega)).1
      simp only; omega
    · split
      · rename_i h1
        have h1' := byteV_in (l := l) (k := k + 1) (by omega)
        have g := (runD_ge' l 10 (by decide) (k + 2) (by omega)).1
        simp only; omega
      · have g := (runD_ge' l 10 (by decide) (k + 1) (by omega)).1
        simp only; omega
  · exact Nat.le_refl _
theorem digitB_V {c : Int} (h : digitB c = true) : digitV c < 10 := by
  unfold digitB at h
  simp at h
  unfold digitV
  rw [if_pos h]
  omega
theorem decF_loc (h : Agree l k l' k' n) {m : Nat} (hr : (decF l k).2.2.2 = k + m) (hm : m ≤ n) : decF l' k' = ((decF l k).1, (decF l k).2.1, (decF l k).2.2.1, k' + m) := by
  have ha := h.a
  have hk : k ≤ l.length := by omega
  have g0 := (runD_ge' l 10 (by decide) k hk).1
  have s0 := (runD_some l 10 k (by decide) hk).2.1
  obtain ⟨a, hA⟩ : ∃ a, (runD l 10 k).2 = k + a := ⟨(runD l 10 k).2 - k, by omega⟩
  have am : a ≤ m ∧ (byteV l (k + a) = 46 ∧ digitB (byteV l (k + a + 1)) = true → a + 2 ≤ m) ∧ (eB (byteV l (k + a)) = true → a + 1 ≤ m) := by
    unfold decF at hr
    rw [hA] at hr
    split at hr
    · rename_i hp
      have h1 := byteV_in (l := l) (k := k + a) (by omega)
      have h2 := byteV_in (l := l) (k := k + a + 1) (fun e => by have := hp.2; rw [e] at this; revert this; decide)
      have g1 := (runD_ge' l 10 (by decide) (k + a + 1) (by omega)).2 (digitB_V hp.2)
      have s1 := (runD_some l 10 (k + a + 1) (by decide) (by omega)).2.1
      have g2 := expF_ge l (runL (runD l 10 k).1 ++ 46 :: runL (runD l 10 (k + a + 1)).1) (runD l 10 (k + a + 1)).2 s1
      simp only at hr
      omega
    · rename_i hp
      split at hr
      · rename_i he
        have g2 := expF_ge l (runL (runD l 10 k).1) (k + a) (by omega)
        have g3 : k + a < (expF l (runL (runD l 10 k).1) (k + a)).2.2 := by
          unfold expF
          rw [if_pos he]
          have hk : k + a < l.length := byteV_in (fun e => by rw [e] at he; revert he; decide)
          split
          · rename_i h1
            have h1' := byteV_in (l := l) (k := k + a + 1) (by omega)
            have g := (runD_ge' l 10 (by decide) (k + a + 2) (by omega)).1
            simp only; omega
          · split
            · rename_i h1
              have h1' := byteV_in (l := l) (k := k + a + 1) (by omega)
              have g := (runD_ge' l 10 (by decide) (k + a + 2) (by omega)).1
              simp only; omega
            · have g := (runD_ge' l 10 (by decide) (k + a + 1) (by omega)).1
              simp only; omega
        simp only at hr
        exact ⟨by omega, fun q => absurd q hp, fun _ => by omega⟩
      · rename_i he
        simp only at hr
        exact ⟨by omega, fun q => absurd q hp, fun q => absurd q he⟩
  have R := runD_loc 10 (by decide) h hA (by omega)
  unfold decF at hr ⊢
  rw [hA] at hr
  rw [R, hA]
  simp only at hr ⊢
  have hat := h.at (j := a) (by omega)
  by_cases hp : byteV l (k + a) = 46 ∧ digitB (byteV l (k + a + 1)) = true
  · rw [if_pos hp] at hr ⊢
    have b := am.2.1 hp
    have e0 := h.e a (by omega)
    have e1 := h.e (a + 1) (by omega)
    rw [if_pos (by rw [← e0]; exact ⟨hp.1, by have := hp.2; rwa [Nat.add_assoc, e1, ← Nat.add_assoc] at this⟩)]
    have s1 := (runD_some l 10 (k + a + 1) (by decide) (by omega)).2.1
    have g1 := (runD_ge' l 10 (by decide) (k + a + 1) (by omega)).1
    obtain ⟨c, hC⟩ : ∃ c, (runD l 10 (k + a + 1)).2 = k + a + 1 + c := ⟨(runD l 10 (k + a + 1)).2 - (k + a + 1), by omega⟩
    have g2 := expF_ge l (runL (runD l 10 k).1 ++ 46 :: runL (runD l 10 (k + a + 1)).1) (runD l 10 (k + a + 1)).2 s1
    simp only at hr
    have R2 := runD_loc 10 (by decide) (hat.at (j := 1) (by omega)) (m := c) hC (by omega)
    rw [R2]
    simp only
    rw [hC] at hr g2 ⊢
    have E := expF_loc ((hat.at (j := 1) (by omega)).at (j := c) (by omega)) (runL (runD l 10 k).1 ++ 46 :: runL (runD l 10 (k + a + 1)).1) (m := m - a - 1 - c) (by omega) (by omega)
    rw [E, show k' + a + 1 + c + (m - a - 1 - c) = k' + m by omega]
  · rw [if_neg hp] at hr ⊢
    have hp' : ¬ (byteV l' (k' + a) = 46 ∧ digitB (byteV l' (k' + a + 1)) = true) := by
      rintro ⟨u1, u2⟩
      obtain ⟨v1, v2⟩ := h.isEq (q := 46) (by decide) (i := a) (by omega) u1
      obtain ⟨w1, w2⟩ := h.yes (p := digitB) (fun _ => stop_digitB) (i := a + 1) (by omega) (by rw [← Nat.add_assoc]; exact u2)
      exact hp ⟨v2, by rw [Nat.add_assoc]; exact w2⟩
    rw [if_neg hp']
    by_cases he : eB (byteV l (k + a)) = true
    · rw [if_pos he] at hr ⊢
      have b := am.2.2 he
      rw [if_pos (by rw [← h.e a (by omega)]; exact he)]
      simp only at hr ⊢
      have E := expF_loc hat (runL (runD l 10 k).1) (m := m - a) (by omega) (by omega)
      rw [E, show k' + a + (m - a) = k' + m by omega]
    · rw [if_neg he] at hr ⊢
      have := h.no (p := eB) (fun _ => stop_eB) (i := a) (by omega) (by simpa using he)
      rw [if_neg (by simpa using this)]
      simp only at hr ⊢
      congr 4
      omega
theorem intF_loc (base : Nat) (hb : base ≤ 16) (h : Agree l k l' k' n) {m : Nat} (hr : (intF l base k).2.2.2 = k + m) (hm : m ≤ n) : intF l' base k' = ((intF l base k).1, (intF l base k).2.1, (intF l base k).2.2.1, k' + m) := by
  unfold intF at hr ⊢
  rw [runD_loc (base : Int) (by omega) h hr hm]
theorem rawF_loc (h : Agree l k l' k' n) {m : Nat} (hr : (rawF l k).2.2.2 = k + m) (hm : m ≤ n) : rawF l' k' = ((rawF l k).1, (rawF l k).2.1, (rawF l k).2.2.1, k' + m) := by
  have ha := h.a
  unfold rawF at hr ⊢
  split at hr
  · rename_i hp
    rw [if_pos hp]
    have h2 := hasPre_two _ _ _ _ hp
    have g := (runD_ge' l (16 : Nat) (by decide) (k + 2) (by omega)).1
    have g' : k + 2 ≤ (intF l 16 (k + 2)).2.2.2 := g
    rw [if_pos (h.pre hp (by omega)), intF_loc 16 (by decide) (h.at (j := 2) (by omega)) (m := m - 2) (by omega) (by omega), show k' + 2 + (m - 2) = k' + m by omega]
  · rename_i hp
    rw [if_neg hp, if_neg (by rw [h.noPre (by decide) (by decide) (by simpa using hp)]; decide)]
    split at hr
    · rename_i hp
      rw [if_pos hp]
      have h2 := hasPre_two _ _ _ _ hp
      have g := (runD_ge' l (2 : Nat) (by decide) (k + 2) (by omega)).1
      have g' : k + 2 ≤ (intF l 2 (k + 2)).2.2.2 := g
      rw [if_pos (h.pre hp (by omega)), intF_loc 2 (by decide) (h.at (j := 2) (by omega)) (m := m - 2) (by omega) (by omega), show k' + 2 + (m - 2) = k' + m by omega]
    · rename_i hp
      rw [if_neg hp, if_neg (by rw [h.noPre (by decide) (by decide) (by simpa using hp)]; decide)]
      exact decF_loc h hr hm
theorem numF_loc (h : Agree l k l' k' n) {m a : Nat} {t : List UInt8} (hr : numF l k = some (a, t, k + m)) (hm : m ≤ n) : numF l' k' = some (a, t, k' + m) := by
  unfold numF at hr ⊢
  split at hr
  · rename_i hc
    have e := Option.some.inj hr
    have e1 := congrArg Prod.fst e
    have e2 := congrArg (fun x => x.2.1) e
    have e3 := congrArg (fun x => x.2.2) e
    simp only at e1 e2 e3
    have R := rawF_loc h e3 hm
    rw [R]
    simp only
    rw [if_pos, e1, e2]
    refine ⟨hc.1, h.no (p := wordB) (fun _ => stop_word) hm ?_⟩
    have := hc.2
    rwa [e3] at this
  · cases hr
end

section
variable {l l' : List UInt8} {k k' n : Nat}

/-! ### characters of literals -/
theorem codF_loc : ∀ (c n k k' r m : Nat) (v : Nat), Agree l k l' k' n → codF c l k r = some (v, k + m) → m ≤ n → codF c l' k' r = some (v, k' + m)
  | 0, n, k, k', r, m, v, h, hF, hm => by
    unfold codF at hF ⊢
    have e := Option.some.inj hF
    have e1 := congrArg Prod.fst e
    have e2 := congrArg Prod.snd e
    simp only at e1 e2
    rw [e1, show k' + m = k' by omega]
  | c + 1, n, k, k', r, m, v, h, hF, hm => by
    have hge := (codF_le _ _ _ _ _ hF).1
    simp only at hge
    unfold codF at hF ⊢
    split at hF
    · cases hF
    · rename_i hd
      have h0 := h.first (by omega)
      rw [← h0, if_neg hd]
      have ih := codF_loc c (n - 1) (k + 1) (k' + 1) _ (m - 1) v (h.at (j := 1) (by omega)) (by rw [hF]; congr 2; omega) (by omega)
      rw [ih]
      congr 2
      omega
theorem codOk_loc {most : Nat} {c v m r : Nat} (h : Agree l k l' k' n) (hF : codOk most (codF c l k r) = some (v, k + m)) (hm : m ≤ n) : codOk most (codF c l' k' r) = some (v, k' + m) := by
  obtain ⟨e, -⟩ := codOk_some hF
  rw [codF_loc c n k k' r m v h e hm]
  rw [e] at hF
  unfold codOk at hF ⊢
  simp only at hF ⊢
  split at hF
  · cases hF
  · rename_i hc
    rw [if_neg hc]
theorem escF_loc (h : Agree l k l' k' n) {v m : Nat} (hF : escF l k = some (v, k + m)) (hm : m ≤ n) : escF l' k' = some (v, k' + m) := by
  have h2 : 2 ≤ m := by
    unfold escF at hF
    repeat' split at hF
    all_goals first
      | (have e := congrArg Prod.snd (Option.some.inj hF); simp only at e; omega)
      | (obtain ⟨e, -⟩ := codOk_some hF; have := (codF_le _ _ _ _ _ e).1; simp only at this; omega)
      | cases hF
  have h1 := h.e 1 (by omega)
  have hat := h.at (j := 2) (by omega)
  unfold escF at hF ⊢
  rw [← h1]
  repeat' split at hF
  all_goals first
    | (cases hF; done)
    | (rename_i hc
       rw [hc]
       have e := Option.some.inj hF
       have e1 := congrArg Prod.fst e
       have e2 := congrArg Prod.snd e
       simp only at e1 e2
       rw [← e1, show k' + m = k' + 2 by omega]
       rfl)
    | (rename_i hc
       rw [show k + m = k + 2 + (m - 2) by omega] at hF
       have E := codOk_loc hat hF (by omega)
       rw [hc, show k' + m = k' + 2 + (m - 2) by omega, ← E]
       rfl)
theorem getD_byte (l : List UInt8) (k i : Nat) : ((l.drop k).getD i 0).toNat = if k + i < l.length then (byteV l (k + i)).toNat else 0 := by
  simp only [List.getD, List.getElem?_drop]
  split
  · rename_i h
    rw [List.getElem?_eq_getElem h]
    unfold byteV
    rw [dif_pos h]
    simp
  · rename_i h
    rw [List.getElem?_eq_none (by omega)]
    rfl
theorem decode_loc (h : Agree l k l' k' n) (hok : ¬ ((Lib.decodeL (l.drop k)).1 = 65533 ∧ (Lib.decodeL (l.drop k)).2 = 1)) (hn : 0 < n) (hm : (Lib.decodeL (l.drop k)).2 ≤ n) : Lib.decodeL (l'.drop k') = Lib.decodeL (l.drop k) := by
  have ha := h.a
  have hb := h.b
  have g0 : ((l'.drop k').getD 0 0).toNat = ((l.drop k).getD 0 0).toNat := by
    rw [getD_byte, getD_byte, if_pos (by omega), if_pos (by omega), h.e 0 hn]
  have gs : ∀ i, i < n → ((l'.drop k').getD i 0).toNat = ((l.drop k).getD i 0).toNat := fun i hi => by
    rw [getD_byte, getD_byte, if_pos (by omega), if_pos (by omega), h.e i hi]
  rw [Lib.decodeL_N (l.drop k)] at hok hm ⊢
  rw [Lib.decodeL_N (l'.drop k'), List.length_drop, List.length_drop]
  rw [List.length_drop] at hok hm
  have g1 := gs 1
  have g2 := gs 2
  have g3 := gs 3
  rw [g0]
  have ha2 : n ≤ l.length - k := by omega
  have hb2 : n ≤ l'.length - k' := by omega
  generalize ((l.drop k).getD 0 0).toNat = b0 at *
  generalize ((l.drop k).getD 1 0).toNat = b1 at *
  generalize ((l.drop k).getD 2 0).toNat = b2 at *
  generalize ((l.drop k).getD 3 0).toNat = b3 at *
  generalize ((l'.drop k').getD 1 0).toNat = c1 at *
  generalize ((l'.drop k').getD 2 0).toNat = c2 at *
  generalize ((l'.drop k').getD 3 0).toNat = c3 at *
  generalize l.length - k = L at *
  generalize l'.length - k' = L' at *
  clear ha hb gs g0 h
  generalize hr : Lib.decodeN L b0 b1 b2 b3 = r at *
  unfold Lib.decodeN at hr ⊢
  split at hr
  · rename_i h0
    rw [if_pos h0, ← hr]
  rename_i h0
  rw [if_neg h0]
  split at hr
  · rename_i h1
    split at hr
    · rename_i h2
      subst hr
      have e1 := g1 (by simp only at hm; omega)
      subst e1
      simp only at hm
      rw [if_pos ⟨h1.1, by omega, h1.2.2⟩, if_pos h2]
    · exact absurd (by subst hr; exact ⟨rfl, rfl⟩) hok
  split at hr
  · rename_i h1
    split at hr
    · rename_i h2
      subst hr
      have e1 := g1 (by simp only at hm; omega)
      have e2 := g2 (by simp only at hm; omega)
      subst e1 e2
      simp only at hm
      rw [if_neg (by omega), if_pos ⟨h1.1, ⟨by omega, h1.2.1.2⟩, by omega, h1.2.2.2⟩, if_pos h2]
    · exact absurd (by subst hr; exact ⟨rfl, rfl⟩) hok
  split at hr
  · rename_i h1
    split at hr
    · rename_i h2
      subst hr
      have e1 := g1 (by simp only at hm; omega)
      have e2 := g2 (by simp only at hm; omega)
      have e3 := g3 (by simp only at hm; omega)
      subst e1 e2 e3
      simp only at hm
      rw [if_neg (by omega), if_neg (by omega), if_pos ⟨h1.1, ⟨by omega, h1.2.1.2⟩, ⟨by omega, h1.2.2.1.2⟩, by omega, h1.2.2.2.2⟩, if_pos h2]
    · exact absurd (by subst hr; exact ⟨rfl, rfl⟩) hok
  · exact absurd (by subst hr; exact ⟨rfl, rfl⟩) hok
theorem symF_loc (h : Agree l k l' k' n) {v m : Nat} (hF : symF l k = some (v, k + m)) (hm : m ≤ n) : symF l' k' = some (v, k' + m) := by
  have hle := symF_le _ _ _ hF
  simp only at hle
  have h0 := h.first (by omega)
  have hb := h.b
  unfold symF at hF ⊢
  rw [if_neg (by omega), ← h0]
  split at hF
  · cases hF
  split at hF
  · cases hF
  rename_i h1
  rw [if_neg h1]
  split at hF
  · rename_i h2
    rw [if_pos h2]
    exact escF_loc h hF hm
  rename_i h2
  rw [if_neg h2]
  split at hF
  · cases hF
  rename_i h3
  have e := Option.some.inj hF
  have e1 := congrArg Prod.fst e
  have e2 := congrArg Prod.snd e
  simp only at e1 e2
  rw [decode_loc h h3 (by omega) (by omega), if_neg h3, e1, show (Lib.decodeL (l.drop k)).2 = m by omega]
theorem strG_mono : ∀ (f f' : Nat) (l : List UInt8) (p : Nat) (out : List UInt8) (R : Option (List UInt8 × Nat)), f ≤ f' → strG f l p out = some R → strG f' l p out = some R
  | 0, _, _, _, _, _, _, h => by simp [strG] at h
  | f + 1, 0, _, _, _, _, hf, _ => by omega
  | f + 1, f' + 1, l, p, out, R, hf, h => by
    unfold strG at h ⊢
    split at h
    · rename_i h1
      rw [if_pos h1]
      exact h
    · rename_i h1
      rw [if_neg h1]
      split at h
      · exact h
      · exact strG_mono f f' l _ _ R (by omega) h
theorem strG_gt : ∀ (n : Nat) (l : List UInt8) (p : Nat) (out : List UInt8) (x : List UInt8 × Nat), strG n l p out = some (some x) → p < x.2
  | 0, _, _, _, _, h => by simp [strG] at h
  | n + 1, l, p, out, x, h => by
    unfold strG at h
    split at h
    · have e := Option.some.inj (Option.some.inj h)
      rw [← e]
      simp only
      omega
    · split at h
      · cases h
      · rename_i y hy
        have h1 := (symF_le _ _ _ hy).2.1
        have := strG_gt n l y.2 _ x h
        omega
theorem strG_loc : ∀ (f n k k' m : Nat) (out t : List UInt8), Agree l k l' k' n → strG f l k out = some (some (t, k + m)) → m ≤ n → strG f l' k' out = some (some (t, k' + m))
  | 0, _, _, _, _, _, _, _, h, _ => by simp [strG] at h
  | f + 1, n, k, k', m, out, t, h, hF, hm => by
    have hg := strG_gt _ _ _ _ _ hF
    simp only at hg
    have h0 := h.first (by omega)
    unfold strG at hF ⊢
    rw [← h0]
    split at hF
    · rename_i h1
      rw [if_pos h1]
      have e := Option.some.inj (Option.some.inj hF)
      have e1 := congrArg Prod.fst e
      have e2 := congrArg Prod.snd e
      simp only at e1 e2
      rw [e1, show m = 1 by omega]
    · rename_i h1
      rw [if_neg h1]
      split at hF
      · cases hF
      · rename_i x hx
        obtain ⟨a, b⟩ := x
        have hle := symF_le _ _ _ hx
        simp only at hle hF
        have hg2 := strG_gt _ _ _ _ _ hF
        simp only at hg2
        obtain ⟨c, rfl⟩ : ∃ c, b = k + c := ⟨b - k, by omega⟩
        rw [symF_loc h hx (by omega)]
        simp only
        have ih := strG_loc f (n - c) (k + c) (k' + c) (m - c) _ t (h.at (by omega)) (by rw [hF, show k + c + (m - c) = k + m by omega]) (by omega)
        rw [ih, show k' + c + (m - c) = k' + m by omega]
theorem chrF_loc (h : Agree l k l' k' n) {v m : Nat} (hF : chrF l k = .inl (v, k + m)) (hm : m ≤ n) : chrF l' k' = .inl (v, k' + m) := by
  unfold chrF at hF ⊢
  split at hF
  · cases hF
  rename_i h1
  split at hF
  · cases hF
  rename_i x hx
  obtain ⟨a, b⟩ := x
  have hle := symF_le _ _ _ hx
  simp only at hle hF
  split at hF
  · cases hF
  rename_i h2
  split at hF
  · cases hF
  rename_i h3
  have e := Sum.inl.inj hF
  have e1 := congrArg Prod.fst e
  have e2 := congrArg Prod.snd e
  simp only at e1 e2
  obtain ⟨c, rfl⟩ : ∃ c, b = k + 1 + c := ⟨b - (k + 1), by omega⟩
  rw [← h.e 1 (by omega), if_neg h1, symF_loc (h.at (j := 1) (by omega)) (m := c) hx (by omega)]
  simp only
  have h4 := h.e (1 + c) (by omega)
  rw [← Nat.add_assoc, ← Nat.add_assoc] at h4
  rw [← h4, if_neg h2]
  have h5 := h.no (p := wordB) (fun _ => stop_word) (i := m) hm (by rw [← e2]; simpa using h3)
  rw [show k' + 1 + c + 1 = k' + m by omega, if_neg (by rw [h5]; decide), e1]
end


section
variable {l l' : List UInt8} {k k' n : Nat}

theorem pre3_byte (l : List UInt8) (k : Nat) (a b c : UInt8) : hasPre (l.drop k) [a, b, c] = true ↔ k + 3 ≤ l.length ∧ byteV l k = (a.toNat : Int) ∧ byteV l (k + 1) = (b.toNat : Int) ∧ byteV l (k + 2) = (c.toNat : Int) := by
  unfold hasPre
  rw [List.isPrefixOf_iff_prefix]
  constructor
  · intro h
    have hl := h.length_le
    simp at hl
    have g0 := h.getElem (i := 0) (by simp)
    have g1 := h.getElem (i := 1) (by simp)
    have g2 := h.getElem (i := 2) (by simp)
    simp at g0 g1 g2
    unfold byteV
    rw [dif_pos (by omega), dif_pos (by omega), dif_pos (by omega), ← g0, ← g1, ← g2]
    exact ⟨by omega, rfl, rfl, rfl⟩
  · rintro ⟨h1, h2, h3, h4⟩
    unfold byteV at h2 h3 h4
    rw [dif_pos (by omega)] at h2 h3 h4
    have e2 : l[k] = a := UInt8.toNat_inj.1 (by omega)
    have e3 : l[k + 1] = b := UInt8.toNat_inj.1 (by omega)
    have e4 : l[k + 2] = c := UInt8.toNat_inj.1 (by omega)
    rw [List.drop_eq_getElem_cons (by omega), List.drop_eq_getElem_cons (by omega), List.drop_eq_getElem_cons (by omega), e2, e3, e4]
    exact ⟨_, rfl⟩
theorem Agree.pre3 (h : Agree l k l' k' n) {a b c : UInt8} (hp : hasPre (l.drop k) [a, b, c] = true) (hn : 3 ≤ n) : hasPre (l'.drop k') [a, b, c] = true := by
  obtain ⟨h1, h2, h3, h4⟩ := (pre3_byte _ _ _ _ _).1 hp
  refine (pre3_byte _ _ _ _ _).2 ⟨by have := h.b; omega, ?_, ?_, ?_⟩
  · rw [← h.first (by omega)]; exact h2
  · rw [← h.e 1 (by omega)]; exact h3
  · rw [← h.e 2 (by omega)]; exact h4
theorem Agree.noPre3 (h : Agree l k l' k' n) {a b c : UInt8} (ha : stopC (a.toNat : Int) = false) (hb : stopC (b.toNat : Int) = false) (hc : stopC (c.toNat : Int) = false) (hp : hasPre (l.drop k) [a, b, c] = false) : hasPre (l'.drop k') [a, b, c] = false := by
  cases hq : hasPre (l'.drop k') [a, b, c] with
  | false => rfl
  | true =>
    obtain ⟨h1, h2, h3, h4⟩ := (pre3_byte _ _ _ _ _).1 hq
    obtain ⟨i1, e1⟩ := h.isEq ha (i := 0) (Nat.zero_le _) (by simpa using h2)
    obtain ⟨i2, e2⟩ := h.isEq hb (i := 1) (by omega) (by simpa using h3)
    obtain ⟨i3, e3⟩ := h.isEq hc (i := 2) (by omega) (by simpa using h4)
    rw [← hp]
    exact ((pre3_byte _ _ _ _ _).2 ⟨by have := h.a; omega, by simpa using e1, e2, e3⟩).symm

/-! ### three quotes -/
theorem occ3 (l : List UInt8) (j i : Nat) : Lib.occAt (l.drop j) [34, 34, 34] i = hasPre (l.drop (j + i)) [34, 34, 34] := by
  unfold Lib.occAt hasPre
  rw [List.drop_drop]
theorem tripF_loc (h : Agree l k l' k' n) {t : List UInt8} {m : Nat} (hF : tripF l k = some (t, k + m)) (hm : m ≤ n) : tripF l' k' = some (t, k' + m) ∧ 6 ≤ m := by
  have ha := h.a
  have hb := h.b
  unfold tripF at hF
  split at hF
  · cases hF
  rename_i h1
  split at hF
  · cases hF
  rename_i h2
  have e := Option.some.inj hF
  have e1 := congrArg Prod.fst e
  have e2 := congrArg Prod.snd e
  simp only at e1 e2
  rcases Lib.index_spec (l.drop (k + 3)) [34, 34, 34] with ⟨g, -⟩ | ⟨i, g1, g2, g3, g4⟩
  · omega
  rw [g1] at e1 e2 h2
  simp only [Int.toNat_natCast] at e1 e2 h2
  obtain rfl : m = i + 6 := by omega
  have hat := h.at (j := 3) (by omega)
  have I : Lib.index (l'.drop (k' + 3)) [34, 34, 34] = i := by
    refine Lib.index_first (by simp; omega) ?_ ?_
    · rw [occ3] at g3 ⊢
      rw [Nat.add_assoc] at g3 ⊢
      exact (h.at (j := 3 + i) (by omega)).pre3 g3 (by omega)
    · intro j hj
      have := g4 j hj
      rw [occ3] at this ⊢
      rw [Nat.add_assoc] at this ⊢
      exact (h.at (j := 3 + j) (by omega)).noPre3 (by decide) (by decide) (by decide) this
  have T : (l'.drop (k' + 3)).take i = (l.drop (k + 3)).take i := hat.take (by omega)
  refine ⟨?_, by omega⟩
  unfold tripF
  rw [I, if_neg (by omega)]
  simp only [Int.toNat_natCast]
  rw [T, if_neg h2, e1]
  congr 2

/-! ### symbols -/
theorem sym_solid : (symBytes.all fun t => t.all fun c => !stopC (c.toNat : Int)) = true := by decide +kernel
theorem sym_alone : (symBytes.all fun t => !letterB (byteV t (t.length - 1)) || symBytes.all fun u => !u.isPrefixOf t || u == t) = true := by decide +kernel
theorem sym_full : (symBytes.all fun t => !t.isEmpty) = true := by decide +kernel

/-- A prefix without blanks is there where the bytes are. -/
theorem hasPre_byte (l : List UInt8) (k : Nat) : ∀ (t : List UInt8), hasPre (l.drop k) t = true ↔ k + t.length ≤ max k l.length ∧ ∀ i, (hi : i < t.length) → k + i < l.length ∧ byteV l (k + i) = (t[i].toNat : Int) := by
  intro t
  unfold hasPre
  rw [List.isPrefixOf_iff_prefix]
  constructor
  · intro h
    have hl := h.length_le
    simp at hl
    refine ⟨by omega, fun i hi => ⟨by omega, ?_⟩⟩
    have g := h.getElem hi
    simp at g
    unfold byteV
    rw [dif_pos (by omega), ← g]
  · rintro ⟨h1, h2⟩
    rw [List.prefix_iff_eq_take]
    apply List.ext_getElem
    · rcases Nat.eq_zero_or_pos t.length with h | h
      · rw [h]; simp
      · have := (h2 (t.length - 1) (by omega)).1
        simp; omega
    · intro i g1 g2
      obtain ⟨a, b⟩ := h2 i g1
      unfold byteV at b
      rw [dif_pos a] at b
      simp
      exact UInt8.toNat_inj.1 (by omega)
theorem Agree.preT (h : Agree l k l' k' n) {t : List UInt8} (hp : hasPre (l.drop k) t = true) (hn : t.length ≤ n) : hasPre (l'.drop k') t = true := by
  have hb := h.b
  rw [hasPre_byte] at hp ⊢
  refine ⟨by omega, fun i hi => ⟨by omega, ?_⟩⟩
  rw [← h.e i (by omega)]
  exact (hp.2 i hi).2
theorem Agree.preT' (h : Agree l k l' k' n) {t : List UInt8} (ht : t.all (fun c => !stopC (c.toNat : Int)) = true) (hp : hasPre (l'.drop k') t = true) : t.length ≤ n ∧ hasPre (l.drop k) t = true := by
  have ha := h.a
  rw [hasPre_byte] at hp ⊢
  have hlen : t.length ≤ n := by
    rcases Nat.lt_or_ge n t.length with g | g
    · have := (hp.2 n g).2
      have s := h.s
      rw [this] at s
      have := List.all_eq_true.1 ht t[n] (List.getElem_mem g)
      rw [s] at this
      cases this
    · exact g
  refine ⟨hlen, by omega, fun i hi => ⟨by omega, ?_⟩⟩
  rw [h.e i (by omega)]
  exact (hp.2 i hi).2
end

section
variable {l l' : List UInt8} {k k' n : Nat}

theorem symOf_all (l : List UInt8) (k : Nat) : symOf l k = symBytes.foldl (symStep l k) [] := by
  unfold symOf bestAt longestIn
  rw [List.take_of_length_le (by rw [sym_len]; decide)]
theorem best_facts (l : List UInt8) (k : Nat) : ∀ (ts : List (List UInt8)) (b : List UInt8),
    b.length ≤ (ts.foldl (symStep l k) b).length ∧ (ts.foldl (symStep l k) b = b ∨ (ts.foldl (symStep l k) b ∈ ts ∧ hasPre (l.drop k) (ts.foldl (symStep l k) b) = true ∧ goesOnB l k (ts.foldl (symStep l k) b) = false)) ∧
    ∀ t, t ∈ ts → hasPre (l.drop k) t = true → goesOnB l k t = false → t.length ≤ (ts.foldl (symStep l k) b).length
  | [], b => ⟨Nat.le_refl _, .inl rfl, fun t h => by cases h⟩
  | a :: ts, b => by
    have ih := best_facts l k ts (symStep l k b a)
    rw [List.foldl_cons]
    obtain ⟨h1, h2, h3⟩ := ih
    have hs : b.length ≤ (symStep l k b a).length ∧ (symStep l k b a = b ∨ (symStep l k b a = a ∧ hasPre (l.drop k) a = true ∧ goesOnB l k a = false)) ∧ (hasPre (l.drop k) a = true → goesOnB l k a = false → a.length ≤ (symStep l k b a).length) := by
      unfold symStep
      split
      · rename_i hc
        exact ⟨by omega, .inr ⟨rfl, hc.2⟩, fun _ _ => Nat.le_refl _⟩
      · rename_i hc
        refine ⟨Nat.le_refl _, .inl rfl, fun p q => ?_⟩
        rcases Nat.lt_or_ge b.length a.length with g | g
        · exact absurd ⟨g, p, q⟩ hc
        · exact g
    obtain ⟨s1, s2, s3⟩ := hs
    refine ⟨by omega, ?_, ?_⟩
    · rcases h2 with h2 | ⟨m1, m2, m3⟩
      · rw [h2]
        rcases s2 with s2 | ⟨q1, q2, q3⟩
        · exact .inl s2
        · rw [q1]; exact .inr ⟨List.mem_cons_self, q2, q3⟩
      · exact .inr ⟨List.mem_cons_of_mem _ m1, m2, m3⟩
    · intro t ht p q
      rcases List.mem_cons.1 ht with rfl | ht
      · have := s3 p q; omega
      · exact h3 t ht p q
theorem symStep_congr (ts : List (List UInt8)) (h : ∀ t, t ∈ ts → (hasPre (l'.drop k') t = true ∧ goesOnB l' k' t = false ↔ hasPre (l.drop k) t = true ∧ goesOnB l k t = false)) : ∀ b, ts.foldl (symStep l' k') b = ts.foldl (symStep l k) b := by
  induction ts with
  | nil => intro b; rfl
  | cons a ts ih =>
    intro b
    rw [List.foldl_cons, List.foldl_cons]
    have e : symStep l' k' b a = symStep l k b a := by
      unfold symStep
      have := h a List.mem_cons_self
      by_cases hc : hasPre (l.drop k) a = true ∧ goesOnB l k a = false
      · have hc' := this.2 hc
        by_cases hl : b.length < a.length
        · rw [if_pos ⟨hl, hc'⟩, if_pos ⟨hl, hc⟩]
        · rw [if_neg (fun q => hl q.1), if_neg (fun q => hl q.1)]
      · have hc' : ¬ (hasPre (l'.drop k') a = true ∧ goesOnB l' k' a = false) := fun q => hc (this.1 q)
        rw [if_neg (fun q => hc' q.2), if_neg (fun q => hc q.2)]
    rw [e]
    exact ih (fun t ht => h t (List.mem_cons_of_mem _ ht)) _
theorem symOf_loc (h : Agree l k l' k' n) (hne : symOf l k ≠ []) (hm : (symOf l k).length ≤ n) : symOf l' k' = symOf l k := by
  have ha := h.a
  have hb := h.b
  obtain ⟨-, b2, b3⟩ := best_facts l k symBytes []
  rw [symOf_all] at hne hm
  rw [symOf_all, symOf_all]
  obtain ⟨u, hu⟩ : ∃ u, symBytes.foldl (symStep l k) [] = u := ⟨_, rfl⟩
  rw [hu] at hne hm b2 b3
  rcases b2 with b2 | ⟨u1, u2, u3⟩
  · exact absurd b2 hne
  refine symStep_congr symBytes (fun t ht => ?_) []
  have hsol := List.all_eq_true.1 sym_solid t ht
  -- where a symbol is followed by the same byte
  have same : t.length < n → goesOnB l' k' t = goesOnB l k t := fun hn => by
    unfold goesOnB
    rw [h.e t.length hn, decide_eq_true (show k + t.length < l.length by omega), decide_eq_true (show k' + t.length < l'.length by omega)]
  constructor
  · rintro ⟨p, q⟩
    obtain ⟨hl, hp⟩ := h.preT' hsol p
    refine ⟨hp, ?_⟩
    rcases Nat.lt_or_eq_of_le hl with g | g
    · rw [← same g]; exact q
    · cases hg : goesOnB l k t with
      | false => rfl
      | true =>
        have hlet : letterB (byteV t (t.length - 1)) = true := by
          unfold goesOnB at hg
          simp at hg
          exact hg.1.1
        have hal := List.all_eq_true.1 sym_alone t ht
        rw [hlet] at hal
        simp only [Bool.not_true, Bool.false_or] at hal
        have hal2 := List.all_eq_true.1 hal u u1
        have hpre : u.isPrefixOf t = true := by
          rw [List.isPrefixOf_iff_prefix]
          unfold hasPre at hp u2
          rw [List.isPrefixOf_iff_prefix] at hp u2
          exact List.prefix_of_prefix_length_le u2 hp (by omega)
        rw [hpre] at hal2
        simp at hal2
        rw [← hal2, u3] at hg
        cases hg
  · rintro ⟨p, q⟩
    have hl := b3 t ht p q
    refine ⟨h.preT p (by omega), ?_⟩
    rcases Nat.lt_or_eq_of_le (show t.length ≤ n by omega) with g | g
    · rw [same g]; exact q
    · unfold goesOnB
      rw [g, stop_word h.s]
      simp

/-! ### tokens -/
theorem tokG_loc (h : Agree l k l' k' n) (hn : 0 < n) {c : Int} {t : List UInt8} {m : Nat} (hF : tokG l k = some (.inl (c, t, k + m))) (hm : m ≤ n) : tokG l' k' = some (.inl (c, t, k' + m)) := by
  have ha := h.a
  have hb := h.b
  have h0 := h.first hn
  unfold tokG at hF ⊢
  rw [← h0]
  split at hF
  · rename_i hd
    rw [if_pos hd]
    split at hF
    · rename_i x hx
      obtain ⟨x1, x2, x3⟩ := x
      have e := Sum.inl.inj (Option.some.inj hF)
      simp only [Prod.mk.injEq] at e
      obtain ⟨rfl, rfl, rfl⟩ := e
      rw [numF_loc h hx hm]
    · cases hF
  rename_i hd
  rw [if_neg hd]
  split at hF
  · rename_i hw
    rw [if_pos hw]
    have e := Sum.inl.inj (Option.some.inj hF)
    simp only [Prod.mk.injEq] at e
    obtain ⟨e1, e2, e3⟩ := e
    rw [wordEnd_loc h e3 hm, show k' + m - k' = m by omega, h.take hm]
    rw [e3, show k + m - k = m by omega] at e1 e2
    rw [e1, e2]
  rename_i hw
  rw [if_neg hw]
  split at hF
  · rename_i h34
    rw [if_pos h34]
    split at hF
    · rename_i hp
      split at hF
      · rename_i x hx
        obtain ⟨x1, x2⟩ := x
        have e := Sum.inl.inj (Option.some.inj hF)
        simp only [Prod.mk.injEq] at e
        obtain ⟨rfl, rfl, rfl⟩ := e
        obtain ⟨T, h6⟩ := tripF_loc h hx hm
        rw [if_pos (h.pre3 hp (by omega)), T]
      · cases hF
    · rename_i hp
      rw [if_neg (by rw [h.noPre3 (by decide) (by decide) (by decide) (by simpa using hp)]; decide)]
      split at hF
      · rename_i x hx
        obtain ⟨x1, x2⟩ := x
        have e := Sum.inl.inj (Option.some.inj hF)
        simp only [Prod.mk.injEq] at e
        obtain ⟨rfl, rfl, rfl⟩ := e
        have hg := strG_gt _ _ _ _ _ hx
        simp only at hg
        have S := strG_loc (l.length + 1) (n - 1) (k + 1) (k' + 1) (m - 1) [] x1 (h.at (j := 1) (by omega)) (by rw [hx, show k + 1 + (m - 1) = k + m by omega]) (by omega)
        rw [show k' + 1 + (m - 1) = k' + m by omega] at S
        obtain ⟨R, hR⟩ := strG_total (l'.length + 1) l' (k' + 1) [] (by omega) (by omega)
        have S1 := strG_mono _ (l.length + l'.length + 1) _ _ _ _ (by omega) S
        have S2 := strG_mono _ (l.length + l'.length + 1) _ _ _ _ (by omega) hR
        rw [S1] at S2
        rw [hR, ← Option.some.inj S2]
      · cases hF
      · cases hF
  rename_i h34
  rw [if_neg h34]
  split at hF
  · rename_i h39
    rw [if_pos h39]
    split at hF
    · rename_i x hx
      obtain ⟨x1, x2⟩ := x
      have e := Sum.inl.inj (Option.some.inj hF)
      simp only [Prod.mk.injEq] at e
      obtain ⟨rfl, rfl, rfl⟩ := e
      rw [chrF_loc h hx hm]
    · cases hF
  rename_i h39
  rw [if_neg h39]
  split at hF
  · cases hF
  · rename_i hne
    have e := Sum.inl.inj (Option.some.inj hF)
    simp only [Prod.mk.injEq] at e
    obtain ⟨rfl, rfl, e3⟩ := e
    have S := symOf_loc h hne (by omega)
    rw [S, if_neg hne]
    rw [show (symOf l k).length = m by omega]
end


/-- What 'blG' says with enough fuel. -/
def Bl (l : List UInt8) (k : Nat) (ln : Bool) (R : (Nat × Bool) ⊕ Nat) : Prop := ∃ g, blG g l k ln = some R
/-- No blank begins here, and no comment. -/
structure Stopped (l : List UInt8) (k : Nat) : Prop where
  lt : k < l.length
  nl : byteV l k ≠ 10
  bl : ¬ (byteV l k = 32 ∨ byteV l k = 9 ∨ byteV l k = 13)
  c1 : hasPre (l.drop k) [47, 47] = false
  c2 : hasPre (l.drop k) [47, 42] = false

section
variable {l l' : List UInt8} {k k' n : Nat}

theorem Stopped.is (h : Stopped l k) (ln : Bool) : Bl l k ln (.inl (k, ln)) := by
  refine ⟨1, ?_⟩
  have := h.lt
  unfold blG
  rw [if_neg (by omega), if_neg h.nl, if_neg h.bl, if_neg (by rw [h.c1]; decide), if_neg (by rw [h.c2]; decide)]
theorem Stopped.loc (h : Agree l k l' k' n) (hn : 0 < n) (hs : Stopped l k) : Stopped l' k' := by
  have hb := h.b
  have h0 := h.first hn
  exact ⟨by omega, by rw [← h0]; exact hs.nl, by rw [← h0]; exact hs.bl, h.noPre (by decide) (by decide) hs.c1, h.noPre (by decide) (by decide) hs.c2⟩
theorem Bl.nl (h : k < l.length) (hb : byteV l k = 10) {ln : Bool} {R : (Nat × Bool) ⊕ Nat} (hR : Bl l (k + 1) true R) : Bl l k ln R := by
  obtain ⟨g, hg⟩ := hR
  refine ⟨g + 1, ?_⟩
  unfold blG
  rw [if_neg (by omega), if_pos hb]
  exact hg
theorem Bl.blank (h : k < l.length) (hb : byteV l k = 32 ∨ byteV l k = 9 ∨ byteV l k = 13) {ln : Bool} {R : (Nat × Bool) ⊕ Nat} (hR : Bl l (k + 1) ln R) : Bl l k ln R := by
  obtain ⟨g, hg⟩ := hR
  refine ⟨g + 1, ?_⟩
  unfold blG
  rw [if_neg (by omega), if_neg (by omega), if_pos hb]
  exact hg
theorem pre_lt {a b : UInt8} (h : hasPre (l.drop k) [a, b] = true) : k + 2 ≤ l.length := ((pre_byte l k a b).1 h).1
theorem Bl.line (hp : hasPre (l.drop k) [47, 47] = true) (hv : Lib.validD ((l.drop k).take (lineLen (l.drop k))) = true) {ln : Bool} {R : (Nat × Bool) ⊕ Nat} (hR : Bl l (k + lineLen (l.drop k)) ln R) : Bl l k ln R := by
  obtain ⟨g, hg⟩ := hR
  obtain ⟨h1, h2, h3⟩ := (pre_byte l k _ _).1 hp
  have h2' : byteV l k = 47 := h2
  refine ⟨g + 1, ?_⟩
  unfold blG
  rw [if_neg (by omega), if_neg (by omega), if_neg (by omega), if_pos hp, if_pos hv]
  exact hg
theorem Bl.block (hp : hasPre (l.drop k) [47, 42] = true) {a : Nat} (hv : BlkOk (l.drop k) (blkEnd (l.drop k)) = some a) {ln : Bool} {R : (Nat × Bool) ⊕ Nat} (hR : Bl l (k + a) (ln || decide (0 ≤ Lib.indexByte ((l.drop k).take a) 10)) R) : Bl l k ln R := by
  obtain ⟨g, hg⟩ := hR
  obtain ⟨h1, h2, h3⟩ := (pre_byte l k _ _).1 hp
  have h2' : byteV l k = 47 := h2
  have h3' : byteV l (k + 1) = 42 := h3
  have np : hasPre (l.drop k) [47, 47] = false := by
    cases h : hasPre (l.drop k) [47, 47] with
    | false => rfl
    | true =>
      have := ((pre_byte l k _ _).1 h).2.2
      rw [h3'] at this
      exact absurd this (by decide)
  refine ⟨g + 1, ?_⟩
  unfold blG
  rw [if_neg (by omega), if_neg (by omega), if_neg (by omega), if_neg (by rw [np]; decide), if_pos hp, hv]
  exact hg

/-! ### comments -/
theorem blkF_ge' (n : Nat) (r : List UInt8) (d a e : Nat) (h : blkF n r d a = some e) : a ≤ e := by
  induction n generalizing d a with
  | zero => simp [blkF] at h
  | succ n ih =>
    unfold blkF at h
    split at h
    · simp at h; omega
    · split at h
      · cases h
      · split at h
        · have := ih _ _ h; omega
        · split at h
          · have := ih _ _ h; omega
          · have := ih _ _ h; omega
theorem blkF_short : ∀ (f g : Nat) (r : List UInt8) (d a e : Nat), blkF f r d a = some e → e < g + a → blkF g r d a = some e
  | 0, _, _, _, _, _, h, _ => by simp [blkF] at h
  | f + 1, 0, r, d, a, e, h, hg => by have := blkF_ge' _ _ _ _ _ h; omega
  | f + 1, g + 1, r, d, a, e, h, hg => by
    unfold blkF at h ⊢
    split at h
    · rename_i h0; rw [if_pos h0]; exact h
    rename_i h0
    rw [if_neg h0]
    split at h
    · cases h
    rename_i h1
    rw [if_neg h1]
    split at h
    · rename_i h2; rw [if_pos h2]; exact blkF_short f g r _ _ e h (by omega)
    rename_i h2
    rw [if_neg h2]
    split at h
    · rename_i h3; rw [if_pos h3]; exact blkF_short f g r _ _ e h (by omega)
    rename_i h3
    rw [if_neg h3]
    exact blkF_short f g r _ _ e h (by omega)
theorem blkF_loc (h : Agree l k l' k' n) : ∀ (f d a e : Nat), blkF f (l.drop k) d a = some e → e ≤ n → blkF f (l'.drop k') d a = some e
  | 0, _, _, _, hF, _ => by simp [blkF] at hF
  | f + 1, d, a, e, hF, he => by
    have ha := h.a
    have hb := h.b
    have hge := blkF_ge' _ _ _ _ _ hF
    unfold blkF at hF ⊢
    simp only [List.drop_drop, List.length_drop] at hF ⊢
    split at hF
    · rename_i h0; rw [if_pos h0]; exact hF
    rename_i h0
    rw [if_neg h0]
    split at hF
    · cases hF
    rename_i h1
    have hat := h.at (j := a) (by omega)
    split at hF
    · rename_i h2
      have := blkF_ge' _ _ _ _ _ hF
      rw [if_neg (by omega), if_pos (hat.pre h2 (by omega))]
      exact blkF_loc h f _ _ e hF he
    rename_i h2
    have h2' := hat.noPre (a := 47) (b := 42) (by decide) (by decide) (by simpa using h2)
    split at hF
    · rename_i h3
      have := blkF_ge' _ _ _ _ _ hF
      rw [if_neg (by omega), if_neg (by rw [h2']; decide), if_pos (hat.pre h3 (by omega))]
      exact blkF_loc h f _ _ e hF he
    rename_i h3
    have h3' := hat.noPre (a := 42) (b := 47) (by decide) (by decide) (by simpa using h3)
    have := blkF_ge' _ _ _ _ _ hF
    rw [if_neg (by omega), if_neg (by rw [h2']; decide), if_neg (by rw [h3']; decide)]
    exact blkF_loc h f _ _ e hF he
theorem blkOk_loc (h : Agree l k l' k' n) {a : Nat} (hF : BlkOk (l.drop k) (blkEnd (l.drop k)) = some a) (hn : a ≤ n) : BlkOk (l'.drop k') (blkEnd (l'.drop k')) = some a ∧ 2 ≤ a := by
  have ha := h.a
  have hb := h.b
  unfold BlkOk at hF
  split at hF
  · rename_i e he
    split at hF
    · rename_i hv
      obtain rfl := Option.some.inj hF
      have hge := blkF_ge' _ _ _ _ _ he
      have E : blkEnd (l'.drop k') = some e := by
        have := blkF_loc h _ _ _ _ he hn
        unfold blkEnd
        exact blkF_short _ _ _ _ _ _ this (by simp; omega)
      rw [E]
      refine ⟨?_, hge⟩
      unfold BlkOk
      simp only
      rw [h.take hn, if_pos hv]
    · cases hF
  · cases hF
theorem indexByte_first : ∀ (r : List UInt8) (q : Nat), (∀ i, i < q → byteV r i ≠ 10) → q < r.length → byteV r q = 10 → Lib.indexByte r 10 = q
  | [], q, _, hl, _ => by simp at hl
  | c :: r, 0, _, _, hq => by
    unfold byteV at hq
    simp at hq
    have : c = 10 := UInt8.toNat_inj.1 (by have : (10 : UInt8).toNat = 10 := rfl; omega)
    subst this
    rfl
  | c :: r, q + 1, hn, hl, hq => by
    have h0 := hn 0 (by omega)
    have hc : (c == 10) = false := by
      rw [beq_eq_false_iff_ne]
      rintro rfl
      exact h0 (by simp [byteV])
    have sh : ∀ i, byteV (c :: r) (i + 1) = byteV r i := fun i => by
      unfold byteV
      by_cases g : i < r.length
      · rw [dif_pos (by simpa using g), dif_pos g]; rfl
      · rw [dif_neg (by simpa using g), dif_neg g]
    have ih := indexByte_first r q (fun i hi => by have := hn (i + 1) (by omega); rwa [sh] at this) (by simpa using hl) (by rwa [sh] at hq)
    unfold Lib.indexByte
    rw [hc, ih]
    have : ((q : Int) == -1) = false := by rw [beq_eq_false_iff_ne]; omega
    simp [this]
theorem indexByte_spec (r : List UInt8) : (Lib.indexByte r 10 = -1 ∧ ∀ i, i < r.length → byteV r i ≠ 10) ∨ ∃ q : Nat, Lib.indexByte r 10 = q ∧ q < r.length ∧ byteV r q = 10 ∧ ∀ i, i < q → byteV r i ≠ 10 := by
  induction r with
  | nil => exact .inl ⟨rfl, fun i hi => by simp at hi⟩
  | cons c r ih =>
    have sh : ∀ i, byteV (c :: r) (i + 1) = byteV r i := fun i => by
      unfold byteV
      by_cases g : i < r.length
      · rw [dif_pos (by simpa using g), dif_pos g]; rfl
      · rw [dif_neg (by simpa using g), dif_neg g]
    have z : byteV (c :: r) 0 = (c.toNat : Int) := by simp [byteV]
    by_cases hc : c = 10
    · subst hc
      exact .inr ⟨0, rfl, by simp, by rw [z]; rfl, fun i hi => by omega⟩
    · have hb : (c == 10) = false := by rw [beq_eq_false_iff_ne]; exact hc
      have z' : byteV (c :: r) 0 ≠ 10 := by
        rw [z]
        intro e
        exact hc (UInt8.toNat_inj.1 (by have : (10 : UInt8).toNat = 10 := rfl; omega))
      rcases ih with ⟨h1, h2⟩ | ⟨q, h1, h2, h3, h4⟩
      · refine .inl ⟨by unfold Lib.indexByte; rw [hb, h1]; rfl, fun i hi => ?_⟩
        cases i with
        | zero => exact z'
        | succ i => rw [sh]; exact h2 i (by simpa using hi)
      · refine .inr ⟨q + 1, ?_, by simpa using h2, by rw [sh]; exact h3, fun i hi => ?_⟩
        · unfold Lib.indexByte
          rw [hb, h1]
          have : ((q : Int) == -1) = false := by rw [beq_eq_false_iff_ne]; omega
          simp [this]
        · cases i with
          | zero => exact z'
          | succ i => rw [sh]; exact h4 i (by omega)
theorem byteV_dropE (l : List UInt8) (k i : Nat) : byteV (l.drop k) i = byteV l (k + i) := by
  unfold byteV
  by_cases h : k + i < l.length
  · rw [dif_pos h, dif_pos (by simp; omega)]
    simp
  · rw [dif_neg h, dif_neg (by simp; omega)]
theorem lineLen_loc (h : Agree l k l' k' n) (hc : lineLen (l.drop k) < n ∨ (k + n = l.length ∧ k' + n = l'.length)) : lineLen (l'.drop k') = lineLen (l.drop k) := by
  have ha := h.a
  have hb := h.b
  rcases hc with hc | ⟨c1, c2⟩
  · have hlen : lineLen (l.drop k) < (l.drop k).length := by simp; omega
    rcases indexByte_spec (l.drop k) with ⟨h1, h2⟩ | ⟨q, h1, h2, h3, h4⟩
    · exfalso
      unfold lineLen at hlen
      rw [h1] at hlen
      simp at hlen
    · have hq : lineLen (l.drop k) = q := by unfold lineLen; rw [h1]; simp
      rw [hq] at hc ⊢
      have : Lib.indexByte (l'.drop k') 10 = q := by
        refine indexByte_first _ q (fun i hi => ?_) (by simp; omega) ?_
        · have := h4 i hi
          rw [byteV_dropE] at this ⊢
          rw [← h.e i (by omega)]; exact this
        · rw [byteV_dropE] at h3 ⊢
          rw [← h.e q hc]; exact h3
      unfold lineLen
      rw [this]
      simp
  · have e : l'.drop k' = l.drop k := by
      have := h.take (m := n) (Nat.le_refl _)
      rw [List.take_of_length_le (by simp; omega), List.take_of_length_le (by simp; omega)] at this
      exact this
    rw [e]

/-! ### blanks -/
theorem blG_ge : ∀ (f : Nat) (l : List UInt8) (k : Nat) (ln : Bool) (x : Nat × Bool), blG f l k ln = some (.inl x) → k ≤ x.1
  | 0, _, _, _, _, h => by simp [blG] at h
  | f + 1, l, k, ln, x, h => by
    unfold blG at h
    split at h
    · have e := Sum.inl.inj (Option.some.inj h); rw [← e]; exact Nat.le_refl _
    split at h
    · have := blG_ge f l _ _ x h; omega
    split at h
    · have := blG_ge f l _ _ x h; omega
    split at h
    · split at h
      · have := blG_ge f l _ _ x h; omega
      · cases h
    split at h
    · split at h
      · have := blG_ge f l _ _ x h; omega
      · cases h
    · have e := Sum.inl.inj (Option.some.inj h); rw [← e]; exact Nat.le_refl _
theorem lineLen_pre (hp : hasPre (l.drop k) [47, 47] = true) : 2 ≤ lineLen (l.drop k) := by
  obtain ⟨h1, h2, h3⟩ := (pre_byte l k _ _).1 hp
  have h2' : byteV l k = 47 := h2
  have h3' : byteV l (k + 1) = 47 := h3
  unfold lineLen
  rcases indexByte_spec (l.drop k) with ⟨g1, g2⟩ | ⟨q, g1, g2, g3, g4⟩
  · rw [g1]; simp; omega
  · rw [g1]
    rw [byteV_dropE] at g3
    simp
    match q, g3 with
    | 0, g3 => rw [Nat.add_zero, h2'] at g3; exact absurd g3 (by decide)
    | 1, g3 => rw [h3'] at g3; exact absurd g3 (by decide)
    | q + 2, _ => omega
theorem blG_loc : ∀ (f n k k' m : Nat) (ln ln1 : Bool), Agree l k l' k' n → blG f l k ln = some (.inl (k + m, ln1)) → m ≤ n → (k + m < l.length ∨ (k + n = l.length ∧ k' + n = l'.length)) → ∀ R, Bl l' (k' + m) ln1 R → Bl l' k' ln R
  | 0, _, _, _, _, _, _, _, h, _, _, _, _ => by simp [blG] at h
  | f + 1, n, k, k', m, ln, ln1, h, hF, hm, hc, R, hR => by
    have ha := h.a
    have hb := h.b
    have stop : (k, ln) = (k + m, ln1) → Bl l' k' ln R := fun e => by
      simp only [Prod.mk.injEq] at e
      obtain ⟨e1, rfl⟩ := e
      obtain rfl : m = 0 := by omega
      exact hR
    unfold blG at hF
    split at hF
    · exact stop (Sum.inl.inj (Option.some.inj hF))
    split at hF
    · rename_i h1
      have hg := blG_ge _ _ _ _ _ hF
      simp only at hg
      have ih := blG_loc f (n - 1) (k + 1) (k' + 1) (m - 1) _ ln1 (h.at (j := 1) (by omega)) (by rw [hF, show k + 1 + (m - 1) = k + m by omega]) (by omega) (by omega) R (by rw [show k' + 1 + (m - 1) = k' + m by omega]; exact hR)
      exact Bl.nl (by omega) (by rw [← h.first (by omega)]; exact h1) ih
    split at hF
    · rename_i h1
      have hg := blG_ge _ _ _ _ _ hF
      simp only at hg
      have ih := blG_loc f (n - 1) (k + 1) (k' + 1) (m - 1) _ ln1 (h.at (j := 1) (by omega)) (by rw [hF, show k + 1 + (m - 1) = k + m by omega]) (by omega) (by omega) R (by rw [show k' + 1 + (m - 1) = k' + m by omega]; exact hR)
      exact Bl.blank (by omega) (by rw [← h.first (by omega)]; exact h1) ih
    split at hF
    · rename_i hp
      split at hF
      · rename_i hv
        have hg := blG_ge _ _ _ _ _ hF
        simp only at hg
        have h2 := lineLen_pre hp
        obtain ⟨q, hq⟩ : ∃ q, lineLen (l.drop k) = q := ⟨_, rfl⟩
        rw [hq] at hF hg h2 hv
        have hcc : lineLen (l.drop k) < n ∨ (k + n = l.length ∧ k' + n = l'.length) := by
          rcases hc with hc | hc
          · left
            rw [hq]
            -- the line ends with a line feed, and the blanks go on behind it
            have hlt : lineLen (l.drop k) < (l.drop k).length := by rw [hq]; simp; omega
            have h10 : byteV l (k + q) = 10 := by
              rcases indexByte_spec (l.drop k) with ⟨g1, g2⟩ | ⟨q', g1, g2, g3, g4⟩
              · exfalso
                unfold lineLen at hlt
                rw [g1] at hlt
                simp at hlt
              · have : q = q' := by rw [← hq]; unfold lineLen; rw [g1]; simp
                rw [this, ← byteV_dropE]; exact g3
            have : q < m := by
              cases f with
              | zero => simp [blG] at hF
              | succ f =>
                unfold blG at hF
                rw [if_neg (by omega), if_pos h10] at hF
                have := blG_ge _ _ _ _ _ hF
                simp only at this
                omega
            omega
          · right; exact hc
        have L := lineLen_loc h hcc
        have ih := blG_loc f (n - q) (k + q) (k' + q) (m - q) _ ln1 (h.at (by omega)) (by rw [hF, show k + q + (m - q) = k + m by omega]) (by omega) (by omega) R (by rw [show k' + q + (m - q) = k' + m by omega]; exact hR)
        refine Bl.line (h.pre hp (by omega)) ?_ ?_
        · rw [L, hq, h.take (by omega)]; exact hv
        · rw [L, hq]; exact ih
      · cases hF
    split at hF
    · rename_i hp
      split at hF
      · rename_i a hB
        have hg := blG_ge _ _ _ _ _ hF
        simp only at hg
        obtain ⟨B, h2⟩ := blkOk_loc h hB (by omega)
        have ih := blG_loc f (n - a) (k + a) (k' + a) (m - a) _ ln1 (h.at (by omega)) (by rw [hF, show k + a + (m - a) = k + m by omega]) (by omega) (by omega) R (by rw [show k' + a + (m - a) = k' + m by omega]; exact hR)
        refine Bl.block (h.pre hp (by omega)) B ?_
        rw [h.take (by omega)]
        exact ih
      · cases hF
    · exact stop (Sum.inl.inj (Option.some.inj hF))
theorem blG_stopped : ∀ (f : Nat) (l : List UInt8) (k : Nat) (ln : Bool) (x : Nat × Bool), blG f l k ln = some (.inl x) → x.1 < l.length → Stopped l x.1
  | 0, _, _, _, _, h, _ => by simp [blG] at h
  | f + 1, l, k, ln, x, h, hx => by
    unfold blG at h
    split at h
    · have e := Sum.inl.inj (Option.some.inj h)
      rw [← e] at hx
      simp only at hx
      omega
    rename_i h0
    split at h
    · exact blG_stopped f l _ _ x h hx
    rename_i h1
    split at h
    · exact blG_stopped f l _ _ x h hx
    rename_i h2
    split at h
    · split at h
      · exact blG_stopped f l _ _ x h hx
      · cases h
    rename_i h3
    split at h
    · split at h
      · exact blG_stopped f l _ _ x h hx
      · cases h
    rename_i h4
    have e := Sum.inl.inj (Option.some.inj h)
    rw [← e]
    exact ⟨by omega, h1, h2, by simpa using h3, by simpa using h4⟩
end


theorem blG_mono : ∀ (f f' : Nat) (l : List UInt8) (k : Nat) (ln : Bool) (R : (Nat × Bool) ⊕ Nat), f ≤ f' → blG f l k ln = some R → blG f' l k ln = some R
  | 0, _, _, _, _, _, _, h => by simp [blG] at h
  | f + 1, 0, _, _, _, _, hf, _ => by omega
  | f + 1, f' + 1, l, k, ln, R, hf, h => by
    unfold blG at h ⊢
    split at h
    · rename_i h0; rw [if_pos h0]; exact h
    rename_i h0
    rw [if_neg h0]
    split at h
    · rename_i h1; rw [if_pos h1]; exact blG_mono f f' l _ _ R (by omega) h
    rename_i h1
    rw [if_neg h1]
    split at h
    · rename_i h2; rw [if_pos h2]; exact blG_mono f f' l _ _ R (by omega) h
    rename_i h2
    rw [if_neg h2]
    split at h
    · rename_i h3
      rw [if_pos h3]
      split at h
      · rename_i h4; rw [if_pos h4]; exact blG_mono f f' l _ _ R (by omega) h
      · rename_i h4; rw [if_neg h4]; exact h
    rename_i h3
    rw [if_neg h3]
    split at h
    · rename_i h4
      rw [if_pos h4]
      split at h
      · rename_i a ha; exact blG_mono f f' l _ _ R (by omega) h
      · exact h
    · rename_i h4; rw [if_neg h4]; exact h
theorem Bl.fuel {l : List UInt8} {k : Nat} {ln : Bool} {R : (Nat × Bool) ⊕ Nat} (h : Bl l k ln R) (hk : k ≤ l.length) : blG (l.length + 1) l k ln = some R := by
  obtain ⟨g, hg⟩ := h
  obtain ⟨R', hR⟩ := blG_ends l k ln hk
  have a := blG_mono _ (g + (l.length + 1)) _ _ _ _ (by omega) hg
  have b := blG_mono _ (g + (l.length + 1)) _ _ _ _ (by omega) hR
  rw [a] at b
  rw [hR, ← Option.some.inj b]

/-- The tokens of a text from a place on, where there is no fault. -/
def ScanR (l : List UInt8) : Nat → Bool → List Tok → Prop
  | k, ln, [] => ∃ ln', Bl l k ln (.inl (l.length, ln'))
  | k, ln, t :: ts => Bl l k ln (.inl (t.pos, t.line)) ∧ t.pos < l.length ∧ ∃ x e, tokG l t.pos = some (.inl (t.kind, x, e)) ∧ t.text = ⟨x.toArray⟩ ∧ t.pos < e ∧ e ≤ l.length ∧ ScanR l e false ts

theorem scanR_of (l : List UInt8) : ∀ (n k : Nat) (ln : Bool) (toks : List Tok), scanG n l k ln = some (toks, none) → ScanR l k ln toks
  | 0, _, _, _, h => by simp [scanG] at h
  | n + 1, k, ln, toks, h => by
    unfold scanG at h
    split at h
    · cases h
    · cases h
    · rename_i x hx
      split at h
      · rename_i hl
        have e := congrArg Prod.fst (Option.some.inj h)
        simp only at e
        subst e
        exact ⟨x.2, _, by rw [hx, ← hl]⟩
      · split at h
        · rename_i hlt
          split at h
          · cases h
          · cases h
          · rename_i y hy
            split at h
            · rename_i hle
              split at h
              · cases h
              · rename_i r hr
                obtain ⟨r1, r2⟩ := r
                have e := Option.some.inj h
                simp only [Prod.mk.injEq] at e
                obtain ⟨rfl, rfl⟩ := e
                exact ⟨⟨_, hx⟩, hlt, y.2.1, y.2.2, hy, rfl, (tokG_end l x.1 hlt hy).1, hle, scanR_of l n _ _ _ hr⟩
            · cases h
        · cases h
theorem scanR_ge {l : List UInt8} : ∀ {toks : List Tok} {k : Nat} {ln : Bool}, ScanR l k ln toks → k ≤ l.length
  | [], k, ln, ⟨_, g, h⟩ => blG_ge _ _ _ _ _ h
  | t :: ts, k, ln, ⟨⟨g, h⟩, h2, _⟩ => by have := blG_ge _ _ _ _ _ h; simp only at this; omega
theorem scanG_of (l : List UInt8) : ∀ (toks : List Tok) (n k : Nat) (ln : Bool), ScanR l k ln toks → l.length < n + k → scanG n l k ln = some (toks, none)
  | toks, 0, k, ln, h, hn => by have := scanR_ge h; omega
  | [], n + 1, k, ln, h, hn => by
    have hk := scanR_ge h
    obtain ⟨ln', hb⟩ := h
    unfold scanG
    rw [hb.fuel hk]
    simp
  | t :: ts, n + 1, k, ln, h, hn => by
    have hk := scanR_ge h
    obtain ⟨hb, h1, x, e, h2, h3, h4, h5, h6⟩ := h
    have hg : k ≤ t.pos := by obtain ⟨g, hb⟩ := hb; exact blG_ge _ _ _ _ _ hb
    unfold scanG
    rw [hb.fuel hk]
    simp only
    rw [if_neg (by omega), if_pos h1, h2]
    simp only
    rw [if_pos h5, scanG_of l ts n e false h6 (by omega), ← h3]
/-- Where tokens lie. -/
theorem scanR_mem {l : List UInt8} : ∀ {toks : List Tok} {k : Nat} {ln : Bool}, ScanR l k ln toks → ∀ t, t ∈ toks → k ≤ t.pos ∧ t.pos < l.length
  | [], _, _, _, t, ht => by cases ht
  | a :: ts, k, ln, ⟨⟨g, hb⟩, h1, x, e, h2, h3, h4, h5, h6⟩, t, ht => by
    have := blG_ge _ _ _ _ _ hb
    simp only at this
    rcases List.mem_cons.1 ht with rfl | ht
    · exact ⟨this, h1⟩
    · have := scanR_mem h6 t ht
      omega
theorem scanR_asc {l : List UInt8} : ∀ {toks : List Tok} {k : Nat} {ln : Bool}, ScanR l k ln toks → toks.Pairwise (fun a b => a.pos < b.pos)
  | [], _, _, _ => .nil
  | a :: ts, k, ln, ⟨_, _, x, e, _, _, h4, _, h6⟩ => .cons (fun b hb => by have := (scanR_mem h6 b hb).1; omega) (scanR_asc h6)
theorem scanR_mid {l : List UInt8} {t : Tok} {bs : List Tok} : ∀ {ps : List Tok} {k : Nat} {ln : Bool}, ScanR l k ln (ps ++ t :: bs) → k ≤ t.pos ∧ t.pos < l.length := fun h => scanR_mem h t (by simp)

/-- Where a fault lies. -/
theorem blG_bad : ∀ (f : Nat) (l : List UInt8) (k : Nat) (ln : Bool) (p : Nat), blG f l k ln = some (.inr p) → p < l.length
  | 0, _, _, _, _, h => by simp [blG] at h
  | f + 1, l, k, ln, p, h => by
    unfold blG at h
    split at h
    · cases h
    rename_i h0
    split at h
    · exact blG_bad f l _ _ p h
    split at h
    · exact blG_bad f l _ _ p h
    split at h
    · split at h
      · exact blG_bad f l _ _ p h
      · have := Sum.inr.inj (Option.some.inj h); omega
    split at h
    · split at h
      · exact blG_bad f l _ _ p h
      · have := Sum.inr.inj (Option.some.inj h); omega
    · cases h
theorem tokG_bad (l : List UInt8) (k : Nat) {p : Nat × Int} (h : tokG l k = some (.inr p)) : p.1 = k := by
  unfold tokG at h
  repeat' split at h
  all_goals first
    | (cases h; done)
    | (have e := Sum.inr.inj (Option.some.inj h); rw [← e])
theorem scanG_bad : ∀ (n : Nat) (l : List UInt8) (k : Nat) (ln : Bool) (toks : List Tok) (p : Nat × Int), scanG n l k ln = some (toks, some p) → p.1 < l.length
  | 0, _, _, _, _, _, h => by simp [scanG] at h
  | n + 1, l, k, ln, toks, p, h => by
    unfold scanG at h
    split at h
    · cases h
    · rename_i q hq
      have e := congrArg Prod.snd (Option.some.inj h)
      simp only at e
      have e2 := Option.some.inj e
      rw [← e2]
      exact blG_bad _ _ _ _ _ hq
    · rename_i x hx
      split at h
      · cases h
      · split at h
        · rename_i hlt
          split at h
          · cases h
          · rename_i q hq
            have e := congrArg Prod.snd (Option.some.inj h)
            simp only at e
            have e2 := Option.some.inj e
            rw [← e2, tokG_bad l _ hq]
            exact hlt
          · rename_i y hy
            split at h
            · split at h
              · cases h
              · rename_i r hr
                obtain ⟨r1, r2⟩ := r
                have e := congrArg Prod.snd (Option.some.inj h)
                simp only at e
                subst e
                exact scanG_bad n l _ _ _ p hr
            · cases h
        · cases h

/-! ### a text that is cut -/
theorem byteV_take (l : List UInt8) (c i : Nat) (hi : i < c) : byteV (l.take c) i = byteV l i := by
  unfold byteV
  by_cases h : i < l.length
  · rw [dif_pos h, dif_pos (by simp; omega)]
    simp
  · rw [dif_neg h, dif_neg (by simp; omega)]
theorem agree_cut (l : List UInt8) (k c : Nat) (hk : k ≤ c) (hc : c ≤ l.length) : Agree l k (l.take c) k (c - k) := by
  refine ⟨by omega, by simp; omega, fun i hi => (byteV_take l c _ (by omega)).symm, ?_⟩
  unfold byteV
  rw [dif_neg (by simp; omega)]
  decide
theorem scanR_cut {l : List UInt8} {t : Tok} {bs : List Tok} : ∀ {ps : List Tok} {k : Nat} {ln : Bool}, ScanR l k ln (ps ++ t :: bs) → ScanR (l.take t.pos) k ln ps
  | [], k, ln, h => by
    obtain ⟨hk, hc⟩ := scanR_mid (ps := []) h
    obtain ⟨⟨g, hb⟩, -⟩ := h
    have hl : (l.take t.pos).length = t.pos := by simp; omega
    refine ⟨t.line, ?_⟩
    rw [hl]
    refine blG_loc g _ k k (t.pos - k) ln t.line (agree_cut l k t.pos hk (by omega)) (by rw [hb, show k + (t.pos - k) = t.pos by omega]) (Nat.le_refl _) (.inl (by omega)) _ ?_
    rw [show k + (t.pos - k) = t.pos by omega]
    refine ⟨1, ?_⟩
    unfold blG
    rw [if_pos (by omega)]
  | a :: ps, k, ln, h => by
    obtain ⟨⟨g, hb⟩, h1, x, e, h2, h3, h4, h5, h6⟩ := h
    obtain ⟨he, hc⟩ := scanR_mid h6
    have hk := blG_ge _ _ _ _ _ hb
    simp only at hk
    have hst := blG_stopped _ _ _ _ _ hb h1
    have hl : (l.take t.pos).length = t.pos := by simp; omega
    have A := agree_cut l a.pos t.pos (by omega) (by omega)
    refine ⟨?_, by omega, x, e, ?_, h3, h4, by omega, scanR_cut h6⟩
    · refine blG_loc g _ k k (a.pos - k) ln a.line (agree_cut l k t.pos (by omega) (by omega)) (by rw [hb, show k + (a.pos - k) = a.pos by omega]) (by omega) (.inl (by omega)) _ ?_
      rw [show k + (a.pos - k) = a.pos by omega]
      exact (hst.loc A (by omega)).is _
    · have := tokG_loc A (by omega) (m := e - a.pos) (by rw [h2, show a.pos + (e - a.pos) = e by omega]) (by omega)
      rw [this, show a.pos + (e - a.pos) = e by omega]

/-! ### a text with a blank more -/
def Tok.moved (d : Nat) (t : Tok) : Tok := { t with pos := t.pos + d }
def ins (l b : List UInt8) (c : Nat) : List UInt8 := l.take c ++ (b ++ l.drop c)
theorem ins_len (l b : List UInt8) (c : Nat) (hc : c ≤ l.length) : (ins l b c).length = l.length + b.length := by
  unfold ins
  simp
  omega
theorem byteV_app (a b : List UInt8) (i : Nat) : byteV (a ++ b) i = if i < a.length then byteV a i else byteV b (i - a.length) := by
  unfold byteV
  by_cases h : i < a.length
  · rw [if_pos h, dif_pos h, dif_pos (by simp; omega)]
    rw [List.getElem_append_left h]
  · rw [if_neg h]
    by_cases g : i - a.length < b.length
    · rw [dif_pos g, dif_pos (by simp; omega), List.getElem_append_right (by omega)]
    · rw [dif_neg g, dif_neg (by simp; omega)]
theorem ins_lo (l b : List UInt8) (c i : Nat) (hc : c ≤ l.length) (hi : i < c) : byteV (ins l b c) i = byteV l i := by
  unfold ins
  rw [byteV_app, if_pos (by simp; omega), byteV_take l c i hi]
theorem ins_mid (l b : List UInt8) (c i : Nat) (hc : c ≤ l.length) (hi : i < b.length) : byteV (ins l b c) (c + i) = byteV b i := by
  unfold ins
  rw [byteV_app, if_neg (by simp; omega), byteV_app, if_pos (by simp; omega)]
  congr 1
  simp
  omega
theorem ins_hi (l b : List UInt8) (c i : Nat) (hc : c ≤ l.length) : byteV (ins l b c) (c + b.length + i) = byteV l (c + i) := by
  unfold ins
  rw [byteV_app, if_neg (by simp; omega), byteV_app, if_neg (by simp; omega)]
  rw [byteV_dropE]
  congr 1
  simp
  omega
theorem agree_lo (l b : List UInt8) (k c : Nat) (hk : k ≤ c) (hc : c ≤ l.length) (hs : 0 < b.length ∧ stopC (byteV b 0) = true) : Agree l k (ins l b c) k (c - k) := by
  refine ⟨by omega, by rw [ins_len l b c hc]; omega, fun i hi => (ins_lo l b c _ hc (by omega)).symm, ?_⟩
  rw [show k + (c - k) = c + 0 by omega, ins_mid l b c 0 hc hs.1]
  exact hs.2
theorem agree_hi (l b : List UInt8) (k c : Nat) (hk : c ≤ k) (hc : k ≤ l.length) : Agree l k (ins l b c) (k + b.length) (l.length - k) := by
  refine ⟨by omega, by rw [ins_len l b c (by omega)]; omega, fun i hi => ?_, ?_⟩
  · have := ins_hi l b c (k - c + i) (by omega)
    rw [show c + b.length + (k - c + i) = k + b.length + i by omega, show c + (k - c + i) = k + i by omega] at this
    exact this.symm
  · unfold byteV
    rw [dif_neg (by rw [ins_len l b c (by omega)]; omega)]
    decide
theorem scanR_hi {l b : List UInt8} {c : Nat} : ∀ {ts : List Tok} {k : Nat} {ln : Bool}, ScanR l k ln ts → c ≤ k → ScanR (ins l b c) (k + b.length) ln (ts.map (Tok.moved b.length))
  | [], k, ln, h, hc => by
    have hk := scanR_ge h
    obtain ⟨ln', g, hb⟩ := h
    refine ⟨ln', ?_⟩
    have hl := ins_len l b c (by omega)
    refine blG_loc g _ k (k + b.length) (l.length - k) ln ln' (agree_hi l b k c hc hk) (by rw [hb, show k + (l.length - k) = l.length by omega]) (Nat.le_refl _) (.inr ⟨by omega, by omega⟩) _ ?_
    rw [show k + b.length + (l.length - k) = (ins l b c).length by omega]
    refine ⟨1, ?_⟩
    unfold blG
    rw [if_pos (Nat.le_refl _)]
  | a :: ps, k, ln, h, hc => by
    have hk0 := scanR_ge h
    obtain ⟨⟨g, hb⟩, h1, x, e, h2, h3, h4, h5, h6⟩ := h
    have hk := blG_ge _ _ _ _ _ hb
    simp only at hk
    have hst := blG_stopped _ _ _ _ _ hb h1
    have hl := ins_len l b c (by omega)
    have A := agree_hi l b a.pos c (by omega) (by omega)
    refine ⟨?_, by simp only [Tok.moved]; omega, x, e + b.length, ?_, h3, by simp only [Tok.moved]; omega, by omega, scanR_hi h6 (by omega)⟩
    · refine blG_loc g _ k (k + b.length) (a.pos - k) ln a.line (agree_hi l b k c hc hk0) (by rw [hb, show k + (a.pos - k) = a.pos by omega]) (by omega) (.inr ⟨by omega, by omega⟩) _ ?_
      simp only [Tok.moved]
      rw [show k + b.length + (a.pos - k) = a.pos + b.length by omega]
      exact (hst.loc A (by omega)).is _
    · have := tokG_loc A (by omega) (m := e - a.pos) (by rw [h2, show a.pos + (e - a.pos) = e by omega]) (by omega)
      simp only [Tok.moved]
      rw [this, show a.pos + b.length + (e - a.pos) = e + b.length by omega]
theorem scanR_ins {l b : List UInt8} {t : Tok} {bs : List Tok} {nl : Bool} (hs : 0 < b.length ∧ stopC (byteV b 0) = true)
    (hB : ∀ ln, Stopped (ins l b t.pos) (t.pos + b.length) → Bl (ins l b t.pos) t.pos ln (.inl (t.pos + b.length, ln || nl))) :
    ∀ {ps : List Tok} {k : Nat} {ln : Bool}, ScanR l k ln (ps ++ t :: bs) → ScanR (ins l b t.pos) k ln (ps ++ { t with pos := t.pos + b.length, line := t.line || nl } :: bs.map (Tok.moved b.length))
  | [], k, ln, h => by
    obtain ⟨⟨g, hb⟩, h1, x, e, h2, h3, h4, h5, h6⟩ := h
    have hk := blG_ge _ _ _ _ _ hb
    simp only at hk
    have hst := blG_stopped _ _ _ _ _ hb h1
    have hl := ins_len l b t.pos (by omega)
    have A := agree_hi l b t.pos t.pos (by omega) (by omega)
    refine ⟨?_, by show t.pos + b.length < _; omega, x, e + b.length, ?_, h3, by show t.pos + b.length < _; omega, by omega, scanR_hi h6 (by omega)⟩
    · refine blG_loc g _ k k (t.pos - k) ln t.line (agree_lo l b k t.pos hk (by omega) hs) (by rw [hb, show k + (t.pos - k) = t.pos by omega]) (Nat.le_refl _) (.inl (by omega)) _ ?_
      rw [show k + (t.pos - k) = t.pos by omega]
      exact hB t.line (hst.loc A (by omega))
    · have := tokG_loc A (by omega) (m := e - t.pos) (by rw [h2, show t.pos + (e - t.pos) = e by omega]) (by omega)
      show tokG _ (t.pos + b.length) = some (.inl (t.kind, _))
      rw [this, show t.pos + b.length + (e - t.pos) = e + b.length by omega]
  | a :: ps, k, ln, h => by
    obtain ⟨⟨g, hb⟩, h1, x, e, h2, h3, h4, h5, h6⟩ := h
    obtain ⟨he, hc⟩ := scanR_mid h6
    have hk := blG_ge _ _ _ _ _ hb
    simp only at hk
    have hst := blG_stopped _ _ _ _ _ hb h1
    have hl := ins_len l b t.pos (by omega)
    have A := agree_lo l b a.pos t.pos (by omega) (by omega) hs
    refine ⟨?_, by omega, x, e, ?_, h3, h4, by omega, scanR_ins hs hB h6⟩
    · refine blG_loc g _ k k (a.pos - k) ln a.line (agree_lo l b k t.pos (by omega) (by omega) hs) (by rw [hb, show k + (a.pos - k) = a.pos by omega]) (by omega) (.inl (by omega)) _ ?_
      rw [show k + (a.pos - k) = a.pos by omega]
      exact (hst.loc A (by omega)).is _
    · have := tokG_loc A (by omega) (m := e - a.pos) (by rw [h2, show a.pos + (e - a.pos) = e by omega]) (by omega)
      rw [this, show a.pos + (e - a.pos) = e by omega]


/-- The blanks of the statement. -/
def blankOf : Nat → List UInt8
  | 0 => [32]
  | 1 => [10]
  | 2 => [9, 13]
  | 3 => [32, 47, 42, 32, 97, 32, 47, 42, 32, 98, 32, 42, 47, 32, 99, 32, 42, 47, 32]
  | 4 => [32, 47, 47, 32, 120, 10]
  | _ => [32]
/-- Is a line feed in it? -/
def nlOf : Nat → Bool
  | 1 => true
  | 4 => true
  | _ => false
theorem blankOf_stop (j : Nat) : 0 < (blankOf j).length ∧ stopC (byteV (blankOf j) 0) = true := by
  match j with
  | 0 => exact ⟨by decide, by decide⟩
  | 1 => exact ⟨by decide, by decide⟩
  | 2 => exact ⟨by decide, by decide⟩
  | 3 => exact ⟨by decide, by decide⟩
  | 4 => exact ⟨by decide, by decide⟩
  | j + 5 => show 0 < ([32] : List UInt8).length ∧ stopC (byteV [32] 0) = true; exact ⟨by decide, by decide⟩
def noteL : List UInt8 := [32, 47, 42, 32, 97, 32, 47, 42, 32, 98, 32, 42, 47, 32, 99, 32, 42, 47, 65]
theorem note_read : ∀ ln : Bool, blG 40 noteL 0 ln = some (.inl (0 + 18, ln)) := by
  intro ln
  cases ln
  · decide +kernel
  · decide +kernel
theorem note_bytes : ∀ i : Fin 18, byteV noteL i.1 = byteV (blankOf 3) i.1 := by decide +kernel
theorem one_blank {l : List UInt8} {c : Nat} (hc : c ≤ l.length) (b : List UInt8) (i : Nat) (hi : i < b.length) (hb : byteV b i = 32 ∨ byteV b i = 9 ∨ byteV b i = 13) {ln : Bool} {R : (Nat × Bool) ⊕ Nat} (hR : Bl (ins l b c) (c + i + 1) ln R) : Bl (ins l b c) (c + i) ln R := by
  refine Bl.blank ?_ ?_ hR
  · rw [ins_len l b c hc]; omega
  · rw [ins_mid l b c i hc hi]; exact hb
theorem one_feed {l : List UInt8} {c : Nat} (hc : c ≤ l.length) (b : List UInt8) (i : Nat) (hi : i < b.length) (hb : byteV b i = 10) {ln : Bool} {R : (Nat × Bool) ⊕ Nat} (hR : Bl (ins l b c) (c + i + 1) true R) : Bl (ins l b c) (c + i) ln R := by
  refine Bl.nl ?_ ?_ hR
  · rw [ins_len l b c hc]; omega
  · rw [ins_mid l b c i hc hi]; exact hb
theorem ins_drop (l b : List UInt8) (c i : Nat) (hc : c ≤ l.length) (hi : i ≤ b.length) : (ins l b c).drop (c + i) = b.drop i ++ l.drop c := by
  unfold ins
  have hl : (l.take c).length = c := by simp; omega
  rw [List.drop_append, hl, List.drop_eq_nil_of_le (by omega), List.nil_append, show c + i - c = i by omega, List.drop_append_of_le_length hi]
theorem blanks_ins (l : List UInt8) (c : Nat) (hc : c ≤ l.length) (j : Nat) (ln : Bool) (hs : Stopped (ins l (blankOf j) c) (c + (blankOf j).length)) : Bl (ins l (blankOf j) c) c ln (.inl (c + (blankOf j).length, ln || nlOf j)) := by
  match j, hs with
  | 0, hs =>
    rw [show (ln || nlOf 0) = ln by simp [nlOf]]
    exact one_blank hc [32] 0 (by decide) (by decide) (hs.is ln)
  | 1, hs =>
    rw [show (ln || nlOf 1) = true by simp [nlOf]]
    exact one_feed hc [10] 0 (by decide) (by decide) (hs.is true)
  | 2, hs =>
    rw [show (ln || nlOf 2) = ln by simp [nlOf]]
    exact one_blank hc [9, 13] 0 (by decide) (by decide) (one_blank hc [9, 13] 1 (by decide) (by decide) (hs.is ln))
  | 3, hs =>
    rw [show (ln || nlOf 3) = ln by simp [nlOf]]
    have A : Agree noteL 0 (ins l (blankOf 3) c) c 18 := by
      have hl := ins_len l (blankOf 3) c hc
      have h19 : (blankOf 3).length = 19 := rfl
      refine ⟨by decide, by omega, fun i hi => ?_, ?_⟩
      · rw [ins_mid l _ c i hc (by omega), Nat.zero_add]
        exact note_bytes ⟨i, hi⟩
      · rw [ins_mid l _ c 18 hc (by omega)]
        decide
    refine blG_loc 40 18 0 c 18 ln ln A (note_read ln) (by decide) (.inl (by decide)) _ ?_
    exact one_blank hc (blankOf 3) 18 (by decide) (by decide) (hs.is ln)
  | 4, hs =>
    rw [show (ln || nlOf 4) = true by simp [nlOf]]
    refine one_blank hc (blankOf 4) 0 (by decide) (by decide) ?_
    have hd : (ins l (blankOf 4) c).drop (c + 0 + 1) = [47, 47, 32, 120, 10] ++ l.drop c := by
      rw [show c + 0 + 1 = c + 1 by omega, ins_drop l (blankOf 4) c 1 hc (by decide)]
      rfl
    have hL : lineLen ([47, 47, 32, 120, 10] ++ l.drop c) = 4 := by
      have : Lib.indexByte ([47, 47, 32, 120, 10] ++ l.drop c) 10 = 4 := by
        simp [Lib.indexByte]
      unfold lineLen
      rw [this]
      rfl
    refine Bl.line (by rw [hd]; rfl) ?_ ?_
    · rw [hd, hL]
      show Lib.validD [47, 47, 32, 120] = true
      decide +kernel
    · rw [hd, hL]
      exact one_feed hc (blankOf 4) 5 (by decide) (by decide) (hs.is true)
  | j + 5, hs =>
    rw [show (ln || nlOf (j + 5)) = ln by simp [nlOf]]
    exact one_blank hc [32] 0 (by decide) (by decide) (hs.is ln)
end Go.Proofs.YtpebdfofnmojcaaDoor
