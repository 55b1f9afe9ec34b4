/- Part 4 of the proof: Lox, Scv, Awk, Bar, Pos, Txa, Pla, Plb, Plc, Bck, Laid, Lad. -/
import Derived.Test.YtpebdfofnmojcaaDoorB03
import Derived.Lib.ValidLaws
import Derived.Test.YtpebdfofnmojcaaDoorRows
import Derived.Lib.LaidU8T
import Derived.Shelf.Vars
import Derived.ProofKit
/- Tokens are read again where they are written: the text of a text's tokens has the same tokens. No program's run in this text. -/
namespace Go.Proofs.YtpebdfofnmojcaaDoor
open Go.RowKit Go.Lib


/-! ### texts of valid characters -/
theorem valid_append : ∀ (n : Nat) (a b : List UInt8), a.length ≤ n → validD a = true → validD b = true → validD (a ++ b) = true
  | 0, a, b, hn, _, hb => by
    have : a = [] := List.eq_nil_of_length_eq_zero (by omega)
    rw [this]; exact hb
  | n + 1, a, b, hn, ha, hb => by
    by_cases h : a = []
    · rw [h]; exact hb
    · rw [validD_step a h] at ha
      split at ha
      · cases ha
      · rename_i hv
        have hle := decodeL_le a h
        have hw := decodeL_width a
        have e : decodeL (a ++ b) = decodeL a := by
          have := decodeL_pre a (a.drop (decodeL a).2 ++ b) h hv
          rwa [← List.append_assoc, List.take_append_drop] at this
        rw [validD_step (a ++ b) (by simp [h]), e, if_neg hv, List.drop_append_of_le_length hle]
        exact valid_append n _ b (by simp; omega) ha hb
theorem u8_toNat (x : Int) (h0 : 0 ≤ x) (h1 : x < 256) : (x.toNat.toUInt8).toNat = x.toNat := by
  rw [UInt8.toNat_ofNat']
  omega
theorem valid_encode (r : Int) : validD (encodeRune r) = true := by
  have key : ∀ l : List UInt8, l ≠ [] → ¬ ((decodeL l).1 = 65533 ∧ (decodeL l).2 = 1) → (decodeL l).2 = l.length → validD l = true := fun l h1 h2 h3 => by
    rw [validD_step l h1, if_neg h2, h3, List.drop_eq_nil_of_le (Nat.le_refl _)]
    rfl
  unfold encodeRune
  by_cases h1 : 0 ≤ r ∧ r ≤ 127
  · rw [encodeRuneZ_one h1.1 h1.2]
    have e := u8_toNat r (by omega) (by omega)
    have d : decodeL [r.toNat.toUInt8] = (r.toNat, 1) := by
      rw [decodeL_ascii _ _ (by omega), e]
    refine key _ (by simp) ?_ ?_
    · simp only [List.map_cons, List.map_nil]
      rw [d]; simp only; omega
    · simp only [List.map_cons, List.map_nil]
      rw [d]; rfl
  by_cases h2 : 128 ≤ r ∧ r ≤ 2047
  · rw [encodeRuneZ_two h2.1 h2.2]
    have e0 := u8_toNat (192 + r / 64) (by omega) (by omega)
    have e1 := u8_toNat (128 + r % 64) (by omega) (by omega)
    have d : decodeL ([192 + r / 64, 128 + r % 64].map fun x => x.toNat.toUInt8) = (r.toNat, 2) := by
      rw [decodeL_N]
      simp only [List.map_cons, List.map_nil, List.getD_cons_zero, List.getD_cons_succ, List.length_cons, List.length_nil]
      rw [e0, e1]
      unfold decodeN
      rw [if_neg (by omega), if_pos (by omega), if_pos (by omega)]
      congr 1
      omega
    refine key _ (by simp) ?_ ?_
    · rw [d]; simp only; omega
    · rw [d]; rfl
  by_cases h3 : (2048 ≤ r ∧ r < 55296) ∨ (57343 < r ∧ r ≤ 65535)
  · rw [encodeRuneZ_three h3]
    have e0 := u8_toNat (224 + r / 4096) (by omega) (by omega)
    have e1 := u8_toNat (128 + r / 64 % 64) (by omega) (by omega)
    have e2 := u8_toNat (128 + r % 64) (by omega) (by omega)
    have d : decodeL ([224 + r / 4096, 128 + r / 64 % 64, 128 + r % 64].map fun x => x.toNat.toUInt8) = (r.toNat, 3) := by
      rw [decodeL_N]
      simp only [List.map_cons, List.map_nil, List.getD_cons_zero, List.getD_cons_succ, List.length_cons, List.length_nil]
      rw [e0, e1, e2]
      unfold decodeN
      rw [if_neg (by omega), if_neg (by omega), if_pos (by omega), if_pos (by omega)]
      congr 1
      omega
    refine key _ (by simp) ?_ ?_
    · rw [d]; simp only; omega
    · rw [d]; rfl
  by_cases h4 : 65536 ≤ r ∧ r ≤ 1114111
  · rw [encodeRuneZ_four h4.1 h4.2]
    have e0 := u8_toNat (240 + r / 262144) (by omega) (by omega)
    have e1 := u8_toNat (128 + r / 4096 % 64) (by omega) (by omega)
    have e2 := u8_toNat (128 + r / 64 % 64) (by omega) (by omega)
    have e3 := u8_toNat (128 + r % 64) (by omega) (by omega)
    have d : decodeL ([240 + r / 262144, 128 + r / 4096 % 64, 128 + r / 64 % 64, 128 + r % 64].map fun x => x.toNat.toUInt8) = (r.toNat, 4) := by
      rw [decodeL_N]
      simp only [List.map_cons, List.map_nil, List.getD_cons_zero, List.getD_cons_succ, List.length_cons, List.length_nil]
      rw [e0, e1, e2, e3]
      unfold decodeN
      rw [if_neg (by omega), if_neg (by omega), if_neg (by omega), if_pos (by omega), if_pos (by omega)]
      congr 1
      omega
    refine key _ (by simp) ?_ ?_
    · rw [d]; simp only; omega
    · rw [d]; rfl
  · rw [encodeRuneZ_bad (by omega)]
    decide +kernel
theorem strG_valid : ∀ (n : Nat) (l : List UInt8) (p : Nat) (out : List UInt8) (x : List UInt8 × Nat), strG n l p out = some (some x) → validD out = true → validD x.1 = true
  | 0, _, _, _, _, h, _ => by simp [strG] at h
  | n + 1, l, p, out, x, h, ho => by
    unfold strG at h
    split at h
    · have e := Option.some.inj (Option.some.inj h)
      rw [← e]
      exact ho
    · split at h
      · cases h
      · exact strG_valid n l _ _ x h (valid_append _ _ _ (Nat.le_refl _) ho (valid_encode _))
theorem tripF_valid (l : List UInt8) (k : Nat) (x : List UInt8 × Nat) (h : tripF l k = some x) : validD x.1 = true := by
  unfold tripF at h
  split at h
  · cases h
  split at h
  · cases h
  rename_i h2
  have e := Option.some.inj h
  rw [← e]
  simpa using h2

/-! ### the literal of a text -/
theorem byteV_dropA (l a : List UInt8) (p i : Nat) (X : List UInt8) (h : l.drop p = a ++ X) (hi : i < a.length) : byteV l (p + i) = (a[i].toNat : Int) := by
  rw [← byteV_dropE, h]
  unfold byteV
  rw [dif_pos (by simp; omega), List.getElem_append_left hi]
theorem drop_appA (l a X : List UInt8) (p : Nat) (h : l.drop p = a ++ X) : l.drop (p + a.length) = X := by
  rw [← List.drop_drop, h]; simp
/-- A character of the literal is read. -/
theorem symF_lit (T : List UInt8) (p : Nat) (c : UInt8) (l' X : List UInt8) (hd : T.drop p = (c :: l').flatMap qb ++ X) (hv : validD (c :: l') = true) :
    ∃ r p' n : Nat, symF T p = some (r, p') ∧ 1 ≤ n ∧ n ≤ (c :: l').length ∧ encodeRune (r : Int) = (c :: l').take n ∧ validD ((c :: l').drop n) = true ∧ T.drop p' = ((c :: l').drop n).flatMap qb ++ X ∧ p + (((c :: l').take n).flatMap qb).length = p' := by
  have hp : p < T.length := by
    obtain ⟨x, y, e, -⟩ := qb_head c
    have := congrArg List.length hd
    rw [List.flatMap_cons, e] at this
    simp at this
    omega
  by_cases hc : 128 ≤ c.toNat
  · obtain ⟨hv1, hv2, hv3⟩ := body_high (c :: l') c l' rfl hc hv
    have hle := decodeL_le (c :: l') (by simp)
    have hw := decodeL_width (c :: l')
    have henc := encode_decode (c :: l') (by simp) hv1
    have hfl : ((c :: l').take (decodeL (c :: l')).2).flatMap qb = (c :: l').take (decodeL (c :: l')).2 := by
      have := hv3
      conv at this => lhs; rw [← List.take_append_drop (decodeL (c :: l')).2 (c :: l'), List.flatMap_append]
      exact List.append_cancel_right this
    rw [hv3, List.append_assoc] at hd
    have hpre : decodeL (T.drop p) = decodeL (c :: l') := by rw [hd, decodeL_pre _ _ (by simp) hv1]
    have d1 := drop_appA _ _ _ _ hd
    rw [List.length_take, Nat.min_eq_left hle] at d1
    have b0 : byteV T p = (c.toNat : Int) := by
      obtain ⟨m, hm⟩ : ∃ m, (decodeL (c :: l')).2 = m + 1 := ⟨(decodeL (c :: l')).2 - 1, by omega⟩
      have := byteV_dropA T _ p 0 _ hd (by rw [List.length_take, Nat.min_eq_left hle]; omega)
      simpa [hm] using this
    refine ⟨(decodeL (c :: l')).1, p + (decodeL (c :: l')).2, (decodeL (c :: l')).2, ?_, hw, hle, henc, hv2, d1, by rw [hfl, List.length_take, Nat.min_eq_left hle]⟩
    unfold symF
    rw [if_neg (by omega), if_neg (by omega), if_neg (by omega), hpre, if_neg hv1]
  · have hc : c.toNat < 128 := by omega
    have hv2 := body_low (c :: l') c l' rfl hc hv
    have htk : ((c :: l').take 1).flatMap qb = qb c := by simp
    rw [List.flatMap_cons, List.append_assoc] at hd
    have d1 := drop_appA _ _ _ _ hd
    have fin : ∀ p', symF T p = some (c.toNat, p') → p + (qb c).length = p' → ∃ r p' n : Nat, symF T p = some (r, p') ∧ 1 ≤ n ∧ n ≤ (c :: l').length ∧ encodeRune (r : Int) = (c :: l').take n ∧ validD ((c :: l').drop n) = true ∧ T.drop p' = ((c :: l').drop n).flatMap qb ++ X ∧ p + (((c :: l').take n).flatMap qb).length = p' := fun p' h1 h2 => by
      refine ⟨c.toNat, p', 1, h1, Nat.le_refl _, by simp, encode_low c hc, hv2, ?_, by rw [htk]; exact h2⟩
      rw [← h2]; exact d1
    have esc : ∀ x : UInt8, qb c = [92, x] → escF T p = some (c.toNat, p + 2) → ∃ r p' n : Nat, symF T p = some (r, p') ∧ 1 ≤ n ∧ n ≤ (c :: l').length ∧ encodeRune (r : Int) = (c :: l').take n ∧ validD ((c :: l').drop n) = true ∧ T.drop p' = ((c :: l').drop n).flatMap qb ++ X ∧ p + (((c :: l').take n).flatMap qb).length = p' := fun x hq hE => by
      refine fin (p + 2) ?_ (by rw [hq]; rfl)
      have b0 : byteV T p = 92 := by rw [hq] at hd; exact byteV_dropA T _ p 0 _ hd (by simp)
      unfold symF
      rw [if_neg (by omega), if_neg (by omega), if_pos b0]
      exact hE
    have b1 : ∀ x : UInt8, qb c = [92, x] → byteV T (p + 1) = (x.toNat : Int) := fun x hq => by
      rw [hq] at hd; exact byteV_dropA T _ p 1 _ hd (by simp)
    by_cases c10 : c = 10
    · subst c10; refine esc 110 rfl ?_; unfold escF; rw [b1 110 rfl]; rfl
    by_cases c9 : c = 9
    · subst c9; refine esc 116 rfl ?_; unfold escF; rw [b1 116 rfl]; rfl
    by_cases c13 : c = 13
    · subst c13; refine esc 114 rfl ?_; unfold escF; rw [b1 114 rfl]; rfl
    by_cases c0 : c = 0
    · subst c0; refine esc 48 rfl ?_; unfold escF; rw [b1 48 rfl]; rfl
    by_cases c34 : c = 34
    · subst c34; refine esc 34 rfl ?_; unfold escF; rw [b1 34 rfl]; rfl
    by_cases c92 : c = 92
    · subst c92; refine esc 92 rfl ?_; unfold escF; rw [b1 92 rfl]; rfl
    by_cases cx : c.toNat < 32 ∨ c.toNat = 127
    · have hq : qb c = [92, 120, hexB (c.toNat / 16), hexB (c.toNat % 16)] := by
        unfold qb
        rw [if_neg c10, if_neg c9, if_neg c13, if_neg c0, if_neg c34, if_neg c92, if_pos cx]
      have hd' := hd
      rw [hq] at hd'
      have b0 : byteV T p = 92 := byteV_dropA T _ p 0 _ hd' (by simp)
      have b1 : byteV T (p + 1) = 120 := byteV_dropA T _ p 1 _ hd' (by simp)
      have b2 : byteV T (p + 2) = ((hexB (c.toNat / 16)).toNat : Int) := byteV_dropA T _ p 2 _ hd' (by simp)
      have b3 : byteV T (p + 3) = ((hexB (c.toNat % 16)).toNat : Int) := byteV_dropA T _ p 3 _ hd' (by simp)
      have x2 := (hex_digit (c.toNat / 16) (by omega)).1
      have x3 := (hex_digit (c.toNat % 16) (by omega)).1
      refine fin (p + 4) ?_ (by rw [hq]; rfl)
      unfold symF
      rw [if_neg (by omega), if_neg (by omega), if_pos b0]
      unfold escF
      rw [b1]
      show codOk 127 (codF 2 T (p + 2) 0) = _
      have e : codF 2 T (p + 2) 0 = some (c.toNat, p + 4) := by
        unfold codF
        rw [b2, x2, if_neg (by omega)]
        unfold codF
        rw [show p + 2 + 1 = p + 3 by omega, b3, x3, if_neg (by omega)]
        unfold codF
        congr 2
        simp
        omega
      rw [e]
      unfold codOk
      simp only
      rw [if_neg]
      unfold runeV
      simp
      omega
    · have hq : qb c = [c] := by
        unfold qb
        rw [if_neg c10, if_neg c9, if_neg c13, if_neg c0, if_neg c34, if_neg c92, if_neg cx]
      have hd' := hd
      rw [hq] at hd'
      have b0 : byteV T p = (c.toNat : Int) := byteV_dropA T _ p 0 _ hd' (by simp)
      have n10 : c.toNat ≠ 10 := fun e => c10 (UInt8.toNat_inj.1 (by simpa using e))
      have n92 : c.toNat ≠ 92 := fun e => c92 (UInt8.toNat_inj.1 (by simpa using e))
      refine fin (p + 1) ?_ (by rw [hq]; rfl)
      unfold symF
      rw [if_neg (by omega), if_neg (by omega), if_neg (by omega), hd']
      simp only [List.cons_append, List.nil_append]
      rw [decodeL_ascii _ _ hc, if_neg (by simp only; omega)]
theorem strG_lit : ∀ (n : Nat) (T : List UInt8) (p : Nat) (l X out : List UInt8), l.length < n → T.drop p = l.flatMap qb ++ 34 :: X → validD l = true → strG n T p out = some (some (out ++ l, p + (l.flatMap qb).length + 1))
  | 0, _, _, _, _, _, h, _, _ => by omega
  | n + 1, T, p, [], X, out, hn, hd, hv => by
    have b0 : byteV T p = 34 := byteV_dropA T [34] p 0 X (by simpa using hd) (by simp)
    unfold strG
    rw [if_pos b0]
    simp
  | n + 1, T, p, c :: l', X, out, hn, hd, hv => by
    obtain ⟨r, p', m, h1, h2, h3, h4, h5, h6, h7⟩ := symF_lit T p c l' (34 :: X) hd hv
    have nq : byteV T p ≠ 34 := by
      obtain ⟨x, y, e, hx⟩ := qb_head c
      rw [List.flatMap_cons, e] at hd
      have := byteV_dropA T [x] p 0 (y ++ (List.flatMap qb l' ++ 34 :: X)) (by simpa using hd) (by simp)
      simp at this
      rw [this]
      intro q
      exact hx (UInt8.toNat_inj.1 (by have : (34 : UInt8).toNat = 34 := rfl; omega))
    unfold strG
    rw [if_neg nq, h1]
    simp only
    rw [strG_lit n T p' ((c :: l').drop m) X _ (by simp at hn ⊢; omega) h6 h5, h4]
    congr 3
    · rw [List.append_assoc, List.take_append_drop]
    · rw [← h7]
      conv => rhs; rw [← List.take_append_drop m (c :: l'), List.flatMap_append, List.length_append]
      omega


/-! ### numbers, written -/
/-- Digits of base ten. -/
def Dgs (ds : List Int) : Prop := ∀ d, d ∈ ds → 0 ≤ d ∧ d < 10
theorem runL_len (ds : List Int) : (runL ds).length = ds.length := by simp [runL]
theorem runL_byte (ds : List Int) (h : Dgs ds) (i : Nat) (hi : i < ds.length) : (((runL ds)[i]'(by rw [runL_len]; exact hi)).toNat : Int) = 48 + ds[i] := by
  have := h _ (List.getElem_mem hi)
  unfold runL
  rw [List.getElem_map, UInt8.toNat_ofNat']
  omega
theorem runL_at {T X : List UInt8} {k : Nat} {ds : List Int} (h : Dgs ds) (hd : T.drop k = runL ds ++ X) (i : Nat) (hi : i < ds.length) : byteV T (k + i) = 48 + ds[i] := by
  rw [byteV_dropA T _ k i X hd (by rw [runL_len]; exact hi), runL_byte ds h i hi]
theorem digitV_dec (d : Int) (h : 0 ≤ d ∧ d < 10) : digitV (48 + d) = d := by
  unfold digitV
  rw [if_pos (by omega)]
  omega
theorem digF_lit {T X : List UInt8} : ∀ (ds : List Int) (f k : Nat) (b : Bool), ds.length < f → Dgs ds → T.drop k = runL ds ++ X → 10 ≤ digitV (byteV T (k + ds.length)) → byteV T (k + ds.length) ≠ 95 → digF f T 10 k b = some (ds, k + ds.length)
  | _, 0, _, _, hf, _, _, _, _ => by omega
  | [], f + 1, k, b, hf, h, hd, h1, h2 => by
    simp only [List.length_nil, Nat.add_zero] at h1 h2 ⊢
    unfold digF
    rw [if_neg (by omega), if_neg (fun q => h2 q.1)]
  | d :: ds, f + 1, k, b, hf, h, hd, h1, h2 => by
    have hdd := h d List.mem_cons_self
    have b0 := runL_at h hd 0 (by simp)
    simp only [Nat.add_zero, List.getElem_cons_zero] at b0
    have hd' : T.drop (k + 1) = runL ds ++ X := by
      rw [← List.drop_drop, hd]
      rfl
    simp only [List.length_cons] at h1 h2 hf ⊢
    have ih := digF_lit ds f (k + 1) true (by omega) (fun x hx => h x (List.mem_cons_of_mem _ hx)) hd' (by rw [show k + 1 + ds.length = k + (ds.length + 1) by omega]; exact h1) (by rw [show k + 1 + ds.length = k + (ds.length + 1) by omega]; exact h2)
    unfold digF
    rw [b0, digitV_dec d hdd, if_pos hdd.2, ih]
    simp only
    congr 2
    omega
theorem runD_lit {T X : List UInt8} {ds : List Int} {k : Nat} (h : Dgs ds) (hd : T.drop k = runL ds ++ X) (hk : k + ds.length ≤ T.length) (h1 : 10 ≤ digitV (byteV T (k + ds.length))) (h2 : byteV T (k + ds.length) ≠ 95) : runD T 10 k = (ds, k + ds.length) := by
  have d2 := (runD_some T 10 k (by decide) (by omega)).1
  have d3 := digF_lit ds (T.length + 1) k false (by omega) h hd h1 h2
  rw [d2] at d3
  exact Option.some.inj d3
theorem digF_dgs : ∀ (f : Nat) (l : List UInt8) (k : Nat) (b : Bool) (r : List Int × Nat), digF f l 10 k b = some r → Dgs r.1
  | 0, _, _, _, _, h => by simp [digF] at h
  | f + 1, l, k, b, r, h => by
    unfold digF at h
    split at h
    · rename_i hd
      split at h
      · rename_i ds e he
        have ih := digF_dgs f l _ _ _ he
        have e2 := Option.some.inj h
        rw [← e2]
        intro d hd2
        rcases List.mem_cons.1 hd2 with rfl | hd2
        · refine ⟨?_, hd⟩
          have hb := byteV_range l k
          exact (digitV_range _ hb.1 hb.2).1
        · exact ih d hd2
      · cases h
    · split at h
      · exact digF_dgs f l _ _ _ h
      · have e2 := Option.some.inj h
        rw [← e2]
        intro d hd2
        cases hd2
theorem runD_dgs (l : List UInt8) (k : Nat) (hk : k ≤ l.length) : Dgs (runD l 10 k).1 := digF_dgs _ _ _ _ _ (runD_some l 10 k (by decide) hk).1

/-- The digits of a number. -/
def dgs : Nat → Nat → List Int
  | 0, _ => []
  | n + 1, v => if v / 10 = 0 then [((v % 10 : Nat) : Int)] else dgs n (v / 10) ++ [((v % 10 : Nat) : Int)]
theorem decL_dgs : ∀ (n v : Nat) (acc : List UInt8), decL n v acc = runL (dgs n v) ++ acc
  | 0, _, _ => rfl
  | n + 1, v, acc => by
    unfold decL dgs
    split
    · rfl
    · rw [decL_dgs n]
      unfold runL
      rw [List.map_append, List.append_assoc]
      rfl
theorem dgs_ok : ∀ (n v : Nat), Dgs (dgs n v)
  | 0, _ => fun d h => by cases h
  | n + 1, v => by
    unfold dgs
    split
    · intro d h; simp at h; omega
    · intro d h
      rcases List.mem_append.1 h with h | h
      · exact dgs_ok n _ d h
      · simp at h; omega
theorem valD_snocX (base : Nat) : ∀ (ds : List Int) (d : Int) (a : Nat), valD base (ds ++ [d]) a = valD base ds a * base + d.toNat
  | [], d, a => rfl
  | e :: ds, d, a => by
    simp only [List.cons_append, valD]
    exact valD_snocX base ds d _
theorem dgs_val : ∀ (n v : Nat), v < 10 ^ n → valD 10 (dgs n v) 0 = v
  | 0, v, h => by
    have : v = 0 := by simpa using h
    subst this; rfl
  | n + 1, v, h => by
    unfold dgs
    split
    · simp [valD]; omega
    · rw [valD_snocX, dgs_val n (v / 10) (by rw [Nat.pow_succ] at h; omega)]
      simp
      omega
theorem dgs_head : ∀ (n v : Nat), 0 < n → ∃ d ds, dgs n v = d :: ds ∧ (d = 0 → v < 10 ^ n → ds = [])
  | 0, _, h => by omega
  | n + 1, v, _ => by
    unfold dgs
    split
    · exact ⟨_, _, rfl, fun _ _ => rfl⟩
    · rename_i hv
      rcases Nat.eq_zero_or_pos n with rfl | hn
      · exact ⟨_, _, rfl, fun _ _ => rfl⟩
      · obtain ⟨d, ds, e, h⟩ := dgs_head n (v / 10) hn
        refine ⟨d, ds ++ [((v % 10 : Nat) : Int)], by rw [e]; rfl, fun h0 hl => ?_⟩
        exfalso
        have hlt : v / 10 < 10 ^ n := by rw [Nat.pow_succ] at hl; omega
        have := h h0 hlt
        subst this h0
        have hval := dgs_val n (v / 10) hlt
        rw [e] at hval
        simp [valD] at hval
        omega
theorem not_pre {T : List UInt8} {k : Nat} {a b : UInt8} (h : byteV T k ≠ (a.toNat : Int) ∨ byteV T (k + 1) ≠ (b.toNat : Int)) : hasPre (T.drop k) [a, b] = false := by
  cases hq : hasPre (T.drop k) [a, b] with
  | false => rfl
  | true =>
    obtain ⟨-, h2, h3⟩ := (pre_byte _ _ _ _).1 hq
    rcases h with h | h
    · exact absurd h2 h
    · exact absurd h3 h
theorem len_in {T w X : List UInt8} {k : Nat} (hk : k ≤ T.length) (hd : T.drop k = w ++ X) : k + w.length ≤ T.length := by
  have := congrArg List.length hd
  simp at this
  omega
/-- An integer, written in ten digits, is read. -/
theorem int_lit {T X : List UInt8} {k v : Nat} (hk : k ≤ T.length) (hv : v < 18446744073709551616 * 18446744073709551616) (hd : T.drop k = decL 40 v [] ++ X) (hs : stopC (byteV T (k + (decL 40 v []).length)) = true) :
    numF T k = some (3, decL 40 v [], k + (decL 40 v []).length) ∧ digitB (byteV T k) = true := by
  have hp : v < 10 ^ 40 := Nat.lt_trans hv (by decide)
  have e : decL 40 v [] = runL (dgs 40 v) := by rw [decL_dgs, List.append_nil]
  have hl := len_in hk hd
  obtain ⟨d, ds, hh, h0⟩ := dgs_head 40 v (by decide)
  have ok := dgs_ok 40 v
  have hval := dgs_val 40 v hp
  rw [e] at hd hs hl ⊢
  rw [runL_len] at hs hl ⊢
  rw [hh] at hd hs hl ok hval ⊢
  have R := runD_lit ok hd hl (by rw [stop_digitV hs]; decide) (fun q => by rw [q] at hs; revert hs; decide)
  have b0 := runL_at ok hd 0 (by simp)
  simp only [Nat.add_zero, List.getElem_cons_zero] at b0
  have d0 := ok d List.mem_cons_self
  have np : ∀ b : UInt8, stopC (b.toNat : Int) = false → hasPre (T.drop k) [48, b] = false := fun b hb => by
    apply not_pre
    by_cases hz : d = 0
    · right
      intro q
      rw [h0 hz hp] at hs
      simp only [List.length_cons, List.length_nil] at hs
      rw [q, hb] at hs
      cases hs
    · left
      rw [b0]
      intro q
      have : ((48 : UInt8).toNat : Int) = 48 := rfl
      omega
  have F : decF T k = (3, decL 40 v [], true, k + (d :: ds).length) := by
    unfold decF
    rw [R]
    simp only
    rw [if_neg (fun q => by rw [q.1] at hs; revert hs; decide), if_neg (by rw [stop_eB hs]; decide), hval]
    have c1 : cutW v = v := Nat.mod_eq_of_lt hv
    have c2 : fitsW v = true := by unfold fitsW; exact decide_eq_true hv
    rw [c1, c2]
    rfl
  refine ⟨?_, ?_⟩
  · unfold numF rawF
    rw [np 120 (by decide), np 98 (by decide)]
    simp only [Bool.false_eq_true, if_false]
    rw [F]
    simp only
    rw [if_pos ⟨trivial, stop_word hs⟩, e, hh]
  · rw [b0]
    unfold digitB
    simp
    omega

/-! ### numbers with a point or an exponent -/
/-- An exponent: its sign, its digits. -/
def Expo (e : List UInt8) : Prop := e = [] ∨ ∃ sg ds, e = 101 :: (sg ++ runL ds) ∧ (sg = [] ∨ sg = [43] ∨ sg = [45]) ∧ ds ≠ [] ∧ Dgs ds
/-- The text of a Float. -/
def FloatT (t : List UInt8) : Prop := ∃ ds e, ds ≠ [] ∧ Dgs ds ∧ Expo e ∧ ((∃ ds2, ds2 ≠ [] ∧ Dgs ds2 ∧ t = runL ds ++ 46 :: runL ds2 ++ e) ∨ (e ≠ [] ∧ t = runL ds ++ e))
theorem expF_form (l t : List UInt8) (k : Nat) (_ : k ≤ l.length) (ok : (expF l t k).2.1 = true) : ∃ e, Expo e ∧ (expF l t k).1 = t ++ e ∧ (eB (byteV l k) = true → e ≠ []) := by
  unfold expF at ok ⊢
  split at ok
  · rename_i he
    rw [if_pos he]
    have hk : k < l.length := byteV_in (fun e => by rw [e] at he; revert he; decide)
    split at ok
    · rename_i h1
      rw [if_pos h1]
      have h1' := byteV_in (l := l) (k := k + 1) (by omega)
      simp only at ok ⊢
      refine ⟨101 :: ([43] ++ runL (runD l 10 (k + 2)).1), .inr ⟨[43], _, rfl, .inr (.inl rfl), by intro q; rw [q] at ok; simp at ok, runD_dgs l _ (by omega)⟩, rfl, fun _ => by simp⟩
    · rename_i h1
      rw [if_neg h1]
      split at ok
      · rename_i h2
        rw [if_pos h2]
        have h1' := byteV_in (l := l) (k := k + 1) (by omega)
        simp only at ok ⊢
        refine ⟨101 :: ([45] ++ runL (runD l 10 (k + 2)).1), .inr ⟨[45], _, rfl, .inr (.inr rfl), by intro q; rw [q] at ok; simp at ok, runD_dgs l _ (by omega)⟩, rfl, fun _ => by simp⟩
      · rename_i h2
        rw [if_neg h2]
        simp only at ok ⊢
        refine ⟨101 :: ([] ++ runL (runD l 10 (k + 1)).1), .inr ⟨[], _, rfl, .inl rfl, by intro q; rw [q] at ok; simp at ok, runD_dgs l _ (by omega)⟩, rfl, fun _ => by simp⟩
  · rename_i he
    rw [if_neg he]
    exact ⟨[], .inl rfl, by simp, fun h => absurd h he⟩
theorem decF_form (l : List UInt8) (k : Nat) (hk : k < l.length) (hd : digitB (byteV l k) = true) (h4 : (decF l k).1 = 4) (ok : (decF l k).2.2.1 = true) : FloatT (decF l k).2.1 := by
  have hv : digitV (byteV l k) < 10 := digitB_V hd
  have g0 := (runD_ge' l 10 (by decide) k (by omega)).2 hv
  have s0 := (runD_some l 10 k (by decide) (by omega)).2.1
  have D0 := runD_dgs l k (by omega)
  have N0 : (runD l 10 k).1 ≠ [] := by
    have h := (runD_some l 10 k (by decide) (by omega)).1
    unfold digF at h
    rw [if_pos hv] at h
    split at h
    · have e := congrArg Prod.fst (Option.some.inj h)
      simp only at e
      rw [← e]; simp
    · cases h
  unfold decF at h4 ok ⊢
  split at ok
  · rename_i hp
    rw [if_pos hp]
    simp only at ok ⊢
    have h1 := byteV_in (l := l) (k := (runD l 10 k).2) (by omega)
    have h2 := byteV_in (l := l) (k := (runD l 10 k).2 + 1) (fun e => by have := hp.2; rw [e] at this; revert this; decide)
    have hv2 := digitB_V hp.2
    have s1 := (runD_some l 10 ((runD l 10 k).2 + 1) (by decide) (by omega)).2.1
    have N1 : (runD l 10 ((runD l 10 k).2 + 1)).1 ≠ [] := by
      have h := (runD_some l 10 ((runD l 10 k).2 + 1) (by decide) (by omega)).1
      unfold digF at h
      rw [if_pos hv2] at h
      split at h
      · have e := congrArg Prod.fst (Option.some.inj h)
        simp only at e
        rw [← e]; simp
      · cases h
    obtain ⟨e, E1, E2, -⟩ := expF_form l _ _ s1 ok
    exact ⟨_, e, N0, D0, E1, .inl ⟨_, N1, runD_dgs l _ (by omega), E2⟩⟩
  · rename_i hp
    rw [if_neg hp] at h4 ⊢
    split at ok
    · rename_i he
      rw [if_pos he]
      simp only at ok ⊢
      obtain ⟨e, E1, E2, E3⟩ := expF_form l _ _ s0 ok
      exact ⟨_, e, N0, D0, E1, .inr ⟨E3 he, E2⟩⟩
    · rename_i he
      rw [if_neg he] at h4
      simp at h4
theorem expF_lit {T e X : List UInt8} {k : Nat} (t : List UInt8) (hk : k ≤ T.length) (he : Expo e) (hd : T.drop k = e ++ X) (hs : stopC (byteV T (k + e.length)) = true) : expF T t k = (t ++ e, true, k + e.length) := by
  have hl := len_in hk hd
  rcases he with rfl | ⟨sg, ds, rfl, hsg, hne, ok⟩
  · simp only [List.length_nil, Nat.add_zero] at hs ⊢
    unfold expF
    rw [if_neg (by rw [stop_eB hs]; decide)]
    simp
  · have b0 : byteV T k = 101 := by
      have := byteV_dropA T _ k 0 X hd (by simp)
      simpa using this
    obtain ⟨d, ds', rfl⟩ : ∃ d ds', ds = d :: ds' := by
      cases ds with
      | nil => exact absurd rfl hne
      | cons d ds' => exact ⟨d, ds', rfl⟩
    have d0 := ok d List.mem_cons_self
    have ns : byteV T (k + (101 :: (sg ++ runL (d :: ds'))).length) ≠ 95 := fun q => by rw [q] at hs; revert hs; decide
    have nd := stop_digitV hs
    rcases hsg with rfl | rfl | rfl
    · have hd1 : T.drop (k + 1) = runL (d :: ds') ++ X := by rw [← List.drop_drop, hd]; rfl
      simp only [List.nil_append, List.length_cons, runL_len] at hs ns nd hl ⊢
      have R := runD_lit ok hd1 (by simp only [List.length_cons]; omega) (by simp only [List.length_cons]; rw [show k + 1 + (ds'.length + 1) = k + (ds'.length + 1 + 1) by omega, nd]; decide) (by simp only [List.length_cons]; rw [show k + 1 + (ds'.length + 1) = k + (ds'.length + 1 + 1) by omega]; exact ns)
      have b1 := runL_at ok hd1 0 (by simp)
      simp only [Nat.add_zero, List.getElem_cons_zero] at b1
      unfold expF
      rw [if_pos (by rw [b0]; decide), if_neg (by omega), if_neg (by omega), R]
      simp only [List.length_cons]
      rw [show k + 1 + (ds'.length + 1) = k + (ds'.length + 1 + 1) by omega]
      rfl
    · have hd2 : T.drop (k + 2) = runL (d :: ds') ++ X := by rw [← List.drop_drop, hd]; rfl
      have b1 : byteV T (k + 1) = 43 := by
        have := byteV_dropA T _ k 1 X hd (by simp)
        simpa using this
      simp only [List.cons_append, List.nil_append, List.length_cons, runL_len] at hs ns nd hl ⊢
      have R := runD_lit ok hd2 (by simp only [List.length_cons]; omega) (by simp only [List.length_cons]; rw [show k + 2 + (ds'.length + 1) = k + (ds'.length + 1 + 1 + 1) by omega, nd]; decide) (by simp only [List.length_cons]; rw [show k + 2 + (ds'.length + 1) = k + (ds'.length + 1 + 1 + 1) by omega]; exact ns)
      unfold expF
      rw [if_pos (by rw [b0]; decide), if_pos b1, R]
      simp only [List.length_cons]
      rw [show k + 2 + (ds'.length + 1) = k + (ds'.length + 1 + 1 + 1) by omega]
      rfl
    · have hd2 : T.drop (k + 2) = runL (d :: ds') ++ X := by rw [← List.drop_drop, hd]; rfl
      have b1 : byteV T (k + 1) = 45 := by
        have := byteV_dropA T _ k 1 X hd (by simp)
        simpa using this
      simp only [List.cons_append, List.nil_append, List.length_cons, runL_len] at hs ns nd hl ⊢
      have R := runD_lit ok hd2 (by simp only [List.length_cons]; omega) (by simp only [List.length_cons]; rw [show k + 2 + (ds'.length + 1) = k + (ds'.length + 1 + 1 + 1) by omega, nd]; decide) (by simp only [List.length_cons]; rw [show k + 2 + (ds'.length + 1) = k + (ds'.length + 1 + 1 + 1) by omega]; exact ns)
      unfold expF
      rw [if_pos (by rw [b0]; decide), if_neg (by omega), if_pos b1, R]
      simp only [List.length_cons]
      rw [show k + 2 + (ds'.length + 1) = k + (ds'.length + 1 + 1 + 1) by omega]
      rfl
theorem expo_next {T e X : List UInt8} {k : Nat} (he : Expo e) (hd : T.drop k = e ++ X) (hs : stopC (byteV T (k + e.length)) = true) : 10 ≤ digitV (byteV T k) ∧ byteV T k ≠ 95 ∧ byteV T k ≠ 120 ∧ byteV T k ≠ 98 ∧ (e ≠ [] → byteV T k = 101) := by
  rcases he with rfl | ⟨sg, ds, rfl, -, -, -⟩
  · simp only [List.length_nil, Nat.add_zero] at hs
    refine ⟨by rw [stop_digitV hs]; decide, ?_, ?_, ?_, fun h => absurd rfl h⟩
    all_goals (intro q; rw [q] at hs; revert hs; decide)
  · have b0 : byteV T k = 101 := by
      have := byteV_dropA T _ k 0 X hd (by simp)
      simpa using this
    rw [b0]
    exact ⟨by decide, by decide, by decide, by decide, fun _ => rfl⟩
theorem float_lit {T X t : List UInt8} {k : Nat} (hk : k ≤ T.length) (hf : FloatT t) (hd : T.drop k = t ++ X) (hs : stopC (byteV T (k + t.length)) = true) : numF T k = some (4, t, k + t.length) ∧ digitB (byteV T k) = true := by
  have hl := len_in hk hd
  obtain ⟨ds, e, hne, ok, he, hc⟩ := hf
  obtain ⟨d, ds', rfl⟩ : ∃ d ds', ds = d :: ds' := by
    cases ds with
    | nil => exact absurd rfl hne
    | cons d ds' => exact ⟨d, ds', rfl⟩
  have d0 := ok d List.mem_cons_self
  obtain ⟨Y, hY⟩ : ∃ Y, t = runL (d :: ds') ++ Y := by
    rcases hc with ⟨ds2, -, -, h⟩ | ⟨-, h⟩
    · exact ⟨46 :: runL ds2 ++ e, by rw [h]; simp⟩
    · exact ⟨e, h⟩
  have hdY : T.drop k = runL (d :: ds') ++ (Y ++ X) := by rw [hd, hY, List.append_assoc]
  have b0 := runL_at ok hdY 0 (by simp)
  simp only [Nat.add_zero, List.getElem_cons_zero] at b0
  have dig : digitB (byteV T k) = true := by rw [b0]; unfold digitB; simp; omega
  have hkY := drop_appA _ _ _ _ hdY
  rw [runL_len] at hkY
  have fin : decF T k = (4, t, true, k + t.length) → byteV T (k + 1) ≠ 120 → byteV T (k + 1) ≠ 98 → numF T k = some (4, t, k + t.length) ∧ digitB (byteV T k) = true := fun F n1 n2 => by
    refine ⟨?_, dig⟩
    unfold numF rawF
    rw [not_pre (a := 48) (b := 120) (.inr n1), not_pre (a := 48) (b := 98) (.inr n2)]
    simp only [Bool.false_eq_true, if_false]
    rw [F]
    simp only
    rw [if_pos ⟨trivial, stop_word hs⟩]
  have second : ∀ c : Int, (c = 120 ∨ c = 98) → byteV T (k + (d :: ds').length) ≠ c → byteV T (k + 1) ≠ c := fun c hcc hn q => by
    cases ds' with
    | nil => exact hn q
    | cons d2 ds2 =>
      have := runL_at ok hdY 1 (by simp)
      simp only [List.getElem_cons_succ, List.getElem_cons_zero] at this
      have := ok d2 (by simp)
      omega
  rcases hc with ⟨ds2, hne2, ok2, h⟩ | ⟨hee, h⟩
  · have hY2 : Y = 46 :: (runL ds2 ++ e) := by
      rw [hY, List.append_assoc] at h
      exact List.append_cancel_left h
    obtain ⟨d2, ds2', rfl⟩ : ∃ d ds', ds2 = d :: ds' := by
      cases ds2 with
      | nil => exact absurd rfl hne2
      | cons d ds' => exact ⟨d, ds', rfl⟩
    rw [hY2] at hkY
    have b46 : byteV T (k + (d :: ds').length) = 46 := by
      have := byteV_dropA T [46] (k + (d :: ds').length) 0 (runL (d2 :: ds2') ++ e ++ X) (by rw [hkY]; simp) (by simp)
      simpa using this
    have hk2 : T.drop (k + (d :: ds').length + 1) = runL (d2 :: ds2') ++ (e ++ X) := by rw [← List.drop_drop, hkY]; simp
    have hk3 := drop_appA _ _ _ _ hk2
    rw [runL_len] at hk3
    have tl : t.length = (d :: ds').length + 1 + (d2 :: ds2').length + e.length := by
      rw [hY, hY2]; simp [runL_len]; omega
    have hs3 : stopC (byteV T (k + (d :: ds').length + 1 + (d2 :: ds2').length + e.length)) = true := by
      rw [show k + (d :: ds').length + 1 + (d2 :: ds2').length + e.length = k + t.length by omega]; exact hs
    obtain ⟨x1, x2, -, -, -⟩ := expo_next he hk3 hs3
    have R1 := runD_lit ok hdY (by omega) (by rw [b46]; decide) (by rw [b46]; decide)
    have R2 := runD_lit ok2 hk2 (by omega) x1 x2
    have E := expF_lit (runL (d :: ds') ++ 46 :: runL (d2 :: ds2')) (by omega) he hk3 hs3
    have b2 := runL_at ok2 hk2 0 (by simp)
    simp only [Nat.add_zero, List.getElem_cons_zero] at b2
    have d20 := ok2 d2 List.mem_cons_self
    refine fin ?_ (second 120 (.inl rfl) (by rw [b46]; decide)) (second 98 (.inr rfl) (by rw [b46]; decide))
    unfold decF
    rw [R1]
    simp only
    rw [if_pos ⟨b46, by rw [b2]; unfold digitB; simp; omega⟩, R2]
    simp only
    rw [E, h, show k + (d :: ds').length + 1 + (d2 :: ds2').length + e.length = k + t.length by omega, ← h]
  · have hY2 : Y = e := by
      rw [hY] at h
      exact List.append_cancel_left h
    rw [hY2] at hkY
    have tl : t.length = (d :: ds').length + e.length := by
      rw [hY, hY2]; simp [runL_len]
    have hs3 : stopC (byteV T (k + (d :: ds').length + e.length)) = true := by
      rw [show k + (d :: ds').length + e.length = k + t.length by omega]; exact hs
    obtain ⟨x1, x2, x3, x4, x5⟩ := expo_next he hkY hs3
    have b101 := x5 hee
    have R1 := runD_lit ok hdY (by omega) x1 x2
    have E := expF_lit (runL (d :: ds')) (by omega) he hkY hs3
    refine fin ?_ (second 120 (.inl rfl) x3) (second 98 (.inr rfl) x4)
    unfold decF
    rw [R1]
    simp only
    rw [if_neg (by rw [b101]; omega), if_pos (by rw [b101]; decide), E, ← h, show k + (d :: ds').length + e.length = k + t.length by omega]


/-- How a token is written. -/
def wr (kd : Int) (tx : List UInt8) : List UInt8 := if kd = 5 then qs tx ++ [34] else tx
theorem agree_of {l T X : List UInt8} {p k m : Nat} (hp : p + m ≤ l.length) (hk : k ≤ T.length) (hd : T.drop k = (l.drop p).take m ++ X) (hs : stopC (byteV T (k + m)) = true) : Agree l p T k m := by
  have hm : ((l.drop p).take m).length = m := by simp; omega
  have hl := len_in hk hd
  rw [hm] at hl
  refine ⟨hp, hl, fun i hi => ?_, hs⟩
  rw [byteV_dropA T _ k i X hd (by omega)]
  unfold byteV
  rw [dif_pos (by omega)]
  simp
theorem numF_form {l : List UInt8} {k a e : Nat} {t : List UInt8} (hk : k < l.length) (hd : digitB (byteV l k) = true) (h : numF l k = some (a, t, e)) :
    (a = 3 ∧ ∃ v, v < 18446744073709551616 * 18446744073709551616 ∧ t = decL 40 v []) ∨ (a = 4 ∧ FloatT t) := by
  have ofInt : ∀ base j, (intF l base j).2.2.1 = true → (intF l base j).1 = 3 ∧ ∃ v, v < 18446744073709551616 * 18446744073709551616 ∧ (intF l base j).2.1 = decL 40 v [] := fun base j h => by
    unfold intF at h ⊢
    simp only [Bool.and_eq_true] at h
    have hf := of_decide_eq_true (h.2 : decide _ = true)
    exact ⟨rfl, _, Nat.mod_lt _ (by decide), rfl⟩
  unfold numF at h
  split at h
  · rename_i hc
    have e1 := Option.some.inj h
    simp only [Prod.mk.injEq] at e1
    obtain ⟨rfl, rfl, -⟩ := e1
    obtain ⟨ok, -⟩ := hc
    unfold rawF at ok ⊢
    split at ok
    · rename_i hp
      rw [if_pos hp]
      exact .inl (ofInt _ _ ok)
    · rename_i hp
      rw [if_neg hp]
      split at ok
      · rename_i hq
        rw [if_pos hq]
        exact .inl (ofInt _ _ ok)
      · rename_i hq
        rw [if_neg hq]
        by_cases h4 : (decF l k).1 = 4
        · exact .inr ⟨h4, decF_form l k hk hd h4 ok⟩
        · left
          unfold decF at h4 ok ⊢
          split at ok
          · rename_i hx; rw [if_pos hx] at h4; exact absurd rfl h4
          · rename_i hx
            rw [if_neg hx] at h4 ⊢
            split at ok
            · rename_i hy; rw [if_pos hy] at h4; exact absurd rfl h4
            · rename_i hy
              rw [if_neg hy] at h4 ⊢
              exact ⟨rfl, _, Nat.mod_lt _ (by decide), rfl⟩
  · cases h
theorem stopped_byte {T : List UInt8} {k : Nat} (hk : k < T.length) (h1 : byteV T k ≠ 10) (h2 : byteV T k ≠ 32) (h3 : byteV T k ≠ 9) (h4 : byteV T k ≠ 13) (h5 : byteV T k ≠ 47) : Stopped T k :=
  ⟨hk, h1, by omega, not_pre (.inl h5), not_pre (.inl h5)⟩
theorem digit_stopped {T : List UInt8} {k : Nat} (h : digitB (byteV T k) = true) : Stopped T k := by
  have hk : k < T.length := byteV_in (fun e => by rw [e] at h; revert h; decide)
  unfold digitB at h
  simp at h
  exact stopped_byte hk (by omega) (by omega) (by omega) (by omega) (by omega)
theorem num_again {T X t : List UInt8} {k a : Nat} (hk : k ≤ T.length) (hf : (a = 3 ∧ ∃ v, v < 18446744073709551616 * 18446744073709551616 ∧ t = decL 40 v []) ∨ (a = 4 ∧ FloatT t)) (hd : T.drop k = t ++ X) (hs : stopC (byteV T (k + t.length)) = true) :
    tokG T k = some (.inl ((a : Int), t, k + t.length)) ∧ Stopped T k := by
  obtain ⟨n, d⟩ : numF T k = some (a, t, k + t.length) ∧ digitB (byteV T k) = true := by
    rcases hf with ⟨rfl, v, hv, rfl⟩ | ⟨rfl, hf⟩
    · exact int_lit hk hv hd hs
    · exact float_lit hk hf hd hs
  refine ⟨?_, digit_stopped d⟩
  unfold tokG
  rw [if_pos d, n]
theorem str_again {T X t : List UInt8} {k : Nat} (hk : k ≤ T.length) (hv : validD t = true) (hd : T.drop k = (qs t ++ [34]) ++ X) (hs : stopC (byteV T (k + (qs t ++ [34]).length)) = true) :
    tokG T k = some (.inl (5, t, k + (qs t ++ [34]).length)) ∧ Stopped T k := by
  have hl := len_in hk hd
  have b0 : byteV T k = 34 := by
    have := byteV_dropA T _ k 0 X hd (by simp)
    simpa [qs] using this
  have hlen : (qs t ++ [34]).length = 1 + (t.flatMap qb).length + 1 := by simp [qs]; omega
  have hd1 : T.drop (k + 1) = t.flatMap qb ++ 34 :: X := by
    rw [← List.drop_drop, hd]
    simp [qs]
  have hll : t.length ≤ (t.flatMap qb).length := by
    clear hd hs hv hl hlen hd1
    induction t with
    | nil => simp
    | cons c l ih =>
      obtain ⟨x, y, e, _⟩ := qb_head c
      rw [List.flatMap_cons, e, List.length_append, List.length_cons, List.length_cons]; omega
  have S := strG_lit (T.length + 1) T (k + 1) t X [] (by omega) hd1 hv
  have n3 : hasPre (T.drop k) [34, 34, 34] = false := by
    cases hq : hasPre (T.drop k) [34, 34, 34] with
    | false => rfl
    | true =>
      obtain ⟨-, -, g1, g2⟩ := (pre3_byte _ _ _ _ _).1 hq
      cases t with
      | nil =>
        simp [qs] at hs
        rw [g2] at hs
        revert hs; decide
      | cons c l =>
        obtain ⟨x, y, e, hx⟩ := qb_head c
        have := byteV_dropA T (x :: y ++ List.flatMap qb l) (k + 1) 0 (34 :: X) (by rw [hd1, List.flatMap_cons, e]) (by simp)
        simp only [Nat.add_zero, List.cons_append, List.getElem_cons_zero] at this
        rw [g1] at this
        exact absurd (UInt8.toNat_inj.1 (by have h34 : (34 : UInt8).toNat = 34 := rfl; omega)) hx
  refine ⟨?_, stopped_byte (by omega) (by omega) (by omega) (by omega) (by omega) (by omega)⟩
  unfold tokG
  rw [b0, if_neg (by decide), if_neg (by decide), if_pos rfl, n3]
  simp only [Bool.false_eq_true, if_false]
  rw [S]
  simp only [List.nil_append]
  rw [hlen, show k + 1 + (t.flatMap qb).length + 1 = k + (1 + (t.flatMap qb).length + 1) by omega]

/-- What a token that was read has: its kind, its text; written elsewhere it is read again. -/
structure Again (kd : Int) (tx : List UInt8) : Prop where
  kinds : kd = 1 ∨ kd = 2 ∨ kd = 3 ∨ kd = 4 ∨ kd = 5 ∨ kd = 6
  full : 0 < (wr kd tx).length
  valid : kd = 5 → validD tx = true
  again : ∀ (T X : List UInt8) (k : Nat), k ≤ T.length → T.drop k = wr kd tx ++ X → stopC (byteV T (k + (wr kd tx).length)) = true → tokG T k = some (.inl (kd, tx, k + (wr kd tx).length)) ∧ Stopped T k
theorem bestPre (l : List UInt8) (k : Nat) (hne : symOf l k ≠ []) : symOf l k = (l.drop k).take (symOf l k).length := by
  obtain ⟨-, b2, -⟩ := best_facts l k symBytes []
  rw [← symOf_all] at b2
  rcases b2 with b2 | ⟨-, b2, -⟩
  · exact absurd b2 hne
  · unfold hasPre at b2
    rw [List.isPrefixOf_iff_prefix] at b2
    exact List.prefix_iff_eq_take.1 b2
theorem again_of {l : List UInt8} {p : Nat} {kd : Int} {tx : List UInt8} {e : Nat} (hst : Stopped l p) (h : tokG l p = some (.inl (kd, tx, e))) : Again kd tx := by
  have hp := hst.lt
  have hend := tokG_end l p hp h
  simp only at hend
  -- a token that is written as it stands
  have plain : (kd = 1 ∨ kd = 2 ∨ kd = 6) → tx = (l.drop p).take (e - p) → Again kd tx := fun hk ht => by
    have hlen : tx.length = e - p := by rw [ht]; simp; omega
    have hw : wr kd tx = tx := by unfold wr; rw [if_neg (by omega)]
    refine ⟨by omega, by rw [hw]; omega, fun q => by omega, fun T X k hk2 hd hs => ?_⟩
    rw [hw] at hd hs ⊢
    rw [ht] at hd
    have A := agree_of (m := e - p) (by omega) hk2 hd (by rw [← hlen]; exact hs)
    have R := tokG_loc A (by omega) (m := e - p) (by rw [h, show p + (e - p) = e by omega]) (Nat.le_refl _)
    rw [R, hlen]
    exact ⟨rfl, hst.loc A (by omega)⟩
  have num : ∀ (a : Nat) (t : List UInt8), ((a = 3 ∧ ∃ v, v < 18446744073709551616 * 18446744073709551616 ∧ t = decL 40 v []) ∨ (a = 4 ∧ FloatT t)) → Again (a : Int) t := fun a t hf => by
    have ha : (a : Int) = 3 ∨ (a : Int) = 4 := by rcases hf with ⟨h, -⟩ | ⟨h, -⟩ <;> omega
    have hw : wr (a : Int) t = t := by unfold wr; rw [if_neg (by omega)]
    refine ⟨by omega, ?_, fun q => by omega, fun T X k hk2 hd hs => ?_⟩
    · rw [hw]
      rcases hf with ⟨-, v, -, rfl⟩ | ⟨-, ds, e, hne, -, -, hc⟩
      · obtain ⟨d, ds, hh, -⟩ := dgs_head 40 v (by decide)
        rw [decL_dgs, hh]
        simp [runL]
      · have : 0 < ds.length := List.length_pos_iff.2 hne
        rcases hc with ⟨ds2, -, -, rfl⟩ | ⟨-, rfl⟩
        · simp [runL_len]; omega
        · simp [runL_len]; omega
    · rw [hw] at hd hs ⊢
      exact num_again hk2 hf hd hs
  have str : ∀ t : List UInt8, validD t = true → Again 5 t := fun t hv => by
    have hw : wr 5 t = qs t ++ [34] := by unfold wr; rw [if_pos rfl]
    refine ⟨by omega, by rw [hw]; simp, fun _ => hv, fun T X k hk2 hd hs => ?_⟩
    rw [hw] at hd hs ⊢
    exact str_again hk2 hv hd hs
  have h' := h
  unfold tokG at h
  split at h
  · rename_i hd
    split at h
    · rename_i x hx
      obtain ⟨a, t, e'⟩ := x
      have e1 := Sum.inl.inj (Option.some.inj h)
      simp only [Prod.mk.injEq] at e1
      obtain ⟨rfl, rfl, rfl⟩ := e1
      exact num a t (numF_form hp hd hx)
    · cases h
  split at h
  · have e1 := Sum.inl.inj (Option.some.inj h)
    simp only [Prod.mk.injEq] at e1
    obtain ⟨e1, e2, e3⟩ := e1
    refine plain ?_ (by rw [← e2, e3])
    rw [← e1]
    unfold kwKind
    split <;> simp
  split at h
  · split at h
    · split at h
      · rename_i x hx
        have e1 := Sum.inl.inj (Option.some.inj h)
        simp only [Prod.mk.injEq] at e1
        obtain ⟨rfl, rfl, -⟩ := e1
        exact str _ (tripF_valid _ _ _ hx)
      · cases h
    · split at h
      · rename_i x hx
        have e1 := Sum.inl.inj (Option.some.inj h)
        simp only [Prod.mk.injEq] at e1
        obtain ⟨rfl, rfl, -⟩ := e1
        exact str _ (strG_valid _ _ _ _ _ hx rfl)
      · cases h
      · cases h
  split at h
  · split at h
    · rename_i x hx
      have e1 := Sum.inl.inj (Option.some.inj h)
      simp only [Prod.mk.injEq] at e1
      obtain ⟨rfl, rfl, -⟩ := e1
      have hx1 : x.1 ≤ 1114111 := by
        unfold chrF at hx
        split at hx
        · cases hx
        split at hx
        · cases hx
        rename_i y hy
        split at hx
        · cases hx
        split at hx
        · cases hx
        have e2 := Sum.inl.inj hx
        rw [← e2]
        exact (symF_le _ _ _ hy).1
      exact num 3 _ (.inl ⟨rfl, x.1, by omega, rfl⟩)
    · cases h
  split at h
  · cases h
  · rename_i hne
    have e1 := Sum.inl.inj (Option.some.inj h)
    simp only [Prod.mk.injEq] at e1
    obtain ⟨rfl, rfl, e3⟩ := e1
    exact plain (.inr (.inr rfl)) (by rw [← e3, show p + (symOf l p).length - p = (symOf l p).length by omega]; exact bestPre l p hne)


/-- What stands ahead of a token that is not the first one. -/
def sepOf (b : Bool) : UInt8 := if b then 10 else 32
def wrT (t : Tok) : List UInt8 := wr t.kind t.text.data.toList
/-- The tokens behind the first one, written. -/
def joinR : List Tok → List UInt8
  | [] => []
  | t :: ts => sepOf t.line :: (wrT t ++ joinR ts)
/-- Tokens, written. -/
def joinG : List Tok → List UInt8
  | [] => []
  | t :: ts => wrT t ++ joinR ts
/-- The same tokens where they are written. -/
def place : Nat → List Tok → List Tok
  | _, [] => []
  | k, t :: ts => { t with pos := k + 1 } :: place (k + 1 + (wrT t).length) ts
def placeG : List Tok → List Tok
  | [] => []
  | t :: ts => { t with pos := 0 } :: place (wrT t).length ts
/-- A token that is read again where it is written. -/
def AgainT (t : Tok) : Prop := Again t.kind t.text.data.toList

theorem sep_stop (b : Bool) : stopC ((sepOf b).toNat : Int) = true := by cases b <;> decide
theorem byteV_head {T : List UInt8} {k : Nat} {c : UInt8} {X : List UInt8} (h : T.drop k = c :: X) : byteV T k = (c.toNat : Int) := by
  have := byteV_dropA T [c] k 0 X (by rw [h]; rfl) (by simp)
  simpa using this
theorem join_stop {T : List UInt8} {j : Nat} {ts : List Tok} (h : T.drop j = joinR ts) : stopC (byteV T j) = true := by
  cases ts with
  | nil =>
    have : T.length ≤ j := by
      have := congrArg List.length h
      simp [joinR] at this
      omega
    unfold byteV
    rw [dif_neg (by omega)]
    decide
  | cons t ts => rw [byteV_head h]; exact sep_stop _
theorem join_scanR : ∀ (ts : List Tok) (T : List UInt8) (k : Nat), (∀ t, t ∈ ts → AgainT t) → k ≤ T.length → T.drop k = joinR ts → ScanR T k false (place k ts)
  | [], T, k, _, hk, h => by
    have he : k = T.length := by
      have := congrArg List.length h
      simp [joinR] at this
      omega
    refine ⟨false, 1, ?_⟩
    unfold blG
    rw [if_pos (by omega), he]
  | t :: ts, T, k, ha, hk, h => by
    have A := ha t List.mem_cons_self
    have h0 := byteV_head h
    have h1 : T.drop (k + 1) = wrT t ++ joinR ts := by rw [← List.drop_drop, h]; rfl
    have hkl : k < T.length := by
      have := congrArg List.length h
      simp [joinR] at this
      omega
    have h2 := drop_appA _ _ _ _ h1
    have hl := len_in (by omega) h1
    have hs := join_stop h2
    obtain ⟨g1, g2⟩ := A.again T (joinR ts) (k + 1) (by omega) h1 hs
    have hfull := A.full
    refine ⟨?_, by show k + 1 < T.length; exact g2.lt, t.text.data.toList, k + 1 + (wrT t).length, g1, rfl, by show k + 1 < _; unfold wrT; omega, hl, join_scanR ts T _ (fun x hx => ha x (List.mem_cons_of_mem _ hx)) hl h2⟩
    show Bl T k false (.inl (k + 1, t.line))
    cases hb : t.line with
    | true => exact Bl.nl hkl (by rw [h0, hb]; decide) (g2.is true)
    | false => exact Bl.blank hkl (.inl (by rw [h0, hb]; decide)) (g2.is false)
theorem joinG_scanR (toks : List Tok) (ha : ∀ t, t ∈ toks → AgainT t) (hl : ∀ t ts, toks = t :: ts → t.line = true) : ScanR (joinG toks) 0 true (placeG toks) := by
  cases toks with
  | nil =>
    refine ⟨true, 1, ?_⟩
    unfold blG
    rw [if_pos (by simp [joinG])]
    rfl
  | cons t ts =>
    have A := ha t List.mem_cons_self
    have h1 : (joinG (t :: ts)).drop 0 = wrT t ++ joinR ts := rfl
    have h2 := drop_appA _ _ _ _ h1
    have hl2 := len_in (Nat.zero_le _) h1
    rw [Nat.zero_add] at h2 hl2
    have hs := join_stop h2
    obtain ⟨g1, g2⟩ := A.again _ (joinR ts) 0 (Nat.zero_le _) h1 (by rw [Nat.zero_add]; exact hs)
    rw [Nat.zero_add] at g1
    have hfull := A.full
    refine ⟨?_, g2.lt, t.text.data.toList, (wrT t).length, g1, rfl, hfull, hl2, join_scanR ts _ _ (fun x hx => ha x (List.mem_cons_of_mem _ hx)) hl2 h2⟩
    show Bl _ 0 true (.inl (0, t.line))
    rw [hl t ts rfl]
    exact g2.is true
/-- Everything of a token but its place. -/
def Tok.core (t : Tok) : Tok := { t with pos := 0 }
theorem place_core : ∀ (ts : List Tok) (k : Nat), (place k ts).map Tok.core = ts.map Tok.core
  | [], _ => rfl
  | t :: ts, k => by
    simp only [place, List.map_cons]
    rw [place_core ts]
    rfl
theorem placeG_core (toks : List Tok) : (placeG toks).map Tok.core = toks.map Tok.core := by
  cases toks with
  | nil => rfl
  | cons t ts =>
    simp only [placeG, List.map_cons]
    rw [place_core]
    rfl
theorem joinR_core : ∀ (a b : List Tok), a.map Tok.core = b.map Tok.core → joinR a = joinR b
  | [], [], _ => rfl
  | [], _ :: _, h => by cases h
  | _ :: _, [], h => by cases h
  | x :: a, y :: b, h => by
    simp only [List.map_cons, List.cons.injEq] at h
    obtain ⟨h1, h2⟩ := h
    have e1 : x.kind = y.kind := (congrArg Tok.kind h1 : x.core.kind = y.core.kind)
    have e2 : x.text = y.text := (congrArg Tok.text h1 : x.core.text = y.core.text)
    have e3 : x.line = y.line := (congrArg Tok.line h1 : x.core.line = y.core.line)
    simp only [joinR, wrT]
    rw [e1, e2, e3, joinR_core a b h2]
theorem joinG_core (a b : List Tok) (h : a.map Tok.core = b.map Tok.core) : joinG a = joinG b := by
  cases a with
  | nil => cases b with
    | nil => rfl
    | cons y b => cases h
  | cons x a => cases b with
    | nil => cases h
    | cons y b =>
      simp only [List.map_cons, List.cons.injEq] at h
      obtain ⟨h1, h2⟩ := h
      have e1 : x.kind = y.kind := (congrArg Tok.kind h1 : x.core.kind = y.core.kind)
      have e2 : x.text = y.text := (congrArg Tok.text h1 : x.core.text = y.core.text)
      simp only [joinG, wrT]
      rw [e1, e2, joinR_core a b h2]

/-! ### the tokens of a text -/
theorem blG_true : ∀ (f : Nat) (l : List UInt8) (k : Nat) (x : Nat × Bool), blG f l k true = some (.inl x) → x.2 = true
  | 0, _, _, _, h => by simp [blG] at h
  | f + 1, l, k, x, h => by
    unfold blG at h
    split at h
    · rw [← Sum.inl.inj (Option.some.inj h)]
    split at h
    · exact blG_true f l _ x h
    split at h
    · exact blG_true f l _ x h
    split at h
    · split at h
      · exact blG_true f l _ x h
      · cases h
    split at h
    · split at h
      · exact blG_true f l _ x h
      · cases h
    · rw [← Sum.inl.inj (Option.some.inj h)]
theorem scanR_line {l : List UInt8} {toks : List Tok} (h : ScanR l 0 true toks) : ∀ t ts, toks = t :: ts → t.line = true := by
  rintro t ts rfl
  obtain ⟨⟨g, hb⟩, -⟩ := h
  exact blG_true g l 0 _ hb
theorem scanR_again {l : List UInt8} : ∀ {toks : List Tok} {k : Nat} {ln : Bool}, ScanR l k ln toks → ∀ t, t ∈ toks → AgainT t
  | [], _, _, _, t, ht => by cases ht
  | a :: ts, k, ln, ⟨⟨g, hb⟩, h1, x, e, h2, h3, h4, h5, h6⟩, t, ht => by
    rcases List.mem_cons.1 ht with rfl | ht
    · have hst := blG_stopped _ _ _ _ _ hb h1
      have := again_of hst h2
      unfold AgainT
      rw [h3]
      exact this
    · exact scanR_again h6 t ht
/-- Scan of the tokens of a text, written. -/
theorem scan_again {l : List UInt8} {n : Nat} {toks : List Tok} (h : scanG n l 0 true = some (toks, none)) :
    scanG ((joinG toks).length + 1) (joinG toks) 0 true = some (placeG toks, none) := by
  have R := scanR_of l n 0 true toks h
  exact scanG_of _ _ _ _ _ (joinG_scanR toks (scanR_again R) (scanR_line R)) (by omega)
/-- Scan of one token, written as it stands. -/
theorem scan_one {t : Tok} (h : AgainT t) (h5 : t.kind ≠ 5) : scanG (t.text.data.toList.length + 1) t.text.data.toList 0 true = some ([{ t with pos := 0, line := true }], none) := by
  have hw : joinG [{ t with line := true }] = t.text.data.toList := by
    show wr t.kind t.text.data.toList ++ [] = _
    unfold wr
    rw [if_neg h5, List.append_nil]
  have R := joinG_scanR [{ t with line := true }] (fun x hx => by
    have : x = { t with line := true } := by simpa using hx
    rw [this]; exact h) (fun x xs hx => by cases hx; rfl)
  rw [hw] at R
  exact scanG_of _ _ _ _ _ R (by omega)

/-! ### sizes -/
theorem dgs_len : ∀ (n v : Nat), (dgs n v).length ≤ n
  | 0, _ => by simp [dgs]
  | n + 1, v => by
    unfold dgs
    split
    · simp
    · have := dgs_len n (v / 10); simp; omega
theorem digF_len : ∀ (f : Nat) (l : List UInt8) (base : Int) (k : Nat) (b : Bool) (r : List Int × Nat), digF f l base k b = some r → r.1.length + k ≤ r.2
  | 0, _, _, _, _, _, h => by simp [digF] at h
  | f + 1, l, base, k, b, r, h => by
    unfold digF at h
    split at h
    · split at h
      · rename_i ds e he
        have := digF_len f l base _ _ _ he
        rw [← Option.some.inj h]
        simp only [List.length_cons] at this ⊢
        omega
      · cases h
    · split at h
      · have := digF_len f l base _ _ _ h
        omega
      · rw [← Option.some.inj h]
        simp
theorem runD_len (l : List UInt8) (base : Int) (hb : base ≤ 16) (k : Nat) (hk : k ≤ l.length) : (runD l base k).1.length + k ≤ (runD l base k).2 ∧ (runD l base k).2 ≤ l.length := by
  have h := runD_some l base k hb hk
  exact ⟨digF_len _ _ _ _ _ _ h.1, h.2.1⟩
theorem expF_len (l t : List UInt8) (k : Nat) (hk : k ≤ l.length) : (expF l t k).1.length ≤ t.length + l.length + 2 := by
  unfold expF
  split
  · rename_i he
    have hk : k < l.length := byteV_in (fun e => by rw [e] at he; revert he; decide)
    split
    · rename_i h1
      have h1' := byteV_in (l := l) (k := k + 1) (by omega)
      have := runD_len l 10 (by decide) (k + 2) (by omega)
      simp [runL_len]; omega
    · split
      · rename_i h1
        have h1' := byteV_in (l := l) (k := k + 1) (by omega)
        have := runD_len l 10 (by decide) (k + 2) (by omega)
        simp [runL_len]; omega
      · have := runD_len l 10 (by decide) (k + 1) (by omega)
        simp [runL_len]; omega
  · simp only; omega
theorem decL_len (v : Nat) : (decL 40 v []).length ≤ 40 := by
  rw [decL_dgs, List.append_nil, runL_len]
  exact dgs_len 40 v
theorem numF_len {l : List UInt8} {k : Nat} (hk : k < l.length) {x : Nat × List UInt8 × Nat} (h : numF l k = some x) : x.2.1.length ≤ 3 * l.length + 43 := by
  unfold numF at h
  split at h
  · rw [← Option.some.inj h]
    simp only
    unfold rawF
    split
    · have := decL_len (cutW (valD 16 (runD l 16 (k + 2)).1 0))
      unfold intF
      simp only
      exact Nat.le_trans (decL_len _) (by omega)
    · split
      · unfold intF
        simp only
        exact Nat.le_trans (decL_len _) (by omega)
      · have r := runD_len l 10 (by decide) k (by omega)
        unfold decF
        split
        · rename_i hp
          have h1 := byteV_in (l := l) (k := (runD l 10 k).2) (by omega)
          have r2 := runD_len l 10 (by decide) ((runD l 10 k).2 + 1) (by omega)
          have e := expF_len l (runL (runD l 10 k).1 ++ 46 :: runL (runD l 10 ((runD l 10 k).2 + 1)).1) (runD l 10 ((runD l 10 k).2 + 1)).2 r2.2
          simp [runL_len] at e
          simp only
          omega
        · split
          · have e := expF_len l (runL (runD l 10 k).1) (runD l 10 k).2 r.2
            simp [runL_len] at e
            simp only
            omega
          · simp only
            exact Nat.le_trans (decL_len _) (by omega)
  · cases h
theorem strG_len : ∀ (n : Nat) (l : List UInt8) (p : Nat) (out : List UInt8) (x : List UInt8 × Nat), strG n l p out = some (some x) → x.1.length + 4 * p ≤ out.length + 4 * x.2 ∧ x.2 ≤ l.length
  | 0, _, _, _, _, h => by simp [strG] at h
  | n + 1, l, p, out, x, h => by
    unfold strG at h
    split at h
    · rename_i hb
      have := byteV_in (l := l) (k := p) (by omega)
      rw [← Option.some.inj (Option.some.inj h)]
      simp only
      omega
    · split at h
      · cases h
      · rename_i y hy
        obtain ⟨-, h1, h2⟩ := symF_le _ _ _ hy
        have ih := strG_len n l y.2 _ x h
        have h4 : (encodeRune (y.1 : Int)).length ≤ 4 := by rw [← runeCells_length]; exact (runeCells_le _).2
        rw [List.length_append] at ih
        omega
theorem tokG_len {l : List UInt8} {k : Nat} (hk : k < l.length) {x : Int × List UInt8 × Nat} (h : tokG l k = some (.inl x)) : x.2.1.length ≤ 4 * l.length + 43 := by
  unfold tokG at h
  split at h
  · split at h
    · rename_i y hy
      rw [← Sum.inl.inj (Option.some.inj h)]
      have := numF_len hk hy
      simp only
      omega
    · cases h
  split at h
  · rw [← Sum.inl.inj (Option.some.inj h)]
    simp
    omega
  split at h
  · split at h
    · split at h
      · rename_i y hy
        rw [← Sum.inl.inj (Option.some.inj h)]
        unfold tripF at hy
        split at hy
        · cases hy
        split at hy
        · cases hy
        rw [← Option.some.inj hy]
        simp
        omega
      · cases h
    · split at h
      · rename_i y hy
        rw [← Sum.inl.inj (Option.some.inj h)]
        have := strG_len _ _ _ _ _ hy
        simp only [List.length_nil] at this ⊢
        omega
      · cases h
      · cases h
  split at h
  · split at h
    · rw [← Sum.inl.inj (Option.some.inj h)]
      simp only
      exact Nat.le_trans (decL_len _) (by omega)
    · cases h
  split at h
  · cases h
  · rename_i hne
    rw [← Sum.inl.inj (Option.some.inj h)]
    simp only
    rw [bestPre l k hne]
    simp
    omega
theorem scanR_len {l : List UInt8} : ∀ {toks : List Tok} {k : Nat} {ln : Bool}, ScanR l k ln toks → ∀ t, t ∈ toks → t.text.size ≤ 4 * l.length + 43
  | [], _, _, _, t, ht => by cases ht
  | a :: ts, k, ln, ⟨_, h1, x, e, h2, h3, _, _, h6⟩, t, ht => by
    rcases List.mem_cons.1 ht with rfl | ht
    · have := tokG_len h1 h2
      rw [h3]
      exact this
    · exact scanR_len h6 t ht
end Go.Proofs.YtpebdfofnmojcaaDoor

/- Scan of a text without triple quotes. -/
namespace Go.Proofs.YtpebdfofnmojcaaDoor
open Go.RowKit Go.Maps Go.WideMaps

/-- What Scan hands back. -/
def ScanPost (w : World) (r : List Tok × Option (Nat × Int)) (e : Ending) (w' : World) : Prop :=
  match r.2 with
  | none => ∃ v, e = .returned (.tuple #[v, .int .i64 0, .int .i64 0]) ∧ w'.ownsRow w.heap.size 36 4 v r.1.length (tokCells r.1)
  | some p => e = .returned (.tuple #[.slice none 0 0, .int .i64 (p.1 : Int), .int .i64 p.2])

theorem scan_post (s : ByteArray) (w : World) (hs : s.size ≤ 20000) (hG : Glob w) {n : Nat} (hn : n ≤ 20001) {r : List Tok × Option (Nat × Int)} (h : scanG n s.data.toList 0 true = some r) :
    Calls Tryd.prog 28 #[.string s] w fun e w' => (∃ v, e = .returned v) ∧ w.grownBy w' none ∧ ScanPost w r e w' := by
  obtain ⟨toks, o⟩ := r
  refine (scan_gen s w hs hG hn h).mono ?_
  rintro e w' ⟨h1, h2⟩
  refine ⟨?_, h1, ?_⟩
  · cases o with
    | none => obtain ⟨v, he, -⟩ := h2; exact ⟨_, he⟩
    | some p => exact ⟨_, h2⟩
  · cases o with
    | none => exact h2
    | some p => exact h2
set_option maxRecDepth 100000 in
theorem Scan_gen (s : ByteArray) (w : World) (hs : s.size ≤ 20000) (hG : Glob w) {n : Nat} (hn : n ≤ 20001) {toks : List Tok} (h : scanG n s.data.toList 0 true = some (toks, none)) :
    Calls Tryd.prog 18 #[.string s] w fun e w' => w.grownBy w' none ∧ ∃ v, e = .returned (.tuple #[v, .int .i64 0, .int .i64 0]) ∧ w'.ownsRow w.heap.size 36 4 v toks.length (tokCells toks) := by
  have S := Lib.hid (scan_gen s w hs hG hn h)
  have i1 : (s.size : Int) ≤ 20000 := by omega
  go_enter Tryd.func18, Tryd.ntmps18
  go_wp2_with fail
  refine S.out.mono ?_
  rintro e w' ⟨h1, v, rfl, h2⟩
  go_wp2_with fail
  go_ret3
  exact ⟨h1, v, rfl, h2⟩
set_option maxRecDepth 100000 in
theorem Scan_fails (s : ByteArray) (w : World) (hs : s.size ≤ 20000) (hG : Glob w) {n : Nat} (hn : n ≤ 20001) {toks : List Tok} {p : Nat × Int} (h : scanG n s.data.toList 0 true = some (toks, some p)) :
    Calls Tryd.prog 18 #[.string s] w fun e w' => w.grownBy w' none ∧ e = .returned (.tuple #[.slice none 0 0, .int .i64 (p.1 : Int), .int .i64 p.2]) := by
  have S := Lib.hid (scan_gen s w hs hG hn h)
  have i1 : (s.size : Int) ≤ 20000 := by omega
  go_enter Tryd.func18, Tryd.ntmps18
  go_wp2_with fail
  refine S.out.mono ?_
  rintro e w' ⟨h1, rfl⟩
  go_wp2_with fail
  go_ret3
  exact ⟨h1, rfl⟩
set_option maxRecDepth 100000 in
theorem Scan_large (s : ByteArray) (w : World) (hs : 20000 < s.size) :
    Calls Tryd.prog 18 #[.string s] w fun e w' => w = w' ∧ e = .returned (.tuple #[.slice none 0 0, .int .i64 0, .int .i64 16]) := by
  have i1 : (20000 : Int) < s.size := by omega
  go_enter Tryd.func18, Tryd.ntmps18
  go_wp2_with fail
  go_ret3
  exact ⟨rfl, rfl⟩
end Go.Proofs.YtpebdfofnmojcaaDoor

/- Contracts: Scan over the two texts of awake; awake. -/
namespace Go.Proofs.YtpebdfofnmojcaaDoor
open Go.RowKit Go.Maps Go.WideMaps

set_option maxRecDepth 100000 in
set_option maxHeartbeats 400000 in
theorem Scan_chain (s : ByteArray) (w : World) (hs : s.size ≤ 20000) (hG : Glob w) (toks : List Tok) (hlen : toks.length ≤ 20000) (hch : Chain s 0 true toks) :
    Calls Tryd.prog 18 #[.string s] w fun e w' => ∃ v, e = .returned (.tuple #[v, .int .i64 0, .int .i64 0]) ∧ w'.ownsRow w.heap.size 36 4 v toks.length (tokCells toks) ∧ w.grownBy w' none := by
  have H := Lib.hid (scan_chain s w hs hG toks hlen hch)
  have i1 : ¬ (20000 : Int) < s.size := by omega
  clear hch
  go_enter Tryd.func18, Tryd.ntmps18
  go_wp2_with fail
  refine H.out.mono ?_
  rintro e w' ⟨v, rfl, h1, h2⟩
  go_wp2_with fail
  go_ret3
  exact ⟨v, rfl, h1, h2⟩

theorem row_at {W : World} {B : Nat} {l : List Tok} {v : Value} (h : W.ownsRow B 36 4 v l.length (tokCells l)) (hl : l ≠ []) : ∃ g cap, v = .slice (some ⟨g, 0, none⟩) l.length cap ∧ B ≤ g ∧ g < W.heap.size ∧ ∀ j u, (tokCells l)[j]? = some u → W.cell? ⟨g, j, none⟩ = some u := by
  rcases h.2 with ⟨_, h0⟩ | ⟨g, cap, cur, rfl, hb, hg, _⟩
  · exact absurd (List.eq_nil_of_length_eq_zero h0) hl
  · exact ⟨g, cap, rfl, hb, (Array.getElem?_eq_some_iff.1 hg).1, fun j u hj => by
      have := h.cells (g := g) rfl j u hj
      rw [show (⟨g, 0, none⟩ : Addr).add j = ⟨g, j, none⟩ from by unfold Addr.add; split <;> simp_all] at this
      exact this⟩

set_option maxRecDepth 100000 in
set_option maxHeartbeats 1600000 in
theorem awake_any (w : World) (hG : Glob w) : Calls Tryd.prog 8 #[] w fun e w' => e = .returned (.bool true) ∧ w.grownBy w' none := by
  have A := Lib.hid (Scan_chain tA w (by decide) hG toksA (by decide) chainA)
  have Bf := Lib.hid (fun W hG => Scan_chain tB W (by decide) hG toksB (by decide) chainB)
  have HG := Lib.hid hG
  go_enter Tryd.func8, Tryd.ntmps8
  go_wp2_with fail
  refine A.out.mono ?_
  rintro e w1 ⟨va, rfl, ha, ga⟩
  obtain ⟨g, cap, rfl, hb, hl, hc⟩ := row_at ha (by decide)
  go_wp2_with fail
  refine (Bf.out w1 (HG.out.grown ga (fun k h => by cases h))).mono ?_
  rintro e w2 ⟨vb, rfl, h2, gb⟩
  obtain ⟨g2, cap2, rfl, hb2, hl2, hc2⟩ := row_at h2 (by decide)
  have hc1 : ∀ j u, (tokCells toksA)[j]? = some u → w2.cell? ⟨g, j, none⟩ = some u := fun j u hj => gb.cell (hc j u hj) (by simp)
  have a0 := hc1 0 _ rfl
  have a1 := hc1 1 _ rfl
  have a2 := hc1 2 _ rfl
  have a3 := hc1 3 _ rfl
  have a5 := hc1 5 _ rfl
  have a13 := hc1 13 _ rfl
  have b5 : w2.cell? ⟨g2, 5, none⟩ = some (.string ⟨#[46]⟩) := hc2 5 _ rfl
  have b17 : w2.cell? ⟨g2, 17, none⟩ = some (.string ⟨#[46, 62]⟩) := hc2 17 _ rfl
  have b24 := hc2 24 _ rfl
  have b25 := hc2 25 _ rfl
  have b26 := hc2 26 _ rfl
  have b27 := hc2 27 _ rfl
  have l1 : toksA.length = 4 := rfl
  have l2 : toksB.length = 7 := rfl
  rw [l1, l2]
  have gw := ga.trans gb
  clear hc hc1 hc2 ha h2 ga gb A Bf HG hG hb hb2 hl hl2
  go_wp2_with fail
  go_ret
  exact ⟨rfl, gw⟩
end Go.Proofs.YtpebdfofnmojcaaDoor

/- Contract: bare, which copies tokens without their places. -/
namespace Go.Proofs.YtpebdfofnmojcaaDoor
open Go.RowKit

/-- Tokens lie in memory. -/
def ToksIn (w : World) (v : Value) (toks : List Tok) : Prop :=
  (v = .slice none 0 0 ∧ toks = []) ∨ ∃ g cap, v = .slice (some ⟨g, 0, none⟩) toks.length cap ∧ g < w.heap.size ∧ toks.length ≤ cap ∧ cap ≤ maxLen ∧ ∀ j u, (tokCells toks)[j]? = some u → w.cell? ⟨g, j, none⟩ = some u
theorem toksIn_row {w : World} {B : Nat} {v : Value} {l : List Tok} (h : w.ownsRow B 36 4 v l.length (tokCells l)) : ToksIn w v l := by
  rcases h.2 with ⟨h1, h0⟩ | ⟨g, cap, cur, rfl, hb, hg, h1, h2, _⟩
  · exact .inl ⟨h1, List.eq_nil_of_length_eq_zero h0⟩
  · refine .inr ⟨g, cap, rfl, (Array.getElem?_eq_some_iff.1 hg).1, h1, h2, fun j u hj => ?_⟩
    have := h.cells (g := g) rfl j u hj
    rw [show (⟨g, 0, none⟩ : Addr).add j = ⟨g, j, none⟩ from by unfold Addr.add; split <;> simp_all] at this
    exact this
theorem toksIn_grown {w w' : World} {v : Value} {l : List Tok} (h : ToksIn w v l) (hg : w.grownBy w' none) : ToksIn w' v l := by
  rcases h with h | ⟨g, cap, rfl, h1, h2, h3, h4⟩
  · exact .inl h
  · exact .inr ⟨g, cap, rfl, Nat.lt_of_lt_of_le h1 hg.size, h2, h3, fun j u hj => hg.cell (h4 j u hj) (by simp)⟩
theorem tokCells_len (l : List Tok) : (tokCells l).length = 4 * l.length := by
  induction l with
  | nil => rfl
  | cons t l ih => simp only [tokCells, List.flatMap_cons, List.length_append] at ih ⊢; rw [ih]; simp [Tok.cells]; omega
theorem tokCells_at (l : List Tok) (k r : Nat) (hk : k < l.length) (hr : r < 4) : (tokCells l)[k * 4 + r]? = (l[k].cells)[r]? := by
  induction l generalizing k with
  | nil => simp at hk
  | cons t l ih =>
    cases k with
    | zero =>
      simp only [tokCells, List.flatMap_cons]
      rw [List.getElem?_append_left (by simp [Tok.cells]; omega)]
      simp
    | succ k =>
      simp only [tokCells, List.flatMap_cons]
      rw [List.getElem?_append_right (by simp [Tok.cells]; omega)]
      have := ih k (by simpa using hk)
      simp only [tokCells] at this
      simp only [List.getElem_cons_succ]
      rw [← this]
      congr 1
      simp [Tok.cells]
      omega
theorem toksIn_form {w : World} {v : Value} {l : List Tok} (h : ToksIn w v l) : ∃ p cap, v = .slice p l.length cap ∧ (0 < l.length → ∃ g, p = some ⟨g, 0, none⟩ ∧ g < w.heap.size ∧ ∀ k r, (hk : k < l.length) → r < 4 → ∀ u, (l[k].cells)[r]? = some u → w.cell? ⟨g, k * 4 + r, none⟩ = some u) := by
  rcases h with ⟨rfl, rfl⟩ | ⟨g, cap, rfl, h1, h2, h3, h4⟩
  · exact ⟨none, 0, rfl, fun h => by simp at h⟩
  · exact ⟨_, cap, rfl, fun _ => ⟨g, rfl, h1, fun k r hk hr u hu => h4 _ _ (by rw [tokCells_at _ _ _ hk hr]; exact hu)⟩⟩
/-- A token without its place. -/
def Tok.bare (t : Tok) : Tok := ⟨t.kind, t.text, 0, false⟩
theorem take_bare (l : List Tok) (k : Nat) (hk : k < l.length) : tokCells ((l.take (k + 1)).map Tok.bare) = tokCells ((l.take k).map Tok.bare) ++ (l[k].bare).cells := by
  rw [List.take_add_one, List.getElem?_eq_getElem hk]
  simp only [tokCells, Option.toList, List.map_append, List.flatMap_append, List.map_cons, List.map_nil, List.flatMap_cons, List.flatMap_nil, List.append_nil]

set_option maxRecDepth 100000 in
set_option maxHeartbeats 400000 in
theorem bare_any (v : Value) (toks : List Tok) (w : World) (hn : toks.length ≤ 20000) (h : ToksIn w v toks) :
    Calls Tryd.prog 31 #[v] w fun e w' => ∃ v', e = .returned v' ∧ w'.ownsRow w.heap.size 36 4 v' toks.length (tokCells (toks.map Tok.bare)) ∧ w.grownBy w' none := by
  obtain ⟨i0, hi, hz0, hz1, hz2⟩ := info_parts (P := Tryd.prog) (e := 36) (z := .agg #[.int .i64 0, .string ⟨#[]⟩, .int .i64 0, .bool false]) (size := 4) (bytes := 40) (by kernel_rfl)
  obtain ⟨p, cap, rfl, hp⟩ := toksIn_form h
  have i1 : (toks.length : Int) ≤ 20000 := by omega
  clear h
  go_enter Tryd.func31, Tryd.ntmps31
  go_wp2_with fail
  go_loopw [3, 8] (fun v i wr => ∃ k : Nat, k ≤ toks.length ∧ i = .int .i64 k ∧ wr.ownsRow w.heap.size 36 4 v k (tokCells ((toks.take k).map Tok.bare)) ∧ w.grownBy wr none) (fun _ i _ => toks.length - (intOf i).toNat)
  case atStart => exact ⟨0, Nat.zero_le _, rfl, World.ownsRow_nil _ _ _ _, World.grownBy.refl _ _⟩
  case round =>
    obtain ⟨k, hk, rfl, hown, hgr⟩ := hrel
    by_cases hlt : k < toks.length
    · obtain ⟨g, rfl, hg, hc⟩ := hp (by omega)
      have c0 : wr.cell? ⟨g, k * 4, none⟩ = some (.int .i64 toks[k].kind) := hgr.cell (hc k 0 hlt (by decide) _ rfl) (by simp)
      have c1 : wr.cell? ⟨g, k * 4 + 1, none⟩ = some (.string toks[k].text) := hgr.cell (hc k 1 hlt (by decide) _ rfl) (by simp)
      have c2 : wr.cell? ⟨g, k * 4 + 2, none⟩ = some (.int .i64 toks[k].pos) := hgr.cell (hc k 2 hlt (by decide) _ rfl) (by simp)
      have c3 : wr.cell? ⟨g, k * 4 + 3, none⟩ = some (.bool toks[k].line) := hgr.cell (hc k 3 hlt (by decide) _ rfl) (by simp)
      obtain ⟨t, ht⟩ : ∃ t, toks[k] = t := ⟨_, rfl⟩
      rw [ht] at c0 c1 c2 c3
      have j1 : (k : Int) < toks.length := by omega
      have j2 : (0 : Int) ≤ k := by omega
      have hgs := hgr.size
      obtain ⟨va, vn, vc, rfl⟩ := row_slice hown
      go_wp2_with (refine wpList_append_own _ rfl _ _ 30 rfl w.heap.size 36 i0 (.agg #[.int .i64 0, .string ⟨#[]⟩, .int .i64 0, .bool false]) 4 40 Tryd.underlying30 hi hz0 hz1 hz2 rfl (by decide) _ k _ rfl ((hown.alloc _).alloc _) ⟨wr.heap.size + 1, 0, none⟩ 1 1 t.bare.cells rfl rfl ?_ ?_ ?_ ?_ ?_ ?_)
      · intro j u hj
        match j, hj with
        | 0, hj => simp [Tok.cells, Tok.bare] at hj; subst hj; simp [Addr.add]
        | 1, hj => simp [Tok.cells, Tok.bare] at hj; subst hj; simp [Addr.add]
        | 2, hj => simp [Tok.cells, Tok.bare] at hj; subst hj; simp [Addr.add]
        | 3, hj => simp [Tok.cells, Tok.bare] at hj; subst hj; simp [Addr.add]
        | (j + 4), hj => simp [Tok.cells] at hj
      · intro u hu; simp [Tok.cells, Tok.bare] at hu; rcases hu with rfl | rfl | rfl | rfl <;> rfl
      · unfold maxLen; omega
      · omega
      · simp; omega
      · intro v' w1 hown1 hg1 _
        have hL := hown.lt
        have R2 : w.grownBy w1 none := ⟨hg1.os.trans hgr.os, hg1.tape.trans hgr.tape, hg1.output.trans hgr.output, by have := hg1.size; simp at this; omega, fun j hj _ => (hg1.block j (by simp; omega) (fun e => by have := (hL j e.symm).1; omega)).trans ((Below.heap_alloc _ _ _ (by simp; omega)).trans ((Below.heap_alloc _ _ _ (by omega)).trans (hgr.block j hj (by simp))))⟩
        have hown2 : w1.ownsRow w.heap.size 36 4 v' (k + 1) (tokCells ((toks.take (k + 1)).map Tok.bare)) := by rw [take_bare toks k hlt, ht, List.map_take]; exact hown1
        clear hown hgr hown1 hg1
        go_wp2
        go_roundw
        case rel => exact ⟨k + 1, by omega, by go_num, hown2, R2⟩
        case measure => simp [intOf]; omega
    · obtain rfl : k = toks.length := by omega
      rw [List.take_of_length_le (Nat.le_refl _)] at hown
      go_wp2
      go_ret
      exact ⟨_, rfl, hown, hgr⟩

set_option maxRecDepth 100000 in
set_option maxHeartbeats 400000 in
/-- Two lists of tokens that are the same but for places. -/
theorem same_any (v u : Value) (a b : List Tok) (w : World) (hn : a.length ≤ 20000) (hv : ToksIn w v a) (hu : ToksIn w u b) (hab : a.map Tok.bare = b.map Tok.bare) :
    Calls Tryd.prog 20 #[v, u] w fun e w' => e = .returned (.bool true) ∧ w.grownBy w' none := by
  have hlen : b.length = a.length := by have := congrArg List.length hab; simpa using this.symm
  have A := Lib.hid (bare_any v a w hn hv)
  have B := Lib.hid (fun W (h : ToksIn W u b) => bare_any u b W (by omega) h)
  have HU := Lib.hid hu
  rw [← hab, hlen] at B
  clear hv hu
  go_enter Tryd.func20, Tryd.ntmps20
  go_wp2_with fail
  refine A.out.mono ?_
  rintro e w1 ⟨v1, rfl, r1, g1⟩
  go_wp2_with fail
  refine (B.out w1 (toksIn_grown HU.out g1)).mono ?_
  rintro e w2 ⟨v2, rfl, r2, g2⟩
  have e1 : (a.map Tok.bare).length = a.length := by simp
  have R1 : ToksIn w2 v1 (a.map Tok.bare) := toksIn_grown (toksIn_row (by rw [e1]; exact r1)) g2
  have R2 : ToksIn w2 v2 (a.map Tok.bare) := toksIn_row (by rw [e1]; exact r2)
  obtain ⟨p1, c1, rfl, F1⟩ := toksIn_form R1
  obtain ⟨p2, c2, rfl, F2⟩ := toksIn_form R2
  have g12 := g1.trans g2
  generalize a.map Tok.bare = l at *
  have i1 : (l.length : Int) ≤ 20000 := by omega
  clear A B HU r1 r2 g1 g2 R1 R2 hab hn hlen e1
  go_wp2_with fail
  go_loopw [19] (fun i wr => ∃ k : Nat, k ≤ l.length ∧ i = .int .i64 k ∧ w2.grownBy wr none) (fun i _ => l.length - (intOf i).toNat)
  case atStart => exact ⟨0, Nat.zero_le _, rfl, World.grownBy.refl _ _⟩
  case round =>
    obtain ⟨k, hk, rfl, hgr⟩ := hrel
    by_cases hlt : k < l.length
    · obtain ⟨ga, rfl, -, ca⟩ := F1 (by omega)
      obtain ⟨gb, rfl, -, cb⟩ := F2 (by omega)
      have a0 : wr.cell? ⟨ga, k * 4, none⟩ = some (.int .i64 l[k].kind) := hgr.cell (ca k 0 hlt (by decide) _ rfl) (by simp)
      have a1 : wr.cell? ⟨ga, k * 4 + 1, none⟩ = some (.string l[k].text) := hgr.cell (ca k 1 hlt (by decide) _ rfl) (by simp)
      have a2 : wr.cell? ⟨ga, k * 4 + 2, none⟩ = some (.int .i64 l[k].pos) := hgr.cell (ca k 2 hlt (by decide) _ rfl) (by simp)
      have a3 : wr.cell? ⟨ga, k * 4 + 3, none⟩ = some (.bool l[k].line) := hgr.cell (ca k 3 hlt (by decide) _ rfl) (by simp)
      have b0 : wr.cell? ⟨gb, k * 4, none⟩ = some (.int .i64 l[k].kind) := hgr.cell (cb k 0 hlt (by decide) _ rfl) (by simp)
      have b1 : wr.cell? ⟨gb, k * 4 + 1, none⟩ = some (.string l[k].text) := hgr.cell (cb k 1 hlt (by decide) _ rfl) (by simp)
      have b2 : wr.cell? ⟨gb, k * 4 + 2, none⟩ = some (.int .i64 l[k].pos) := hgr.cell (cb k 2 hlt (by decide) _ rfl) (by simp)
      have b3 : wr.cell? ⟨gb, k * 4 + 3, none⟩ = some (.bool l[k].line) := hgr.cell (cb k 3 hlt (by decide) _ rfl) (by simp)
      generalize l[k] = t at *
      have j1 : (k : Int) < l.length := by omega
      have j2 : (0 : Int) ≤ k := by omega
      go_wp2_with fail
      go_quiet (fail)
      go_wp2_with fail
      go_roundw
      case rel => exact ⟨k + 1, by omega, by go_num, hgr.trans (grown_drewN wr nq none)⟩
      case measure => simp [intOf]; omega
    · obtain rfl : k = l.length := by omega
      go_wp2
      go_ret
      exact ⟨rfl, g12.trans hgr⟩
end Go.Proofs.YtpebdfofnmojcaaDoor

/- Contracts: possible and written, of a token that was read. -/
namespace Go.Proofs.YtpebdfofnmojcaaDoor
open Go.RowKit

/-- A token as a value. -/
def Tok.agg (t : Tok) : Value := .agg #[.int .i64 t.kind, .string t.text, .int .i64 (t.pos : Int), .bool t.line]

set_option maxRecDepth 100000 in
set_option maxHeartbeats 800000 in
theorem written_any (t : Tok) (w : World) (hs : t.text.size ≤ 20000) : Calls Tryd.prog 30 #[t.agg] w fun e w' => e = .returned (.string ⟨(wrT t).toArray⟩) ∧ w.grownBy w' none := by
  by_cases h5 : t.kind = 5
  · have Q := Lib.hid (fun W => quoted_any t.text W (by omega))
    have e1 : wrT t = qs t.text.data.toList ++ [34] := by unfold wrT wr; rw [if_pos h5]
    rw [e1]
    unfold Tok.agg
    rw [h5]
    clear e1
    go_enter Tryd.func30, Tryd.ntmps30
    go_wp2_with fail
    refine (Q.out _).mono ?_
    rintro e w1 ⟨rfl, hg⟩
    go_wp2_with fail
    go_ret
    exact ⟨rfl, (grown_alloc _ _ _).trans hg⟩
  · have e1 : wrT t = t.text.data.toList := by unfold wrT wr; rw [if_neg h5]
    rw [e1]
    have e2 : (⟨t.text.data.toList.toArray⟩ : ByteArray) = t.text := by cases t.text; simp
    rw [e2]
    have d1 : (t.kind == 5) = false := by simpa using h5
    unfold Tok.agg
    clear e1 e2
    go_enter Tryd.func30, Tryd.ntmps30
    go_wp2_with fail
    go_ret
    exact ⟨rfl, grown_alloc _ _ _⟩

set_option maxRecDepth 100000 in
set_option maxHeartbeats 1600000 in
theorem possible_any (t : Tok) (w : World) (hs : t.text.size ≤ 20000) (hG : Glob w) (ha : AgainT t) : Calls Tryd.prog 29 #[t.agg] w fun e w' => e = .returned (.bool true) ∧ w.grownBy w' none := by
  by_cases h5 : t.kind = 5
  · have hv := ha.valid h5
    have V0 := fun W (h : Lib.Utf8Tabs 2 3 W) => Tryd.utf8_ValidString t.text W (by omega) h
    rw [hv] at V0
    have V := Lib.hid V0
    have HG := Lib.hid hG
    unfold Tok.agg
    rw [h5]
    clear V0 hv ha hG
    go_enter Tryd.func29, Tryd.ntmps29
    go_wp2_with fail
    refine (V.out _ ((HG.out.grown (grown_alloc _ _ none) (fun k h => by cases h)).u8)).mono ?_
    rintro e w1 ⟨rfl, hb⟩
    go_wp2_with fail
    go_ret
    exact ⟨rfl, (grown_alloc _ _ none).trans (grown_of_below hb none)⟩
  · have hr := scan_one ha h5
    rw [len_list] at hr
    have SC := Lib.hid (fun W hG => scan_gen t.text W hs hG (by omega) hr)
    have HG := Lib.hid hG
    have hk := ha.kinds
    obtain ⟨kd, tx, ps, ln⟩ := t
    simp only at h5 hk hs SC
    unfold Tok.agg
    clear hG ha hr
    have key : ∀ kd' : Int, kd = kd' → (kd' = 1 ∨ kd' = 2 ∨ kd' = 3 ∨ kd' = 4 ∨ kd' = 6) → Calls Tryd.prog 29 #[.agg #[.int .i64 kd', .string tx, .int .i64 (ps : Int), .bool ln]] w fun e w' => e = .returned (.bool true) ∧ w.grownBy w' none := by
      rintro kd' rfl hk'
      have HG' := HG.out
      rcases hk' with rfl | rfl | rfl | rfl | rfl
      all_goals
        go_enter Tryd.func29, Tryd.ntmps29
        go_wp2_with fail
        refine (SC.out _ (HG'.grown (grown_alloc _ _ none) (fun k h => by cases h))).mono ?_
        rintro e w1 ⟨g1, v, rfl, hrow⟩
        obtain ⟨g, cap, rfl, hb, hl, hc⟩ := row_at hrow (by simp)
        have a0 := hc 0 _ rfl
        have a1 := hc 1 _ rfl
        have gA := (grown_alloc w _ none).trans g1
        simp only [World.size_alloc] at hb
        have b0 := g1.cell (a := ⟨w.heap.size, 0, none⟩) (by rw [World.cell?_alloc_at _ _ _ _ rfl]; rfl) (by simp)
        have b1 := g1.cell (a := ⟨w.heap.size, 1, none⟩) (by rw [World.cell?_alloc_at _ _ _ _ rfl]; rfl) (by simp)
        simp only [List.length_cons, List.length_nil]
        clear hc hrow SC
        go_wp2_with fail
        go_quiet (fail)
        go_wp2_with fail
        go_ret
        exact ⟨rfl, gA.trans (grown_drewN _ _ _)⟩
    exact key kd rfl (by omega)
end Go.Proofs.YtpebdfofnmojcaaDoor

/- Contract: Text, of tokens that were read. -/
namespace Go.Proofs.YtpebdfofnmojcaaDoor
open Go.RowKit

theorem joinR_take : ∀ (ts : List Tok) (j : Nat) (hj : j < ts.length), joinR (ts.take (j + 1)) = joinR (ts.take j) ++ (sepOf ts[j].line :: wrT ts[j])
  | [], _, hj => by simp at hj
  | t :: ts, 0, _ => by simp [joinR]
  | t :: ts, j + 1, hj => by
    have ih := joinR_take ts j (by simpa using hj)
    rw [List.take_succ_cons, List.take_succ_cons]
    simp only [joinR, List.getElem_cons_succ]
    rw [ih]
    simp
theorem joinG_first (t : Tok) (ts : List Tok) : joinG ((t :: ts).take 1) = wrT t := by simp [joinG, joinR]
theorem joinG_take (toks : List Tok) (k : Nat) (hk : k < toks.length) (h0 : k ≠ 0) : joinG (toks.take (k + 1)) = joinG (toks.take k) ++ [sepOf toks[k].line] ++ wrT toks[k] := by
  obtain ⟨j, rfl⟩ : ∃ j, k = j + 1 := ⟨k - 1, by omega⟩
  cases toks with
  | nil => simp at hk
  | cons t ts =>
    rw [List.take_succ_cons, List.take_succ_cons]
    simp only [joinG, List.getElem_cons_succ]
    rw [joinR_take ts j (by simpa using hk)]
    simp
theorem joinR_mono : ∀ (ts : List Tok) (j : Nat), (joinR (ts.take j)).length ≤ (joinR ts).length
  | [], j => by simp
  | t :: ts, 0 => by simp [joinR]
  | t :: ts, j + 1 => by
    have := joinR_mono ts j
    rw [List.take_succ_cons]
    simp only [joinR, List.length_cons, List.length_append]
    omega
theorem joinG_mono (toks : List Tok) (k : Nat) : (joinG (toks.take k)).length ≤ (joinG toks).length := by
  cases toks with
  | nil => simp
  | cons t ts =>
    cases k with
    | zero => simp [joinG]
    | succ k =>
      have := joinR_mono ts k
      rw [List.take_succ_cons]
      simp only [joinG, List.length_append]
      omega
theorem wrT_len (t : Tok) (h : t.text.size ≤ 20000) : (wrT t).length ≤ 80002 := by
  unfold wrT wr
  split
  · have := qs_len t.text.data.toList
    rw [len_list] at this
    simp; omega
  · rw [len_list]; omega
/-- What Text gives. -/
def textOf (toks : List Tok) : List UInt8 × Int := if (joinG toks).length ≤ 20000 then (joinG toks, 0) else ([], 16)
theorem kept_none {W W' : World} {B : Nat} {e : TypeId} {size : Nat} {v : Value} {n : Nat} {xs : List Value} (h : W.ownsRow B e size v n xs) (hg : W.grownBy W' none) : W'.ownsRow B e size v n xs :=
  h.kept hg (by cases hv : Value.ownBlock v with
    | none => exact .inl rfl
    | some q => exact .inr (by simp))

set_option maxRecDepth 100000 in
set_option maxHeartbeats 1600000 in
theorem text_any (v : Value) (toks : List Tok) (w : World) (hn : toks.length ≤ 20000) (hv : ToksIn w v toks) (ha : ∀ t, t ∈ toks → AgainT t) (hl : ∀ t ts, toks = t :: ts → t.line = true) (hsz : ∀ t, t ∈ toks → t.text.size ≤ 20000) (hG : Glob w) :
    Calls Tryd.prog 19 #[v] w fun e w' => e = .returned (.tuple #[.string ⟨(textOf toks).1.toArray⟩, .int .i64 (textOf toks).2]) ∧ w.grownBy w' none := by
  obtain ⟨i0, hi, hz0, hz1, hz2⟩ := info_parts (P := Tryd.prog) (e := 5) (z := .int .u8 0) (size := 1) (bytes := 1) (by kernel_rfl)
  obtain ⟨p, cap, rfl, F⟩ := toksIn_form hv
  have i1 : (toks.length : Int) ≤ 20000 := by omega
  have HA := Lib.hid ha
  have HL := Lib.hid hl
  have HZ := Lib.hid hsz
  have HG := Lib.hid hG
  have FF := Lib.hid F
  clear hv ha hl hsz hG F
  go_enter Tryd.func19, Tryd.ntmps19
  go_wp2_with fail
  go_loopw [4, 9] (fun v i wr => ∃ k : Nat, k ≤ toks.length ∧ i = .int .i64 k ∧ (joinG (toks.take k)).length ≤ 20000 ∧ wr.ownsRow w.heap.size 5 1 v (joinG (toks.take k)).length (u8s (joinG (toks.take k))) ∧ w.grownBy wr none) (fun _ i _ => toks.length - (intOf i).toNat)
  case atStart => exact ⟨0, Nat.zero_le _, rfl, by simp [joinG], World.ownsRow_nil _ _ _ _, World.grownBy.refl _ _⟩
  case round =>
    obtain ⟨k, hk, rfl, hle, hown, hgr⟩ := hrel
    by_cases hlt : k < toks.length
    · obtain ⟨g, rfl, hg, hc⟩ := FF.out (by omega)
      have hmem : toks[k] ∈ toks := List.getElem_mem hlt
      have c0 : wr.cell? ⟨g, k * 4, none⟩ = some (.int .i64 toks[k].kind) := hgr.cell (hc k 0 hlt (by decide) _ rfl) (by simp)
      have c1 : wr.cell? ⟨g, k * 4 + 1, none⟩ = some (.string toks[k].text) := hgr.cell (hc k 1 hlt (by decide) _ rfl) (by simp)
      have c2 : wr.cell? ⟨g, k * 4 + 2, none⟩ = some (.int .i64 toks[k].pos) := hgr.cell (hc k 2 hlt (by decide) _ rfl) (by simp)
      have c3 : wr.cell? ⟨g, k * 4 + 3, none⟩ = some (.bool toks[k].line) := hgr.cell (hc k 3 hlt (by decide) _ rfl) (by simp)
      have At := HA.out _ hmem
      have hts := HZ.out _ hmem
      obtain ⟨t, ht⟩ : ∃ t, toks[k] = t := ⟨_, rfl⟩
      have HT := Lib.hid ht
      rw [ht] at c0 c1 c2 c3 At hts
      have PO : Hid (∀ W, Glob W → Calls Tryd.prog 29 #[.agg #[.int .i64 t.kind, .string t.text, .int .i64 (t.pos : Int), .bool t.line]] W fun e w' => e = .returned (.bool true) ∧ W.grownBy w' none) := Lib.hid (fun W hG => possible_any t W hts hG At)
      have WT : Hid (∀ W ln, Calls Tryd.prog 30 #[.agg #[.int .i64 t.kind, .string t.text, .int .i64 (t.pos : Int), .bool ln]] W fun e w' => e = .returned (.string ⟨(wrT t).toArray⟩) ∧ W.grownBy w' none) := Lib.hid (fun W ln => written_any ⟨t.kind, t.text, t.pos, ln⟩ W hts)
      have hwl := wrT_len t hts
      have j1 : (k : Int) < toks.length := by omega
      have j2 : (0 : Int) ≤ k := by omega
      have hgs := hgr.size
      obtain ⟨va, vn, vc, rfl⟩ := row_slice hown
      have HO := Lib.hid hown
      clear hc hmem ht At hts hown
      go_wp2_with fail
      refine (PO.out _ ((HG.out.grown hgr (fun k h => by cases h)).grown (grown_alloc _ _ none) (fun k h => by cases h))).mono ?_
      rintro e w1 ⟨rfl, g1⟩
      have b0 := g1.cell (a := ⟨wr.heap.size, 0, none⟩) (by rw [World.cell?_alloc_at _ _ _ _ rfl]; rfl) (by simp)
      have b1 := g1.cell (a := ⟨wr.heap.size, 1, none⟩) (by rw [World.cell?_alloc_at _ _ _ _ rfl]; rfl) (by simp)
      have b2 := g1.cell (a := ⟨wr.heap.size, 2, none⟩) (by rw [World.cell?_alloc_at _ _ _ _ rfl]; rfl) (by simp)
      have b3 := g1.cell (a := ⟨wr.heap.size, 3, none⟩) (by rw [World.cell?_alloc_at _ _ _ _ rfl]; rfl) (by simp)
      have gA : wr.grownBy w1 none := (grown_alloc _ _ none).trans g1
      have hown1 := kept_none HO.out gA
      by_cases h0 : k = 0
      · have hb : t.line = true := by
          cases toks with
          | nil => simp at hlt
          | cons x xs =>
            have e := HT.out
            subst h0
            rw [← e]
            exact HL.out x xs rfl
        have d0 : ((k : Int) == 0) = true := by simp; omega
        have n0 : (k == 0) = true := by simp; omega
        rw [hb] at b3
        have GW : w.grownBy w1 none := hgr.trans gA
        have bb0 := b0
        have bb1 := b1
        have bb2 := b2
        have bb3 := b3
        have QE0 : joinG (toks.take (k + 1)) = joinG (toks.take k) ++ wrT t := by
          cases toks with
          | nil => simp at hlt
          | cons x xs =>
            have e := HT.out
            subst h0
            rw [← e, joinG_first]
            simp [joinG]
        obtain ⟨Q, hQ⟩ : ∃ Q, joinG (toks.take k) = Q := ⟨_, rfl⟩
        rw [hQ] at QE0 hown1 hle
        have QE := Lib.hid QE0
        have HR := Lib.hid hown1
        have hQl : Q.length ≤ 20001 := by omega
        clear QE0 hown1 hQ b0 b1 b2 b3 c0 c1 c2 c3 PO h0
        go_wp2_with fail
        refine (WT.out _ _).mono ?_
        rintro e w5 ⟨rfl, g5⟩
        have R5 := kept_none HR.out g5
        have G5 := GW.trans g5
        have hs5 := G5.size
        clear bb0 bb1 bb2 bb3
        go_wp2_with (refine Lib.wpList_append_own_string _ rfl _ _ 46 9 rfl w.heap.size 5 i0 Tryd.underlying46 Tryd.underlying9 hi hz0 hz1 hz2 _ Q.length _ rfl R5 ⟨(wrT t).toArray⟩ rfl ?_ ?_ ?_ ?_)
        · show Q.length + (wrT t).length ≤ maxLen; unfold maxLen; omega
        · show Q.length + (wrT t).length ≤ _; omega
        · exact hs5
        · intro v' w6 ho6 hg6 _
          have hL := R5.lt
          have G6 : w.grownBy w6 none := grown_app G5 hg6 (fun q e => (hL q e).1)
          have R6 : w6.ownsRow w.heap.size 5 1 v' (joinG (toks.take (k + 1))).length (u8s (joinG (toks.take (k + 1)))) := by
            rw [QE.out, u8s_append, List.length_append]; exact ho6
          obtain ⟨ya, yn, yc, rfl⟩ := row_slice R6
          have HR6 := Lib.hid R6
          have hyn : yn = Q.length + (wrT t).length := by
            have := R6.2
            rw [QE.out, List.length_append] at this
            rcases this with ⟨h1, h2⟩ | ⟨_, _, _, h1, _⟩
            · cases h1; omega
            · cases h1; rfl
          subst hyn
          clear ho6 hg6 hL R6 R5 g5 HR
          by_cases hbig : Q.length + (wrT t).length ≤ 20000
          · have d5 : decide ((20000 : Int) < ((Q.length + (wrT t).length : Nat) : Int)) = false := by simp; omega
            have d6 : decide ((20000 : Int) < (Q.length : Int) + ((wrT t).length : Int)) = false := by simp; omega
            have d7 : ¬ (20000 : Int) < (Q.length : Int) + ((wrT t).length : Int) := by omega
            go_wp2_with fail
            go_roundw
            case rel => exact ⟨k + 1, by omega, by go_num, by rw [QE.out, List.length_append]; exact hbig, HR6.out, G6⟩
            case measure => simp [intOf]; omega
          · have d7 : (20000 : Int) < (Q.length : Int) + ((wrT t).length : Int) := by omega
            have e1 : textOf toks = ([], 16) := by
              have := joinG_mono toks (k + 1)
              rw [QE.out, List.length_append] at this
              unfold textOf; rw [if_neg (by omega)]
            go_wp2_with fail
            go_ret2
            rw [e1]
            exact ⟨rfl, G6⟩
      · have d0 : ((k : Int) == 0) = false := by simp; omega
        have n0 : (k == 0) = false := by simp; omega
        clear c0 c1 c2 c3 PO
        cases hb : t.line with
        | true =>
          rw [hb] at b3
          have hL1 := hown1.lt
          go_wp2_with (refine wpList_append_own _ rfl _ _ 46 rfl w.heap.size 5 i0 (.int .u8 0) 1 1 Tryd.underlying46 hi hz0 hz1 hz2 rfl (by decide) _ (joinG (toks.take k)).length _ rfl (hown1.alloc _) ⟨w1.heap.size, 0, none⟩ 1 1 [.int .u8 10] rfl rfl ?_ ?_ ?_ ?_ ?_ ?_)
          · intro j u hj
            match j, hj with
            | 0, hj => simp at hj; subst hj; simp [Addr.add]
            | (j + 1), hj => simp at hj
          · intro u hu; simp at hu; subst hu; rfl
          · unfold maxLen; omega
          · omega
          · simp; have := gA.size; omega
          · intro v2 w2 ho2 hg2 _
            have GW : w.grownBy w2 none := grown_app ((hgr.trans gA).trans (grown_alloc _ _ none)) hg2 (fun q e => (hL1 q e).1)
            have nb : ∀ q, some q = Value.ownBlock (.slice va vn vc) → q ≠ wr.heap.size := fun q e => by have := (HO.out.lt q e.symm).2; omega
            have bb0 := hg2.cell (a := ⟨wr.heap.size, 0, none⟩) ((grown_alloc w1 _ none).cell b0 (by simp)) (fun e => nb _ e rfl)
            have bb1 := hg2.cell (a := ⟨wr.heap.size, 1, none⟩) ((grown_alloc w1 _ none).cell b1 (by simp)) (fun e => nb _ e rfl)
            have bb2 := hg2.cell (a := ⟨wr.heap.size, 2, none⟩) ((grown_alloc w1 _ none).cell b2 (by simp)) (fun e => nb _ e rfl)
            have bb3 := hg2.cell (a := ⟨wr.heap.size, 3, none⟩) ((grown_alloc w1 _ none).cell b3 (by simp)) (fun e => nb _ e rfl)
            obtain ⟨Q, hQ⟩ : ∃ Q, joinG (toks.take k) ++ [sepOf true] = Q := ⟨_, rfl⟩
            have QE : Hid (joinG (toks.take (k + 1)) = Q ++ wrT t) := Lib.hid (by rw [joinG_take toks k hlt h0, HT.out, hb, hQ])
            have HR : Hid (w2.ownsRow w.heap.size 5 1 v2 Q.length (u8s Q)) := Lib.hid (by rw [← hQ, u8s_append, List.length_append]; exact ho2)
            have hQl : Q.length ≤ 20001 := by rw [← hQ]; simp; omega
            obtain ⟨xa, xn, xc, rfl⟩ := row_slice ho2
            clear hQ ho2 hg2 b0 b1 b2 b3 hown1 nb hL1
            go_wp2_with fail
            refine (WT.out _ _).mono ?_
            rintro e w5 ⟨rfl, g5⟩
            have R5 := kept_none HR.out g5
            have G5 := GW.trans g5
            have hs5 := G5.size
            clear bb0 bb1 bb2 bb3
            go_wp2_with (refine Lib.wpList_append_own_string _ rfl _ _ 46 9 rfl w.heap.size 5 i0 Tryd.underlying46 Tryd.underlying9 hi hz0 hz1 hz2 _ Q.length _ rfl R5 ⟨(wrT t).toArray⟩ rfl ?_ ?_ ?_ ?_)
            · show Q.length + (wrT t).length ≤ maxLen; unfold maxLen; omega
            · show Q.length + (wrT t).length ≤ _; omega
            · exact hs5
            · intro v' w6 ho6 hg6 _
              have hL := R5.lt
              have G6 : w.grownBy w6 none := grown_app G5 hg6 (fun q e => (hL q e).1)
              have R6 : w6.ownsRow w.heap.size 5 1 v' (joinG (toks.take (k + 1))).length (u8s (joinG (toks.take (k + 1)))) := by
                rw [QE.out, u8s_append, List.length_append]; exact ho6
              obtain ⟨ya, yn, yc, rfl⟩ := row_slice R6
              have HR6 := Lib.hid R6
              have hyn : yn = Q.length + (wrT t).length := by
                have := R6.2
                rw [QE.out, List.length_append] at this
                rcases this with ⟨h1, h2⟩ | ⟨_, _, _, h1, _⟩
                · cases h1; omega
                · cases h1; rfl
              subst hyn
              clear ho6 hg6 hL R6 R5 g5 HR
              by_cases hbig : Q.length + (wrT t).length ≤ 20000
              · have d5 : decide ((20000 : Int) < ((Q.length + (wrT t).length : Nat) : Int)) = false := by simp; omega
                have d6 : decide ((20000 : Int) < (Q.length : Int) + ((wrT t).length : Int)) = false := by simp; omega
                have d7 : ¬ (20000 : Int) < (Q.length : Int) + ((wrT t).length : Int) := by omega
                go_wp2_with fail
                go_roundw
                case rel => exact ⟨k + 1, by omega, by go_num, by rw [QE.out, List.length_append]; exact hbig, HR6.out, G6⟩
                case measure => simp [intOf]; omega
              · have d7 : (20000 : Int) < (Q.length : Int) + ((wrT t).length : Int) := by omega
                have e1 : textOf toks = ([], 16) := by
                  have := joinG_mono toks (k + 1)
                  rw [QE.out, List.length_append] at this
                  unfold textOf; rw [if_neg (by omega)]
                go_wp2_with fail
                go_ret2
                rw [e1]
                exact ⟨rfl, G6⟩
        | false =>
          rw [hb] at b3
          have hL1 := hown1.lt
          go_wp2_with (refine wpList_append_own _ rfl _ _ 46 rfl w.heap.size 5 i0 (.int .u8 0) 1 1 Tryd.underlying46 hi hz0 hz1 hz2 rfl (by decide) _ (joinG (toks.take k)).length _ rfl (hown1.alloc _) ⟨w1.heap.size, 0, none⟩ 1 1 [.int .u8 32] rfl rfl ?_ ?_ ?_ ?_ ?_ ?_)
          · intro j u hj
            match j, hj with
            | 0, hj => simp at hj; subst hj; simp [Addr.add]
            | (j + 1), hj => simp at hj
          · intro u hu; simp at hu; subst hu; rfl
          · unfold maxLen; omega
          · omega
          · simp; have := gA.size; omega
          · intro v2 w2 ho2 hg2 _
            have GW : w.grownBy w2 none := grown_app ((hgr.trans gA).trans (grown_alloc _ _ none)) hg2 (fun q e => (hL1 q e).1)
            have nb : ∀ q, some q = Value.ownBlock (.slice va vn vc) → q ≠ wr.heap.size := fun q e => by have := (HO.out.lt q e.symm).2; omega
            have bb0 := hg2.cell (a := ⟨wr.heap.size, 0, none⟩) ((grown_alloc w1 _ none).cell b0 (by simp)) (fun e => nb _ e rfl)
            have bb1 := hg2.cell (a := ⟨wr.heap.size, 1, none⟩) ((grown_alloc w1 _ none).cell b1 (by simp)) (fun e => nb _ e rfl)
            have bb2 := hg2.cell (a := ⟨wr.heap.size, 2, none⟩) ((grown_alloc w1 _ none).cell b2 (by simp)) (fun e => nb _ e rfl)
            have bb3 := hg2.cell (a := ⟨wr.heap.size, 3, none⟩) ((grown_alloc w1 _ none).cell b3 (by simp)) (fun e => nb _ e rfl)
            obtain ⟨Q, hQ⟩ : ∃ Q, joinG (toks.take k) ++ [sepOf false] = Q := ⟨_, rfl⟩
            have QE : Hid (joinG (toks.take (k + 1)) = Q ++ wrT t) := Lib.hid (by rw [joinG_take toks k hlt h0, HT.out, hb, hQ])
            have HR : Hid (w2.ownsRow w.heap.size 5 1 v2 Q.length (u8s Q)) := Lib.hid (by rw [← hQ, u8s_append, List.length_append]; exact ho2)
            have hQl : Q.length ≤ 20001 := by rw [← hQ]; simp; omega
            obtain ⟨xa, xn, xc, rfl⟩ := row_slice ho2
            clear hQ ho2 hg2 b0 b1 b2 b3 hown1 nb hL1
            go_wp2_with fail
            refine (WT.out _ _).mono ?_
            rintro e w5 ⟨rfl, g5⟩
            have R5 := kept_none HR.out g5
            have G5 := GW.trans g5
            have hs5 := G5.size
            clear bb0 bb1 bb2 bb3
            go_wp2_with (refine Lib.wpList_append_own_string _ rfl _ _ 46 9 rfl w.heap.size 5 i0 Tryd.underlying46 Tryd.underlying9 hi hz0 hz1 hz2 _ Q.length _ rfl R5 ⟨(wrT t).toArray⟩ rfl ?_ ?_ ?_ ?_)
            · show Q.length + (wrT t).length ≤ maxLen; unfold maxLen; omega
            · show Q.length + (wrT t).length ≤ _; omega
            · exact hs5
            · intro v' w6 ho6 hg6 _
              have hL := R5.lt
              have G6 : w.grownBy w6 none := grown_app G5 hg6 (fun q e => (hL q e).1)
              have R6 : w6.ownsRow w.heap.size 5 1 v' (joinG (toks.take (k + 1))).length (u8s (joinG (toks.take (k + 1)))) := by
                rw [QE.out, u8s_append, List.length_append]; exact ho6
              obtain ⟨ya, yn, yc, rfl⟩ := row_slice R6
              have HR6 := Lib.hid R6
              have hyn : yn = Q.length + (wrT t).length := by
                have := R6.2
                rw [QE.out, List.length_append] at this
                rcases this with ⟨h1, h2⟩ | ⟨_, _, _, h1, _⟩
                · cases h1; omega
                · cases h1; rfl
              subst hyn
              clear ho6 hg6 hL R6 R5 g5 HR
              by_cases hbig : Q.length + (wrT t).length ≤ 20000
              · have d5 : decide ((20000 : Int) < ((Q.length + (wrT t).length : Nat) : Int)) = false := by simp; omega
                have d6 : decide ((20000 : Int) < (Q.length : Int) + ((wrT t).length : Int)) = false := by simp; omega
                have d7 : ¬ (20000 : Int) < (Q.length : Int) + ((wrT t).length : Int) := by omega
                go_wp2_with fail
                go_roundw
                case rel => exact ⟨k + 1, by omega, by go_num, by rw [QE.out, List.length_append]; exact hbig, HR6.out, G6⟩
                case measure => simp [intOf]; omega
              · have d7 : (20000 : Int) < (Q.length : Int) + ((wrT t).length : Int) := by omega
                have e1 : textOf toks = ([], 16) := by
                  have := joinG_mono toks (k + 1)
                  rw [QE.out, List.length_append] at this
                  unfold textOf; rw [if_neg (by omega)]
                go_wp2_with fail
                go_ret2
                rw [e1]
                exact ⟨rfl, G6⟩
    · obtain rfl : k = toks.length := by omega
      rw [List.take_of_length_le (Nat.le_refl _)] at hown hle
      have e1 : textOf toks = (joinG toks, 0) := by unfold textOf; rw [if_pos hle]
      have CV := conv_own (l := joinG toks) hown
      clear hown
      go_wp2_with fail
      go_ret2
      rw [e1]
      exact ⟨rfl, hgr⟩
end Go.Proofs.YtpebdfofnmojcaaDoor

/- Contract: the function of the statement TokenPlaces. -/
namespace Go.Proofs.YtpebdfofnmojcaaDoor
open Go.RowKit Go.Maps Go.WideMaps

theorem chrF_code (l : List UInt8) (k : Nat) {code : Int} (h : chrF l k = .inr code) : code ≠ 0 := by
  unfold chrF at h
  repeat' split at h
  all_goals first
    | (cases h; done)
    | (rw [← Sum.inr.inj h]; decide)
theorem tokG_code (l : List UInt8) (k : Nat) {p : Nat × Int} (h : tokG l k = some (.inr p)) : p.2 ≠ 0 := by
  unfold tokG at h
  repeat' split at h
  all_goals first
    | (cases h; done)
    | (have e := Sum.inr.inj (Option.some.inj h)
       rw [← e]
       simp
       done)
    | (have e := Sum.inr.inj (Option.some.inj h)
       rename_i hc
       rw [← e]
       exact chrF_code l k hc)
theorem scanG_code : ∀ (n : Nat) (l : List UInt8) (k : Nat) (ln : Bool) (toks : List Tok) (p : Nat × Int), scanG n l k ln = some (toks, some p) → p.2 ≠ 0
  | 0, _, _, _, _, _, h => by simp [scanG] at h
  | n + 1, l, k, ln, toks, p, h => by
    unfold scanG at h
    split at h
    · cases h
    · have e := congrArg Prod.snd (Option.some.inj h)
      simp only at e
      rw [← Option.some.inj e]
      simp
    · split at h
      · cases h
      · split at h
        · split at h
          · cases h
          · rename_i q hq
            have e := congrArg Prod.snd (Option.some.inj h)
            simp only at e
            rw [← Option.some.inj e]
            exact tokG_code l _ hq
          · split at h
            · split at h
              · cases h
              · rename_i r hr
                obtain ⟨r1, r2⟩ := r
                have e := congrArg Prod.snd (Option.some.inj h)
                simp only at e
                subst e
                exact scanG_code n l _ _ _ p hr
            · cases h
        · cases h

set_option maxRecDepth 100000 in
set_option maxHeartbeats 1600000 in
theorem places_long (s : ByteArray) (n : Nat) (w : World) (hs : 500 < s.size) (hG : Glob w) : Calls Tryd.prog 5 #[.string s, .int .u16 n] w fun e w' => e = .returned (.bool true) ∧ w.grownBy w' none := by
  have AW := Lib.hid (fun W hG => awake_any W hG)
  have HG := Lib.hid hG
  have S : ∃ a c : Int, Hid (Calls Tryd.prog 18 #[.string s] w fun e w' => w.grownBy w' none ∧ ∃ v, e = .returned (.tuple #[v, .int .i64 a, .int .i64 c])) := by
    by_cases h : 20000 < s.size
    · refine ⟨0, 16, Lib.hid ((Scan_large s w h).mono ?_)⟩
      rintro e w' ⟨rfl, rfl⟩
      exact ⟨World.grownBy.refl _ _, _, rfl⟩
    · obtain ⟨⟨toks, o⟩, hr⟩ := scanG_total s.data.toList (s.size + 1) 0 true (by omega) (by rw [len_list]; omega)
      cases o with
      | none =>
        refine ⟨0, 0, Lib.hid ((Scan_gen s w (by omega) hG (by omega) hr).mono ?_)⟩
        rintro e w' ⟨h1, v, rfl, -⟩
        exact ⟨h1, v, rfl⟩
      | some p =>
        refine ⟨p.1, p.2, Lib.hid ((Scan_fails s w (by omega) hG (by omega) hr).mono ?_)⟩
        rintro e w' ⟨h1, rfl⟩
        exact ⟨h1, _, rfl⟩
  obtain ⟨a, c, S⟩ := S
  have i1 : (500 : Int) < s.size := by omega
  clear hG hs
  go_enter Tryd.func5, Tryd.ntmps5
  go_wp2_with fail
  refine S.out.mono ?_
  rintro e w1 ⟨g1, v, rfl⟩
  have HG1 := Lib.hid (HG.out.grown g1 (fun k h => by cases h))
  go_wp2_with fail
  refine (AW.out _ HG1.out).mono ?_
  rintro e w2 ⟨rfl, g2⟩
  go_wp2_with fail
  go_ret
  exact ⟨rfl, g1.trans g2⟩

set_option maxRecDepth 100000 in
set_option maxHeartbeats 1600000 in
theorem places_bad (s : ByteArray) (n : Nat) (w : World) (hs : s.size ≤ 500) (hG : Glob w) {toks : List Tok} {p : Nat × Int} (hr : scanG (s.size + 1) s.data.toList 0 true = some (toks, some p)) : Calls Tryd.prog 5 #[.string s, .int .u16 n] w fun e w' => e = .returned (.bool true) ∧ w.grownBy w' none := by
  have AW := Lib.hid (fun W hG => awake_any W hG)
  have HG := Lib.hid hG
  have S := Lib.hid (Scan_fails s w (by omega) hG (by omega) hr)
  have hp := scanG_bad _ _ _ _ _ _ hr
  have hc := scanG_code _ _ _ _ _ _ hr
  rw [len_list] at hp
  obtain ⟨p, c⟩ := p
  simp only at hp hc S
  have i1 : (s.size : Int) ≤ 500 := by omega
  have i2 : (p : Int) < s.size := by omega
  have i3 : (0 : Int) ≤ p := by omega
  have i4 : (c == 0) = false := by simpa using hc
  have i5 : (c != 0) = true := by simpa using hc
  clear hG hs hr hp
  go_enter Tryd.func5, Tryd.ntmps5
  go_wp2_with fail
  refine S.out.mono ?_
  rintro e w1 ⟨g1, rfl⟩
  have HG1 := Lib.hid (HG.out.grown g1 (fun k h => by cases h))
  go_wp2_with (go_at_call 8; refine (AW.out _ HG1.out).mono ?_; rintro e w2 ⟨rfl, g2⟩)
  go_ret
  exact ⟨rfl, g1.trans g2⟩
end Go.Proofs.YtpebdfofnmojcaaDoor

/- Contract: the function of the statement TokenPlaces, where the text is one of tokens. -/
namespace Go.Proofs.YtpebdfofnmojcaaDoor
open Go.RowKit Go.Maps Go.WideMaps

theorem toksIn_take {w : World} {g n cap K : Nat} {l : List Tok} (h : ToksIn w (.slice (some ⟨g, 0, none⟩) n cap) l) (hK : K ≤ l.length) : ToksIn w (.slice (some ⟨g, 0, none⟩) K cap) (l.take K) := by
  rcases h with ⟨h, -⟩ | ⟨g', cap', h, h1, h2, h3, h4⟩
  · cases h
  · cases h
    refine .inr ⟨g, cap, ?_, h1, ?_, h3, fun j u hj => h4 j u ?_⟩
    · rw [List.length_take, Nat.min_eq_left hK]
    · rw [List.length_take]; omega
    · have e : tokCells l = tokCells (l.take K) ++ tokCells (l.drop K) := by
        unfold tokCells
        rw [← List.flatMap_append, List.take_append_drop]
      rw [e, List.getElem?_append_left]
      · exact hj
      · exact (List.getElem?_eq_some_iff.1 hj).1
theorem toksIn_cap {w : World} {p : Option Addr} {n cap : Nat} {l : List Tok} (h : ToksIn w (.slice p n cap) l) : l.length ≤ cap := by
  rcases h with ⟨h, rfl⟩ | ⟨g', cap', h, h1, h2, h3, h4⟩
  · simp
  · cases h; exact h2
theorem scan_cut {l : List UInt8} {n k : Nat} {toks : List Tok} (h : scanG n l 0 true = some (toks, none)) (hk : k < toks.length) : scanG (toks[k].pos + 1) (l.take toks[k].pos) 0 true = some (toks.take k, none) := by
  have R := scanR_of l n 0 true toks h
  have e : toks = toks.take k ++ toks[k] :: toks.drop (k + 1) := by
    rw [List.getElem_cons_drop, List.take_append_drop]
  obtain ⟨t, ht⟩ : ∃ t, toks[k] = t := ⟨_, rfl⟩
  rw [ht] at e ⊢
  rw [e] at R
  have C := scanR_cut R
  have hm := (scanR_mid R).2
  exact scanG_of _ _ _ _ _ C (by simp; omega)
theorem scan_pos {l : List UInt8} {n : Nat} {toks : List Tok} (h : scanG n l 0 true = some (toks, none)) (k : Nat) (hk : k < toks.length) : toks[k].pos < l.length := (scanR_mem (scanR_of l n 0 true toks h) _ (List.getElem_mem hk)).2
theorem scan_asc {l : List UInt8} {n : Nat} {toks : List Tok} (h : scanG n l 0 true = some (toks, none)) (k : Nat) (hk : k + 1 < toks.length) : toks[k].pos < toks[k + 1].pos := by
  have := scanR_asc (scanR_of l n 0 true toks h)
  exact List.pairwise_iff_getElem.1 this k (k + 1) (by omega) hk (by omega)

set_option maxRecDepth 100000 in
set_option maxHeartbeats 3200000 in
theorem places_good (s : ByteArray) (n : Nat) (w : World) (hs : s.size ≤ 500) (hn : n < 65536) (hG : Glob w) {toks : List Tok} (hr : scanG (s.size + 1) s.data.toList 0 true = some (toks, none)) : Calls Tryd.prog 5 #[.string s, .int .u16 n] w fun e w' => e = .returned (.bool true) ∧ w.grownBy w' none := by
  have AW := Lib.hid (fun W hG => awake_any W hG)
  have HG := Lib.hid hG
  have S := Lib.hid (Scan_gen s w (by omega) hG (by omega) hr)
  have hlen := scanG_len _ _ _ _ _ hr
  simp only at hlen
  have HP := Lib.hid (scan_pos hr)
  have HA := Lib.hid (scan_asc hr)
  have HC := Lib.hid (fun k (hk : k < toks.length) => scan_cut (k := k) hr hk)
  have i1 : (s.size : Int) ≤ 500 := by omega
  have i2 : (toks.length : Int) ≤ 500 := by omega
  clear hG hs hr
  go_enter Tryd.func5, Tryd.ntmps5
  go_wp2_with fail
  refine S.out.mono ?_
  rintro e w1 ⟨g1, v, rfl, hrow⟩
  have TI := toksIn_row hrow
  have HT := Lib.hid TI
  obtain ⟨p, cap, rfl, F⟩ := toksIn_form TI
  have HG1 := Lib.hid (HG.out.grown g1 (fun k h => by cases h))
  have hcap := toksIn_cap TI
  have ic : (toks.length : Int) ≤ cap := by omega
  clear TI hrow
  go_wp2_with fail
  go_loopw [43] (fun i wr => ∃ k : Nat, k ≤ toks.length ∧ i = .int .i64 k ∧ w1.grownBy wr none) (fun i _ => toks.length - (intOf i).toNat)
  case atStart => exact ⟨0, Nat.zero_le _, rfl, World.grownBy.refl _ _⟩
  case round =>
    obtain ⟨k, hk, rfl, hgr⟩ := hrel
    by_cases hlt : k < toks.length
    · obtain ⟨g, rfl, -, c⟩ := F (by omega)
      have a2 : wr.cell? ⟨g, k * 4 + 2, none⟩ = some (.int .i64 toks[k].pos) := hgr.cell (c k 2 hlt (by decide) _ rfl) (by simp)
      have hp := HP.out k hlt
      rw [len_list] at hp
      have j1 : (k : Int) < toks.length := by omega
      have j2 : (0 : Int) ≤ k := by omega
      by_cases h0 : k = 0
      · have d3 : decide ((0 : Int) < (k : Int)) = false := by simp; omega
        have n3 : decide (0 < k) = false := by simp; omega
        generalize toks[k].pos = q at *
        have j3 : (q : Int) < s.size := by omega
        have j4 : (0 : Int) ≤ q := by omega
        have d1 : decide ((q : Int) < 0) = false := by simp
        have d2 : decide ((s.size : Int) ≤ q) = false := by simp; omega
        have n2 : decide (s.size ≤ q) = false := by simp; omega
        clear h0 c F
        go_wp2_with fail
        go_quiet (fail)
        go_wp2_with fail
        go_roundw
        case rel => exact ⟨k + 1, by omega, by go_num, hgr.trans (grown_drewN wr nq none)⟩
        case measure => simp [intOf]; omega
      · obtain ⟨j, hj⟩ : ∃ j, k = j + 1 := ⟨k - 1, by omega⟩
        have ha := HA.out j (by omega)
        have a3 : wr.cell? ⟨g, j * 4 + 2, none⟩ = some (.int .i64 (toks[j]'(by omega)).pos) := hgr.cell (c j 2 (by omega) (by decide) _ rfl) (by simp)
        have hq : (toks[j + 1]'(by omega)).pos = toks[k].pos := by subst hj; rfl
        rw [hq] at ha
        generalize (toks[j]'(by omega)).pos = q' at *
        generalize toks[k].pos = q at *
        have j3 : (q : Int) < s.size := by omega
        have j4 : (0 : Int) ≤ q := by omega
        have j5 : (q' : Int) < q := by omega
        have j6 : (0 : Int) ≤ q' := by omega
        have m1 : (0 : Int) ≤ (k : Int) - 1 := by omega
        have m2 : (k : Int) - 1 < toks.length := by omega
        have m3 : ((k : Int) - 1).toNat = j := by omega
        have d3 : decide ((0 : Int) < (k : Int)) = true := by simp; omega
        have n3 : decide (0 < k) = true := by simp; omega
        have n4 : decide (q ≤ q') = false := by simp; omega
        have d4 : decide ((q : Int) ≤ q') = false := by simp; omega
        have d1 : decide ((q : Int) < 0) = false := by simp
        have d2 : decide ((s.size : Int) ≤ q) = false := by simp; omega
        have n2 : decide (s.size ≤ q) = false := by simp; omega
        clear h0 hq hj c F ha
        go_wp2_with fail
        go_quiet (fail)
        go_wp2_with fail
        go_roundw
        case rel => exact ⟨k + 1, by omega, by go_num, hgr.trans (grown_drewN wr nq none)⟩
        case measure => simp [intOf]; omega
    · obtain rfl : k = toks.length := by omega
      by_cases h0 : toks.length = 0
      · rw [h0] at *
        go_wp2_with fail
        refine (AW.out _ (HG1.out.grown hgr (fun k h => by cases h))).mono ?_
        rintro e w2 ⟨rfl, g2⟩
        go_wp2_with fail
        go_ret
        exact ⟨rfl, (g1.trans hgr).trans g2⟩
      · obtain ⟨K, hK⟩ : ∃ K : Nat, (n : Int) % (toks.length : Int) = (K : Int) := ⟨n % toks.length, by omega⟩
        have hKl : K < toks.length := by have := Int.emod_lt_of_pos (n : Int) (show (0 : Int) < toks.length by omega); omega
        obtain ⟨g, rfl, -, c⟩ := F (by omega)
        have a2 : wr.cell? ⟨g, K * 4 + 2, none⟩ = some (.int .i64 toks[K].pos) := hgr.cell (c K 2 hKl (by decide) _ rfl) (by simp)
        have hp := HP.out K hKl
        rw [len_list] at hp
        have C0 := HC.out K hKl
        obtain ⟨q, hq⟩ : ∃ q, toks[K].pos = q := ⟨_, rfl⟩
        rw [hq] at a2 hp C0
        have e1 : (s.extract 0 q).data.toList = s.data.toList.take q := by rw [extract_list]; simp
        have e2 : (s.extract 0 q).size = q := by rw [← len_list, e1]; simp; omega
        have SC := Scan_gen (s.extract 0 q) wr (by omega) (HG1.out.grown hgr (fun k h => by cases h)) (n := q + 1) (by omega) (by rw [e1]; exact C0)
        have SC' := Lib.hid SC
        have j3 : (q : Int) ≤ s.size := by omega
        have j4 : (0 : Int) ≤ q := by omega
        have j5 : (K : Int) < toks.length := by omega
        have j6 : (0 : Int) ≤ K := by omega
        have j7 : ((toks.length : Int) == 0) = false := by simpa using h0
        clear SC e1 e2 C0
        go_wp2_with fail
        refine SC'.out.mono ?_
        rintro e w2 ⟨g2, v2, rfl, r2⟩
        have T2 := toksIn_row r2
        have T1 := toksIn_grown (toksIn_grown (toksIn_take HT.out (Nat.le_of_lt hKl)) hgr) g2
        have SA := Lib.hid (same_any _ _ _ _ w2 (by simp; omega) T2 T1 rfl)
        have HG2 := Lib.hid ((HG1.out.grown hgr (fun k h => by cases h)).grown g2 (fun k h => by cases h))
        have j8 : (K : Int) ≤ cap := by omega
        clear T1 T2 r2 SC' a2
        go_wp2_with (first | (go_at_call 20; refine SA.out.mono ?_; rintro e w3 ⟨rfl, g3⟩) | (go_at_call 8; refine (AW.out _ (HG2.out.grown g3 (fun k h => by cases h))).mono ?_; rintro e w4 ⟨rfl, g4⟩))
        go_ret
        exact ⟨rfl, (((g1.trans hgr).trans g2).trans g3).trans g4⟩
end Go.Proofs.YtpebdfofnmojcaaDoor

/- Contract: the function of the statement TokenPlaces, over every text. -/
namespace Go.Proofs.YtpebdfofnmojcaaDoor
open Go.RowKit

theorem u16_range {a : Int} (h : (Lit.int .u16 a).wf = true) : 0 ≤ a ∧ a < 65536 := by
  simp only [Lit.wf, Bool.and_eq_true, decide_eq_true_eq] at h
  have h1 : IntKind.u16.min = 0 := by decide
  have h2 : IntKind.u16.max = 65535 := by decide
  omega
theorem places_any (s : ByteArray) (a : Int) (w : World) (h0 : 0 ≤ a) (h1 : a < 65536) (hG : Glob w) : Calls Tryd.prog 5 #[.string s, .int .u16 a] w fun e w' => e = .returned (.bool true) ∧ w.grownBy w' none := by
  obtain ⟨n, rfl⟩ := Int.eq_ofNat_of_zero_le h0
  by_cases hs : 500 < s.size
  · exact places_long s n w hs hG
  · obtain ⟨⟨toks, o⟩, hr⟩ := scanG_total s.data.toList (s.size + 1) 0 true (by omega) (by rw [len_list]; omega)
    cases o with
    | none => exact places_good s n w (by omega) (by omega) hG hr
    | some p => exact places_bad s n w (by omega) hG hr
theorem below_of_grown {w w' : World} (h : w.grownBy w' none) : Below w.heap.size w w' := ⟨h.os, h.tape, h.output, h.size, fun k hk => h.block k hk (by simp)⟩
theorem places_bel (s : ByteArray) (a : Int) (w : World) (h : 0 ≤ a ∧ a < 65536) (hG : Glob w) : Calls Tryd.prog 5 #[.string s, .int .u16 a] w fun e w' => e = .returned (.bool true) ∧ Below w.heap.size w w' :=
  (places_any s a w h.1 h.2 hG).mono fun _ _ ⟨h1, h2⟩ => ⟨h1, below_of_grown h2⟩
end Go.Proofs.YtpebdfofnmojcaaDoor

/- Contract: the function of the statement TokenBack. -/
namespace Go.Proofs.YtpebdfofnmojcaaDoor
open Go.RowKit

theorem core_mem {a b : List Tok} (h : a.map Tok.core = b.map Tok.core) (P : Tok → Prop) (hP : ∀ t, P t.core → P t) (hQ : ∀ t, P t → P t.core) (hb : ∀ t, t ∈ b → P t) : ∀ t, t ∈ a → P t := fun t ht => by
  have : t.core ∈ b.map Tok.core := by rw [← h]; exact List.mem_map_of_mem ht
  obtain ⟨u, hu, e⟩ := List.mem_map.1 this
  apply hP
  rw [← e]
  exact hQ u (hb u hu)
theorem core_line {a b : List Tok} (h : a.map Tok.core = b.map Tok.core) (i : Nat) (h1 : i < a.length) (h2 : i < b.length) : a[i].line = b[i].line := by
  have e : (a.map Tok.core)[i]'(by simpa using h1) = (b.map Tok.core)[i]'(by simpa using h2) := by simp only [h]
  rw [List.getElem_map, List.getElem_map] at e
  exact (congrArg Tok.line e : (a[i].core).line = (b[i].core).line)
theorem core_bare {a b : List Tok} (h : a.map Tok.core = b.map Tok.core) : a.map Tok.bare = b.map Tok.bare := by
  have e := congrArg (List.map fun t : Tok => (⟨t.kind, t.text, 0, false⟩ : Tok)) h
  rw [List.map_map, List.map_map] at e
  exact e

set_option maxRecDepth 100000 in
set_option maxHeartbeats 1600000 in
theorem back_long (s : ByteArray) (w : World) (hs : 2000 < s.size) (hG : Glob w) : Calls Tryd.prog 4 #[.string s] w fun e w' => e = .returned (.bool true) ∧ w.grownBy w' none := by
  have AW := Lib.hid (fun W hG => awake_any W hG)
  have HG := Lib.hid hG
  have S : ∃ a c : Int, Hid (Calls Tryd.prog 18 #[.string s] w fun e w' => w.grownBy w' none ∧ ∃ v, e = .returned (.tuple #[v, .int .i64 a, .int .i64 c])) := by
    by_cases h : 20000 < s.size
    · refine ⟨0, 16, Lib.hid ((Scan_large s w h).mono ?_)⟩
      rintro e w' ⟨rfl, rfl⟩
      exact ⟨World.grownBy.refl _ _, _, rfl⟩
    · obtain ⟨⟨toks, o⟩, hr⟩ := scanG_total s.data.toList (s.size + 1) 0 true (by omega) (by rw [len_list]; omega)
      cases o with
      | none =>
        refine ⟨0, 0, Lib.hid ((Scan_gen s w (by omega) hG (by omega) hr).mono ?_)⟩
        rintro e w' ⟨h1, v, rfl, -⟩
        exact ⟨h1, v, rfl⟩
      | some p =>
        refine ⟨p.1, p.2, Lib.hid ((Scan_fails s w (by omega) hG (by omega) hr).mono ?_)⟩
        rintro e w' ⟨h1, rfl⟩
        exact ⟨h1, _, rfl⟩
  obtain ⟨a, c, S⟩ := S
  have i1 : (2000 : Int) < s.size := by omega
  clear hG hs
  go_enter Tryd.func4, Tryd.ntmps4
  go_wp2_with fail
  refine S.out.mono ?_
  rintro e w1 ⟨g1, v, rfl⟩
  have HG1 := Lib.hid (HG.out.grown g1 (fun k h => by cases h))
  go_wp2_with fail
  refine (AW.out _ HG1.out).mono ?_
  rintro e w2 ⟨rfl, g2⟩
  go_wp2_with fail
  go_ret
  exact ⟨rfl, g1.trans g2⟩

set_option maxRecDepth 100000 in
set_option maxHeartbeats 1600000 in
theorem back_bad (s : ByteArray) (w : World) (hs : s.size ≤ 2000) (hG : Glob w) {toks : List Tok} {p : Nat × Int} (hr : scanG (s.size + 1) s.data.toList 0 true = some (toks, some p)) : Calls Tryd.prog 4 #[.string s] w fun e w' => e = .returned (.bool true) ∧ w.grownBy w' none := by
  have AW := Lib.hid (fun W hG => awake_any W hG)
  have HG := Lib.hid hG
  have S := Lib.hid (Scan_fails s w (by omega) hG (by omega) hr)
  have hc := scanG_code _ _ _ _ _ _ hr
  obtain ⟨p, c⟩ := p
  simp only at hc S
  have i1 : (s.size : Int) ≤ 2000 := by omega
  have i4 : (c == 0) = false := by simpa using hc
  have i5 : (c != 0) = true := by simpa using hc
  clear hG hs hr
  go_enter Tryd.func4, Tryd.ntmps4
  go_wp2_with fail
  refine S.out.mono ?_
  rintro e w1 ⟨g1, rfl⟩
  have HG1 := Lib.hid (HG.out.grown g1 (fun k h => by cases h))
  go_wp2_with (go_at_call 8; refine (AW.out _ HG1.out).mono ?_; rintro e w2 ⟨rfl, g2⟩)
  go_ret
  exact ⟨rfl, g1.trans g2⟩

set_option maxRecDepth 100000 in
set_option maxHeartbeats 1600000 in
theorem back_large (s : ByteArray) (w : World) (hs : s.size ≤ 2000) (hG : Glob w) {toks : List Tok} (hr : scanG (s.size + 1) s.data.toList 0 true = some (toks, none)) (hj : ¬ (joinG toks).length ≤ 20000) : Calls Tryd.prog 4 #[.string s] w fun e w' => e = .returned (.bool true) ∧ w.grownBy w' none := by
  have AW := Lib.hid (fun W hG => awake_any W hG)
  have HG := Lib.hid hG
  have S := Lib.hid (Scan_gen s w (by omega) hG (by omega) hr)
  have hlen := scanG_len _ _ _ _ _ hr
  simp only at hlen
  have R := scanR_of _ _ _ _ _ hr
  have TX0 := fun v W h hG => text_any v toks W (by omega) h (scanR_again R) (scanR_line R) (fun t ht => by have := scanR_len R t ht; rw [len_list] at this; omega) hG
  have e1 : textOf toks = ([], 16) := by unfold textOf; rw [if_neg hj]
  rw [e1] at TX0
  have TX := Lib.hid TX0
  have i1 : (s.size : Int) ≤ 2000 := by omega
  clear hG hs hr R TX0 hj e1
  go_enter Tryd.func4, Tryd.ntmps4
  go_wp2_with fail
  refine S.out.mono ?_
  rintro e w1 ⟨g1, v, rfl, hrow⟩
  have T1 := toksIn_row hrow
  have HG1 := Lib.hid (HG.out.grown g1 (fun k h => by cases h))
  have TX1 := Lib.hid (TX.out v w1 T1 HG1.out)
  clear hrow T1 TX S
  go_wp2_with fail
  refine TX1.out.mono ?_
  rintro e w2 ⟨rfl, g2⟩
  have HG2 := Lib.hid (HG1.out.grown g2 (fun k h => by cases h))
  go_wp2_with fail
  refine (AW.out _ HG2.out).mono ?_
  rintro e w3 ⟨rfl, g3⟩
  go_wp2_with fail
  go_ret
  exact ⟨rfl, (g1.trans g2).trans g3⟩

set_option maxRecDepth 100000 in
set_option maxHeartbeats 3200000 in
theorem back_good (s : ByteArray) (w : World) (hs : s.size ≤ 2000) (hG : Glob w) {toks : List Tok} (hr : scanG (s.size + 1) s.data.toList 0 true = some (toks, none)) (hj : (joinG toks).length ≤ 20000) : Calls Tryd.prog 4 #[.string s] w fun e w' => e = .returned (.bool true) ∧ w.grownBy w' none := by
  have AW := Lib.hid (fun W hG => awake_any W hG)
  have HG := Lib.hid hG
  have S := Lib.hid (Scan_gen s w (by omega) hG (by omega) hr)
  have hlen := scanG_len _ _ _ _ _ hr
  simp only at hlen
  have R := scanR_of _ _ _ _ _ hr
  have hz : ∀ t, t ∈ toks → t.text.size ≤ 20000 := fun t ht => by have := scanR_len R t ht; rw [len_list] at this; omega
  have CE := placeG_core toks
  have hl2 : (placeG toks).length = toks.length := by have := congrArg List.length CE; simpa using this
  have TX0 := fun v W h hG => text_any v toks W (by omega) h (scanR_again R) (scanR_line R) hz hG
  have R2 := joinG_scanR toks (scanR_again R) (scanR_line R)
  have TY0 := fun v W h hG => text_any v (placeG toks) W (by omega) h (scanR_again R2) (scanR_line R2) (core_mem CE (fun t => t.text.size ≤ 20000) (fun _ h => h) (fun _ h => h) hz) hG
  have e1 : textOf toks = (joinG toks, 0) := by unfold textOf; rw [if_pos hj]
  have e2 : textOf (placeG toks) = (joinG toks, 0) := by unfold textOf; rw [joinG_core _ _ CE, if_pos hj]
  rw [e1] at TX0
  rw [e2] at TY0
  have TX := Lib.hid TX0
  have TY := Lib.hid TY0
  have A := scan_again hr
  have hJ : (⟨(joinG toks).toArray⟩ : ByteArray).data.toList = joinG toks := by simp
  have hJz : (⟨(joinG toks).toArray⟩ : ByteArray).size = (joinG toks).length := by rw [← len_list, hJ]
  have S2 := Lib.hid (fun W hG => Scan_gen ⟨(joinG toks).toArray⟩ W (by rw [hJz]; omega) hG (n := (joinG toks).length + 1) (by omega) (toks := placeG toks) (by rw [hJ]; exact A))
  have HB := Lib.hid (core_bare CE)
  have HL := Lib.hid (core_line CE)
  have HL2 := Lib.hid hl2
  have i1 : (s.size : Int) ≤ 2000 := by omega
  have i2 : (toks.length : Int) ≤ 2000 := by omega
  clear hG hs hr R R2 TX0 TY0 e1 e2 A hJ hJz CE hz hj
  generalize placeG toks = tokz at *
  obtain ⟨J, hJ⟩ : ∃ J, (⟨(joinG toks).toArray⟩ : ByteArray) = J := ⟨_, rfl⟩
  rw [hJ] at TX TY S2
  clear hJ
  go_enter Tryd.func4, Tryd.ntmps4
  go_wp2_with fail
  refine S.out.mono ?_
  rintro e w1 ⟨g1, v, rfl, hrow⟩
  have T1 := toksIn_row hrow
  have HT1 := Lib.hid T1
  have HG1 := Lib.hid (HG.out.grown g1 (fun k h => by cases h))
  have TX1 := Lib.hid (TX.out v w1 T1 HG1.out)
  clear hrow T1 TX S
  go_wp2_with fail
  refine TX1.out.mono ?_
  rintro e w2 ⟨rfl, g2⟩
  have HG2 := Lib.hid (HG1.out.grown g2 (fun k h => by cases h))
  go_wp2_with fail
  refine (S2.out _ HG2.out).mono ?_
  rintro e w3 ⟨g3, u, rfl, hrow2⟩
  have T3 := toksIn_row hrow2
  have HT3 := Lib.hid T3
  have HG3 := Lib.hid (HG2.out.grown g3 (fun k h => by cases h))
  have TY1 := Lib.hid (TY.out u w3 T3 HG3.out)
  clear hrow2 T3 TY S2
  go_wp2_with fail
  refine TY1.out.mono ?_
  rintro e w4 ⟨rfl, g4⟩
  have HG4 := Lib.hid (HG3.out.grown g4 (fun k h => by cases h))
  have L4 := toksIn_grown (toksIn_grown (toksIn_grown HT1.out g2) g3) g4
  have M4 := toksIn_grown HT3.out g4
  have SA := Lib.hid (same_any _ _ _ _ w4 (by omega) L4 M4 HB.out.symm)
  obtain ⟨p1, c1, rfl, F1⟩ := toksIn_form L4
  obtain ⟨p2, c2, rfl, F2⟩ := toksIn_form M4
  have FF1 := Lib.hid F1
  have FF2 := Lib.hid F2
  rw [hl2] at SA ⊢
  have g04 := ((g1.trans g2).trans g3).trans g4
  clear L4 M4 HT1 HT3 F1 F2 hl2 TX1 TY1
  go_wp2_with (go_at_call 20; refine SA.out.mono ?_; rintro e w5 ⟨rfl, g5⟩)
  clear SA hlen
  go_loopw [69] (fun i wr => ∃ k : Nat, k ≤ toks.length ∧ i = .int .i64 k ∧ w5.grownBy wr none) (fun i _ => toks.length - (intOf i).toNat)
  case atStart => exact ⟨0, Nat.zero_le _, rfl, World.grownBy.refl _ _⟩
  case round =>
    obtain ⟨k, hk, rfl, hgr⟩ := hrel
    by_cases hlt : k < toks.length
    · have hlt2 : k < tokz.length := by have := HL2.out; omega
      obtain ⟨g, rfl, -, ca⟩ := FF1.out (by omega)
      obtain ⟨g', rfl, -, cb⟩ := FF2.out (by omega)
      have a3 : wr.cell? ⟨g, k * 4 + 3, none⟩ = some (.bool toks[k].line) := hgr.cell (g5.cell (ca k 3 hlt (by decide) _ rfl) (by simp)) (by simp)
      have b3 : wr.cell? ⟨g', k * 4 + 3, none⟩ = some (.bool tokz[k].line) := hgr.cell (g5.cell (cb k 3 hlt2 (by decide) _ rfl) (by simp)) (by simp)
      rw [HL.out k hlt2 hlt] at b3
      have j1 : (k : Int) < toks.length := by omega
      have j2 : (0 : Int) ≤ k := by omega
      generalize toks[k].line = x at *
      clear ca cb hlt2
      cases x
      all_goals
        go_wp2_with fail
        go_quiet (fail)
        go_wp2_with fail
        go_roundw
        case rel => exact ⟨k + 1, by omega, by go_num, hgr.trans (grown_drewN wr nq none)⟩
        case measure => simp [intOf]; omega
    · obtain rfl : k = toks.length := by omega
      go_wp2_with (go_at_call 8; refine (AW.out _ ((HG4.out.grown g5 (fun k h => by cases h)).grown hgr (fun k h => by cases h))).mono ?_; rintro e w6 ⟨rfl, g6⟩)
      go_ret
      exact ⟨rfl, ((g04.trans g5).trans hgr).trans g6⟩

theorem back_bel (s : ByteArray) (w : World) (hG : Glob w) : Calls Tryd.prog 4 #[.string s] w fun e w' => e = .returned (.bool true) ∧ Below w.heap.size w w' := by
  have C : Calls Tryd.prog 4 #[.string s] w fun e w' => e = .returned (.bool true) ∧ w.grownBy w' none := by
    by_cases hs : 2000 < s.size
    · exact back_long s w hs hG
    · obtain ⟨⟨toks, o⟩, hr⟩ := scanG_total s.data.toList (s.size + 1) 0 true (by omega) (by rw [len_list]; omega)
      cases o with
      | some p => exact back_bad s w (by omega) hG hr
      | none =>
        by_cases hj : (joinG toks).length ≤ 20000
        · exact back_good s w (by omega) hG hr hj
        · exact back_large s w (by omega) hG hr hj
  exact C.mono fun _ _ ⟨h1, h2⟩ => ⟨h1, below_of_grown h2⟩
end Go.Proofs.YtpebdfofnmojcaaDoor

/- What the listed variables hold gives what the contracts ask of the world. -/
namespace Go.Proofs.YtpebdfofnmojcaaDoor
open Go.RowKit Go.Lib

theorem cells_of_strs {H : Type} {enc : TypeId × Value → H} {P : Program} {w : World} {base : Nat} {sp : Nat → Bool} {held : Bool} {fuel : Nat} {t e : TypeId} {n : Nat} {cs : List Value} {l : List (List UInt8)} {p : List MemPlace}
    (ht : P.underlying t = some (.array n e)) (he : P.underlying e = some .string) (hce : P.cellsOf e = 1) (_ : P.cellsOf t = n) (hln : l.length = n)
    (h : DataW.trod enc P w base sp held fuel t cs = some (.agg (l.map fun x => .lit (.string x)), p)) (hcl : cs.length = n) : cs = l.map fun x => Value.string (str x) := by
  apply List.ext_getElem?
  intro i
  by_cases hi : i < n
  · obtain ⟨f', d, q, hd, hf⟩ := array_elem ht h i hi
    rw [hce, Nat.mul_one] at hf
    obtain ⟨s, hc, hx, _⟩ := DataW.trod_string he hf
    have h1 : cs[i]? = some (.string s) := by
      have := congrArg (·[0]?) hc
      simpa [List.getElem?_take, List.getElem?_drop] using this
    have hil : i < l.length := by omega
    simp only [List.getElem?_map, List.getElem?_eq_getElem hil, Option.map_some, Option.some.injEq] at hd
    subst hd
    simp only [Prod.mk.injEq, DataW.lit.injEq, Lit.string.injEq] at hx
    rw [h1]
    simp only [List.getElem?_map, List.getElem?_eq_getElem hil, Option.map_some]
    rw [hx.1]
    rfl
  · rw [List.getElem?_eq_none (by omega), List.getElem?_eq_none (by simp; omega)]

theorem block_of_reads {w : World} {name : String} {g t : Nat} {n : Nat} {l : List (List UInt8)} (hg : Tryd.prog.globalNamed name = some g) (hty : (Tryd.prog.globals[g]?).map (·.type) = some t)
    (ht : Tryd.prog.underlying t = some (.array n 9)) (hce : Tryd.prog.cellsOf 9 = 1) (hct : Tryd.prog.cellsOf t = n) (hln : l.length = n)
    (h : VarReads Tryd.prog w name (.agg (l.map fun x => .lit (.string x)))) : ∃ t fr, w.heap[g]? = some (.cells (cellsOfL l) t fr) := by
  obtain ⟨g', t', cs, fuel, p, hg', hty', hvar, hd⟩ := h
  obtain rfl := Option.some.inj (hg.symm.trans hg')
  obtain rfl := Option.some.inj (hty.symm.trans hty')
  have hcl : cs.toList.length = n := by
    cases fuel with
    | zero => simp [DataW.trod] at hd
    | succ fuel =>
      simp only [DataW.trod, ht, hce, hct, Nat.mul_one] at hd
      split at hd
      · rename_i hl; simpa using hl
      · cases hd
  have hcs := cells_of_strs ht Tryd.underlying9 hce hct hln hd hcl
  unfold World.var? at hvar
  rw [hg] at hvar
  simp only [Option.bind_some] at hvar
  split at hvar
  · rename_i cs' t' fr heq
    cases hvar
    have e : cs = cellsOfL l := Array.toList_inj.1 (by rw [hcs]; unfold cellsOfL; rw [List.toList_toArray])
    exact ⟨t', fr, by rw [heq, e]⟩
  · cases hvar

set_option maxRecDepth 1000000 in
theorem kw_data : (Rows.laid_hackamore_token_keywords : DataW Unit) = .agg (kwBytes.map fun x => .lit (.string x)) := by kernel_rfl
set_option maxRecDepth 1000000 in
theorem sym_data : (Rows.laid_hackamore_token_symbols : DataW Unit) = .agg (symBytes.map fun x => .lit (.string x)) := by kernel_rfl
set_option maxRecDepth 1000000 in
theorem acc_data : (Rows.laid_unicode_utf8_acceptRanges : DataW Unit) = acceptData := by kernel_rfl
set_option maxRecDepth 1000000 in
theorem first_data : Rows.laid_unicode_utf8_first = firstData := by kernel_rfl

set_option maxRecDepth 1000000 in
theorem glob_of_laid {W : World} (h : laidMetH Tryd.prog Rows.tokenNamesRow.laid W) (hm : ∃ m, W.cell? ⟨4, 0, none⟩ = some (.int .i64 m)) : Glob W := by
  have hL : laidMet Tryd.prog [("unicode/utf8.acceptRanges", Rows.laid_unicode_utf8_acceptRanges), ("hackamore/token.keywords", Rows.laid_hackamore_token_keywords), ("hackamore/token.symbols", Rows.laid_hackamore_token_symbols), ("unicode/utf8.first", Rows.laid_unicode_utf8_first)] W := h
  have r1 := laidMet.reads hL (.head _)
  have r2 := laidMet.reads hL (.tail _ (.head _))
  have r3 := laidMet.reads hL (.tail _ (.tail _ (.head _)))
  have r4 := laidMet.reads hL (.tail _ (.tail _ (.tail _ (.head _))))
  rw [acc_data] at r1
  rw [kw_data] at r2
  rw [sym_data] at r3
  rw [first_data] at r4
  exact ⟨block_of_reads (g := 0) (t := 44) (n := 51) (by kernel_rfl) (by kernel_rfl) Tryd.underlying44 (by kernel_rfl) (by kernel_rfl) kw_len r2,
    block_of_reads (g := 1) (t := 45) (n := 43) (by kernel_rfl) (by kernel_rfl) Tryd.underlying45 (by kernel_rfl) (by kernel_rfl) sym_len r3,
    utf8Tabs_of_readsT (U8Types.of196 Tryd.laysValid) ⟨by kernel_rfl, by kernel_rfl, by kernel_rfl, by kernel_rfl, by kernel_rfl, by kernel_rfl, by kernel_rfl⟩ r4 r1, hm⟩
end Go.Proofs.YtpebdfofnmojcaaDoor

/- The tables and the variable of the library, as a row's world has them; a witness. -/
namespace Go.Proofs.YtpebdfofnmojcaaDoor
open Go.RowKit

set_option maxRecDepth 1000000 in
theorem glob_shaped {W : World} (h : laidMetH Tryd.prog Rows.tokenNamesRow.laid W) (hS : W.ShapedOpen Tryd.prog) : Glob W :=
  glob_of_laid h (cell_of_shapedOpen_int (g := 4) (t := 3) (zero := #[.int .i64 0]) hS (by decide +kernel) (by kernel_rfl) rfl (by kernel_rfl) (by kernel_rfl) Tryd.underlying3)
theorem own : ownKnob Tryd.prog.godebug = none := by kernel_rfl

/-- The witness: the settled world, the four variables holding what their initialisers lay. -/
noncomputable def laidWorld (os : Os) : World :=
  let w0 := World.holding Tryd.prog os ⟨#[], #[], []⟩
  let put (h : Array Obj) (g : Nat) (cs : Array Value) : Array Obj := h.modify g fun
    | .cells _ t frozen => .cells cs t frozen
    | o => o
  let h1 := put w0.heap 0 (cellsOfL kwBytes)
  let h2 := put h1 1 (cellsOfL symBytes)
  let h3 := put h2 2 (Lib.firstTab.map fun z => Value.int .u8 z).toArray
  let h4 := put h3 3 ((List.range 16).flatMap fun i => [Value.int .u8 (Lib.accLo i), Value.int .u8 (Lib.accHi i)]).toArray
  { w0 with heap := h4 }
end Go.Proofs.YtpebdfofnmojcaaDoor
