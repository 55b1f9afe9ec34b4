/- The tokens of awake's two texts are read one behind the other. -/
import Derived.Test.YtanofnhiopagaaaDoorSca
namespace Go.Proofs.YtanofnhiopagaaaDoor
open Go.RowKit Go.Maps Go.WideMaps

def runF : Nat → (Int → Bool) → List UInt8 → Nat → Option Nat
  | 0, _, _, _ => none
  | n + 1, p, l, k => match l[k]? with
    | none => some k
    | some c => if p (c.toNat : Int) = true then runF n p l (k + 1) else some k
theorem runF_sound {n : Nat} {p : Int → Bool} {l : List UInt8} {k r : Nat} (h : runF n p l k = some r) : runEnd p l k = r := by
  induction n generalizing k with
  | zero => simp [runF] at h
  | succ n ih =>
    unfold runF at h
    by_cases hk : k < l.length
    · rw [List.getElem?_eq_getElem hk] at h
      simp only at h
      by_cases hp : p (l[k].toNat : Int) = true
      · rw [if_pos hp] at h; rw [runEnd_go hk hp]; exact ih h
      · rw [if_neg hp] at h; rw [runEnd_stop hk (by simpa using hp)]; simpa using h
    · rw [List.getElem?_eq_none (by omega)] at h
      rw [runEnd_end (by omega)]; simpa using h
theorem wordEnd_of {n : Nat} {l : List UInt8} {k r r2 : Nat} (h : runF n wordB l k = some r) (h2 : runF n primeB l r = some r2) : wordEnd l k = r2 := by
  unfold wordEnd; rw [runF_sound h, runF_sound h2]

section
variable {s : ByteArray} {k : Nat}
theorem byte_c (hk : k < s.size) {c : UInt8} (hc : ∀ h : k < s.size, s[k]'h = c) : byteV s.data.toList k = (c.toNat : Int) := by
  rw [byteV_at s k hk, hc hk]

theorem reads_word (hs : s.size ≤ 20000) (hk : k < s.size) (hd : digitB (byteV s.data.toList k) = false) (hw : wordB (byteV s.data.toList k) = true) {k2 : Nat} (h2 : wordEnd s.data.toList k = k2)
    {kind : Int} (hkd : kwKind ((s.data.toList.drop k).take (k2 - k)) = kind) {text : ByteArray} (ht : s.extract k k2 = text) : Reads s k k2 kind text := by
  intro W b m T c hb hm hc hM
  rw [byte_c hk hc] at hd hw
  refine read_word (Q := fun w' => Scn w' b s k2 false (.map (some m)) T ∧ W.grownBy w' (some b)) hM.box c.toNat kind text hd hw ?_
  subst h2 hkd ht
  exact word_any b (b + 1) s k false m T W (by omega) (by omega) (by omega) (by omega) hM.scn hM.box.s hM.map

theorem reads_symbol (hs : s.size ≤ 20000) (hk : k < s.size) (hd : digitB (byteV s.data.toList k) = false) (hw : wordB (byteV s.data.toList k) = false) (h34 : byteV s.data.toList k ≠ 34) (h39 : byteV s.data.toList k ≠ 39)
    {t : List UInt8} (ht : symOf s.data.toList k = t) (hne : t ≠ []) : Reads s k (k + t.length) 6 (str t) := by
  intro W b m T c hb hm hc hM
  rw [byte_c hk hc] at hd hw h34 h39
  refine read_symbol (Q := fun w' => Scn w' b s (k + t.length : Nat) false (.map (some m)) T ∧ W.grownBy w' (some b)) hM.box c.toNat 6 (str t) hd hw h34 h39 ?_
  subst ht
  exact symbol_any b (b + 1) s k false (.map (some m)) T W (by omega) (by omega) hM.scn hM.glob hM.box.s hne

theorem reads_hex (hs : s.size ≤ 20000) (hk : k + 2 ≤ s.size) (hd : digitB (byteV s.data.toList k) = true) (hp : hasPre (s.data.toList.drop k) [48, 120] = true)
    (fuel k' : Nat) (ds : List Int) (hF : digF fuel s.data.toList 16 (k + 2) false = some (ds, k')) (hv : valD 16 ds 0 < 18446744073709551616) (hds : ds.isEmpty = false)
    (hc : wordB (byteV s.data.toList k') = false) {text : ByteArray} (ht : (⟨(decL 40 (valD 16 ds 0) []).toArray⟩ : ByteArray) = text) : Reads s k k' 3 text := by
  intro W b m T c hb hm hc' hM
  rw [byte_c (by omega) hc'] at hd
  refine read_number (Q := fun w' => Scn w' b s k' false (.map (some m)) T ∧ W.grownBy w' (some b)) hM.box c.toNat 3 text hd ?_
  subst ht
  refine (number_hex b s k false (.map (some m)) T W (by omega) hk hM.scn hp fuel k' ds hF hv hds hc).mono ?_
  rintro e w' ⟨he, h1, _, h2⟩
  exact ⟨he, h1, h2⟩

theorem reads_int (hs : s.size ≤ 20000) (hk : k < s.size) (hd : digitB (byteV s.data.toList k) = true) (hp : hasPre (s.data.toList.drop k) [48, 120] = false) (hp2 : hasPre (s.data.toList.drop k) [48, 98] = false)
    (fuel k' : Nat) (ds : List Int) (hF : digF fuel s.data.toList 10 k false = some (ds, k')) (hlen : ds.length ≤ 4000000000) (hv : valD 10 ds 0 < 18446744073709551616) (hds : ds.isEmpty = false)
    (hc : byteV s.data.toList k' = 46) (hn : byteV s.data.toList (k' + 1) = 101) {text : ByteArray} (ht : (⟨(decL 40 (valD 10 ds 0) []).toArray⟩ : ByteArray) = text) : Reads s k k' 3 text := by
  intro W b m T c hb hm hc' hM
  rw [byte_c (by omega) hc'] at hd
  refine read_number (Q := fun w' => Scn w' b s k' false (.map (some m)) T ∧ W.grownBy w' (some b)) hM.box c.toNat 3 text hd ?_
  subst ht
  refine (number_int b s k false (.map (some m)) T W (by omega) (by omega) hM.scn hp hp2 fuel k' ds hF hlen hv hds hc hn).mono ?_
  rintro e w' ⟨he, h1, _, h2⟩
  exact ⟨he, h1, h2⟩

theorem reads_strA (hs : s.size ≤ 20000) (hk : k + 7 ≤ s.size) (h0 : byteV s.data.toList k = 34) (hp : hasPre (s.data.toList.drop k) [34, 34, 34] = false)
    (h1 : s[k + 1] = 97) (h2 : s[k + 2] = 92) (b1 : byteV s.data.toList (k + 1) = 97) (b2 : byteV s.data.toList (k + 2) = 92) (b3 : byteV s.data.toList (k + 3) = 120) (b4 : byteV s.data.toList (k + 4) = 52) (b5 : byteV s.data.toList (k + 5) = 49) (b6 : byteV s.data.toList (k + 6) = 34) :
    Reads s k (k + 7) 5 ⟨#[97, 65]⟩ := by
  intro W b m T c hb hm hc' hM
  rw [byte_c (by omega) hc'] at h0
  rw [h0]
  exact read_str (Q := fun w' => Scn w' b s (k + 7 : Nat) false (.map (some m)) T ∧ W.grownBy w' (some b)) hM.box ⟨#[97, 65]⟩ (str_A b s k false (.map (some m)) T W (by omega) hk hM.scn hp h1 h2 b1 b2 b3 b4 b5 b6)
end

def tA : ByteArray := ⟨#[108, 101, 116, 32, 120, 39, 32, 61, 32, 48, 120, 70, 70, 32, 47, 47, 32, 97]⟩
def tB : ByteArray := ⟨#[49, 46, 101, 32, 97, 46, 62, 98, 32, 34, 97, 92, 120, 52, 49, 34]⟩
def toksA : List Tok := [⟨2, ⟨#[108, 101, 116]⟩, 0, true⟩, ⟨1, ⟨#[120, 39]⟩, 4, false⟩, ⟨6, str [61], 7, false⟩, ⟨3, ⟨#[50, 53, 53]⟩, 9, false⟩]
def toksB : List Tok := [⟨3, ⟨#[49]⟩, 0, true⟩, ⟨6, str [46], 1, false⟩, ⟨1, ⟨#[101]⟩, 2, false⟩, ⟨1, ⟨#[97]⟩, 4, false⟩, ⟨6, str [46, 62], 5, false⟩, ⟨1, ⟨#[98]⟩, 7, false⟩, ⟨5, ⟨#[97, 65]⟩, 9, false⟩]

theorem chainA : Chain tA 0 true toksA := by
  refine ⟨by decide, 20, 3, by decide +kernel, by decide, ?_, by decide, 20, 6, by decide +kernel, by decide, ?_, by decide, 20, 8, by decide +kernel, by decide, ?_, by decide, 20, 13, by decide +kernel, by decide, ?_, by decide, 20, false, by decide +kernel⟩
  · exact reads_word (by decide) (by decide) (by decide +kernel) (by decide +kernel) (wordEnd_of (n := 20) (r := 3) (by decide +kernel) (by decide +kernel)) (by decide +kernel) (by decide +kernel)
  · exact reads_word (by decide) (by decide) (by decide +kernel) (by decide +kernel) (wordEnd_of (n := 20) (r := 5) (by decide +kernel) (by decide +kernel)) (by decide +kernel) (by decide +kernel)
  · exact reads_symbol (t := [61]) (by decide) (by decide) (by decide +kernel) (by decide +kernel) (by decide +kernel) (by decide +kernel) (by decide +kernel) (by decide)
  · exact reads_hex (by decide) (by decide) (by decide +kernel) (by decide +kernel) 20 13 [15, 15] (by decide +kernel) (by decide +kernel) (by decide) (by decide +kernel) (by decide +kernel)

theorem chainB : Chain tB 0 true toksB := by
  refine ⟨by decide, 20, 1, by decide +kernel, by decide, ?_, by decide, 20, 2, by decide +kernel, by decide, ?_, by decide, 20, 3, by decide +kernel, by decide, ?_, by decide, 20, 5, by decide +kernel, by decide, ?_,
    by decide, 20, 7, by decide +kernel, by decide, ?_, by decide, 20, 8, by decide +kernel, by decide, ?_, by decide, 20, 16, by decide +kernel, by decide, ?_, by decide, 20, false, by decide +kernel⟩
  · exact reads_int (by decide) (by decide) (by decide +kernel) (by decide +kernel) (by decide +kernel) 20 1 [1] (by decide +kernel) (by decide) (by decide +kernel) (by decide) (by decide +kernel) (by decide +kernel) (by decide +kernel)
  · exact reads_symbol (t := [46]) (by decide) (by decide) (by decide +kernel) (by decide +kernel) (by decide +kernel) (by decide +kernel) (by decide +kernel) (by decide)
  · exact reads_word (by decide) (by decide) (by decide +kernel) (by decide +kernel) (wordEnd_of (n := 20) (r := 3) (by decide +kernel) (by decide +kernel)) (by decide +kernel) (by decide +kernel)
  · exact reads_word (by decide) (by decide) (by decide +kernel) (by decide +kernel) (wordEnd_of (n := 20) (r := 5) (by decide +kernel) (by decide +kernel)) (by decide +kernel) (by decide +kernel)
  · exact reads_symbol (t := [46, 62]) (by decide) (by decide) (by decide +kernel) (by decide +kernel) (by decide +kernel) (by decide +kernel) (by decide +kernel) (by decide)
  · exact reads_word (by decide) (by decide) (by decide +kernel) (by decide +kernel) (wordEnd_of (n := 20) (r := 8) (by decide +kernel) (by decide +kernel)) (by decide +kernel) (by decide +kernel)
  · exact reads_strA (by decide) (by decide) (by decide +kernel) (by decide +kernel) (by decide +kernel) (by decide +kernel) (by decide +kernel) (by decide +kernel) (by decide +kernel) (by decide +kernel) (by decide +kernel) (by decide +kernel)
end Go.Proofs.YtanofnhiopagaaaDoor
