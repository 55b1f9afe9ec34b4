/- Contracts: symbolic and str over the literal that Quote gives. -/
import Derived.Test.YtanofnhiopagaaaDoorCdv
import Derived.Test.YtanofnhiopagaaaDoorApp
namespace Go.Proofs.YtanofnhiopagaaaDoor
open Go.RowKit

set_option maxRecDepth 100000 in
set_option maxHeartbeats 400000 in
theorem symbolic_esc (b : Nat) (s : ByteArray) (k p' st : Nat) (ln : Bool) (M T : Value) (w : World) (hs : s.size ≤ 4000000000) (hk : k < s.size) (h : Scn w b s k ln M T) (r : Int)
    (h0 : s[k] = 92) (E : ∀ n, Calls Tryd.prog 76 #[.pointer (some ⟨b, 0, none⟩), .int .i64 st] (w.drewN n) fun e w' => e = .returned (.int .i32 r) ∧ Scn w' b s p' ln M T ∧ (w.drewN n).grownBy w' (some b)) :
    Calls Tryd.prog 66 #[.pointer (some ⟨b, 0, none⟩), .int .i64 st] w fun e w' =>
      e = .returned (.int .i32 r) ∧ Scn w' b s p' ln M T ∧ w.grownBy w' (some b) := by
  have i1 : (k : Int) < s.size := by omega
  have i2 : (s.size : Int) ≤ 4000000000 := by omega
  have c0 := h.c0
  have c1 := h.c1
  have E1 := Lib.hid E
  clear E
  go_enter Tryd.func66, Tryd.ntmps66
  go_wp2_with fail
  go_quiet (fail)
  go_wp2_with fail
  go_quiet (fail)
  go_wp2_with fail
  refine (E1.out _).mono ?_
  rintro e w' ⟨rfl, hh, hg⟩
  go_wp2_with fail
  go_ret
  exact ⟨rfl, hh, (grown_drewN _ _ _).trans hg⟩

theorem encode_low (c : UInt8) (hc : c.toNat < 128) : Lib.encodeRune (c.toNat : Int) = [c] := by
  unfold Lib.encodeRune
  rw [Lib.encodeRuneZ_one (by omega) (by omega)]
  simp
theorem decodeL_le4 (l : List UInt8) : (Lib.decodeL l).2 ≤ 4 := by
  rw [Lib.decodeL_N]
  rcases Lib.decodeN_shape l.length (l.getD 0 0).toNat (l.getD 1 0).toNat (l.getD 2 0).toNat (l.getD 3 0).toNat with ⟨c, e⟩ | ⟨c1, c2, c3, cv, e⟩ | ⟨c1, c2, c3, c4, cv, cs, e⟩ | ⟨c1, c2, c3, c4, c5, cv, cw, e⟩ | e
  all_goals (rw [e]; dsimp only; omega)
theorem drop_app (l a t : List UInt8) (p : Nat) (h : l.drop p = a ++ t) : l.drop (p + a.length) = t ∧ p + a.length ≤ p + (l.length - p) := by
  constructor
  · rw [← List.drop_drop, h]; simp
  · have := congrArg List.length h
    simp at this
    omega

/-- What a character of the literal gives. -/
structure NextRune (s : ByteArray) (l X : List UInt8) (r p' n : Nat) : Prop where
  n1 : 1 ≤ n
  n2 : n ≤ l.length
  enc : Lib.encodeRune (r : Int) = l.take n
  big : r ≤ 1114111
  valid : Lib.validD (l.drop n) = true
  rest : s.data.toList.drop p' = (l.drop n).flatMap qb ++ X
  le : p' ≤ s.size

theorem symbolic_lit (b : Nat) (s : ByteArray) (p st : Nat) (ln : Bool) (M T : Value) (w : World) (hs : s.size ≤ 4000000000) (hp : p ≤ s.size) (h : Scn w b s p ln M T) (hG : Glob w) (c : UInt8) (l' X : List UInt8)
    (hd : s.data.toList.drop p = (c :: l').flatMap qb ++ X) (hv : Lib.validD (c :: l') = true) :
    ∃ r p' n : Nat, NextRune s (c :: l') X r p' n ∧ Calls Tryd.prog 66 #[.pointer (some ⟨b, 0, none⟩), .int .i64 st] w fun e w' =>
      e = .returned (.int .i32 (r : Int)) ∧ Scn w' b s p' ln M T ∧ w.grownBy w' (some b) := by
  by_cases hc : 128 ≤ c.toNat
  · obtain ⟨hv1, hv2, hv3⟩ := body_high (c :: l') c l' rfl hc hv
    rw [hv3, List.append_assoc] at hd
    obtain ⟨r, n, hrn⟩ : ∃ r n, Lib.decodeL (c :: l') = (r, n) := ⟨_, _, rfl⟩
    have hle := Lib.decodeL_le (c :: l') (by simp)
    have hw := Lib.decodeL_width (c :: l')
    have hr := Lib.decodeL_rune (c :: l')
    have h4 := decodeL_le4 (c :: l')
    have henc := Lib.encode_decode (c :: l') (by simp) hv1
    have hpre : Lib.decodeL (s.data.toList.drop p) = (r, n) := by rw [hd, decodeL_pre _ _ (by simp) hv1, hrn]
    rw [hrn] at hv1 hv2 hle hw hr h4 henc hd
    dsimp only at hv1 hv2 hle hw hr h4 henc hd
    have htl : ((c :: l').take n).length = n := by rw [List.length_take]; omega
    obtain ⟨d1, d2⟩ := drop_app _ _ _ p hd
    rw [htl] at d1 d2
    rw [len_list] at d2
    obtain ⟨m, rfl⟩ : ∃ m, n = m + 1 := ⟨n - 1, by omega⟩
    obtain ⟨hk, h0⟩ := byte_drop s p c _ (by rw [hd, List.take_succ_cons]; rfl)
    exact ⟨r, p + (m + 1), m + 1, ⟨hw, hle, henc, hr, hv2, d1, by omega⟩, symbolic_rune b s p st ln M T w hs hk h hG c h0 (by omega) (by omega) r (m + 1) hpre h4 hv1⟩
  · have hc : c.toNat < 128 := by omega
    have hv2 := body_low (c :: l') c l' rfl hc hv
    rw [List.flatMap_cons, List.append_assoc] at hd
    obtain ⟨d1, d2⟩ := drop_app _ _ _ p hd
    rw [len_list] at d2
    have NR : ∀ p', p' = p + (qb c).length → NextRune s (c :: l') X c.toNat p' 1 := fun p' e => by
      subst e
      exact ⟨Nat.le_refl _, by simp, by rw [encode_low c hc]; rfl, by omega, hv2, d1, by omega⟩
    have letter : ∀ (x : UInt8), qb c = [92, x] → (((x.toNat : Int) = 110 ∧ (c.toNat : Int) = 10) ∨ ((x.toNat : Int) = 116 ∧ (c.toNat : Int) = 9) ∨ ((x.toNat : Int) = 114 ∧ (c.toNat : Int) = 13) ∨ ((x.toNat : Int) = 48 ∧ (c.toNat : Int) = 0) ∨ ((x.toNat : Int) = 92 ∧ (c.toNat : Int) = 92) ∨ ((x.toNat : Int) = 34 ∧ (c.toNat : Int) = 34)) →
        ∃ r p' n : Nat, NextRune s (c :: l') X r p' n ∧ Calls Tryd.prog 66 #[.pointer (some ⟨b, 0, none⟩), .int .i64 st] w fun e w' =>
          e = .returned (.int .i32 (r : Int)) ∧ Scn w' b s p' ln M T ∧ w.grownBy w' (some b) := fun x hq hx => by
      rw [hq] at hd d2 NR
      obtain ⟨hk, h0⟩ := byte_drop s p 92 _ hd
      have hb1 : byteV s.data.toList (p + 1) = (x.toNat : Int) := by rw [byteV_drop, hd]; simp only [List.cons_append]; rw [byteV_succ, byteV_cons]
      have d3 : p + 2 ≤ s.size := by simp at d2; omega
      exact ⟨c.toNat, p + 2, 1, NR (p + 2) rfl, symbolic_esc b s p (p + 2) st ln M T w hs hk h c.toNat h0 (fun n => escape_letter b s p st ln M T (w.drewN n) hs d3 (h.drewN n) _ _ hb1 hx)⟩
    by_cases c10 : c = 10
    · subst c10; exact letter 110 rfl (by decide)
    by_cases c9 : c = 9
    · subst c9; exact letter 116 rfl (by decide)
    by_cases c13 : c = 13
    · subst c13; exact letter 114 rfl (by decide)
    by_cases c0 : c = 0
    · subst c0; exact letter 48 rfl (by decide)
    by_cases c34 : c = 34
    · subst c34; exact letter 34 rfl (by decide)
    by_cases c92 : c = 92
    · subst c92; exact letter 92 rfl (by decide)
    by_cases cx : c.toNat < 32 ∨ c.toNat = 127
    · have hq : qb c = [92, 120, hexB (c.toNat / 16), hexB (c.toNat % 16)] := by
        unfold qb
        rw [if_neg c10, if_neg c9, if_neg c13, if_neg c0, if_neg c34, if_neg c92, if_pos cx]
      rw [hq] at hd d2 NR
      obtain ⟨hk, h0⟩ := byte_drop s p 92 _ hd
      have hb1 : byteV s.data.toList (p + 1) = 120 := by rw [byteV_drop, hd]; rfl
      have hb2 : byteV s.data.toList (p + 2) = ((hexB (c.toNat / 16)).toNat : Int) := by rw [byteV_drop, hd]; simp only [List.cons_append]; rw [byteV_succ, byteV_succ, byteV_cons]
      have hb3 : byteV s.data.toList (p + 3) = ((hexB (c.toNat % 16)).toNat : Int) := by rw [byteV_drop, hd]; simp only [List.cons_append]; rw [byteV_succ, byteV_succ, byteV_succ, byteV_cons]
      have d3 : p + 4 ≤ s.size := by simp at d2; omega
      exact ⟨c.toNat, p + 4, 1, NR (p + 4) rfl, symbolic_esc b s p (p + 4) st ln M T w hs hk h c.toNat h0 (fun n => escape_x b s p st ln M T (w.drewN n) hs d3 (h.drewN n) c hc hb1 hb2 hb3)⟩
    · have hq : qb c = [c] := by
        unfold qb
        rw [if_neg c10, if_neg c9, if_neg c13, if_neg c0, if_neg c34, if_neg c92, if_neg cx]
      rw [hq] at hd d2 NR
      obtain ⟨hk, h0⟩ := byte_drop s p c _ hd
      have n10 : c.toNat ≠ 10 := fun e => c10 (UInt8.toNat_inj.1 (by simpa using e))
      have n92 : c.toNat ≠ 92 := fun e => c92 (UInt8.toNat_inj.1 (by simpa using e))
      exact ⟨c.toNat, p + 1, 1, NR (p + 1) rfl, symbolic_plain b s p st ln M T w hs hk h c h0 hc n10 n92⟩

theorem runeCells_u8s (r : Int) : Lib.runeCells r = u8s (Lib.encodeRune r) := by
  rw [← Lib.byteCells_encodeRune]; rfl

theorem appendRune_any (B : Nat) (v : Value) (n : Nat) (xs : List Value) (r m : Nat) (l : List UInt8) (w : World) (hr : r ≤ 1114111) (he : Lib.encodeRune (r : Int) = l) (hm : l.length = m) (hn : n ≤ 1000000000) (hB : B ≤ w.heap.size) (hw : w.ownsRow B 5 1 v n xs) :
    Calls Tryd.prog 65 #[v, .int .i32 r] w fun e w' => ∃ v', e = .returned v' ∧ w'.ownsRow B 5 1 v' (n + m) (xs ++ u8s l) ∧ w.grownBy w' v.ownBlock := by
  have h := Any.utf8_AppendRune_plain Tryd.lays242 (by kernel_rfl) B v n xs r (by omega) (by omega) w hw (by omega) hB
  rw [runeCells_u8s, he, show (u8s l).length = m by simp [u8s, hm]] at h
  refine h.mono ?_
  rintro e w' ⟨v', rfl, h1, o, h2⟩
  exact ⟨v', rfl, h1, (grown_alloc w o _).trans h2⟩

theorem qb_head (c : UInt8) : ∃ x y, qb c = x :: y ∧ x ≠ 34 := by
  unfold qb
  repeat' split
  all_goals first
    | exact ⟨_, _, rfl, by decide⟩
    | (refine ⟨_, _, rfl, ?_⟩; assumption)

set_option maxRecDepth 100000 in
set_option maxHeartbeats 1000000 in
theorem str_lit (b : Nat) (hb4 : 4 ≤ b) (s : ByteArray) (k : Nat) (ln : Bool) (M T : Value) (w : World) (hs : s.size ≤ 100000000) (hk : k ≤ s.size) (h : Scn w b s k ln M T) (hG : Glob w) (l X : List UInt8)
    (hd : s.data.toList.drop k = qs l ++ 34 :: X) (hv : Lib.validD l = true) (hp : hasPre (s.data.toList.drop k) [34, 34, 34] = false) :
    Calls Tryd.prog 52 #[.pointer (some ⟨b, 0, none⟩)] w fun e w' =>
      e = .returned (.string ⟨l.toArray⟩) ∧ Scn w' b s (k + (qs l).length + 1 : Nat) ln M T ∧ w.grownBy w' (some b) := by
  have hbl := h.lt
  have c0 := h.c0
  have c1 := h.c1
  have f1 := h.fz 1
  have hsz := congrArg List.length hd
  simp only [List.length_drop, List.length_append, List.length_cons, len_list] at hsz
  have hql : (qs l).length = 1 + (l.flatMap qb).length := by unfold qs; simp; omega
  have hll : l.length ≤ (l.flatMap qb).length := by
    clear hd hv hsz hql
    induction l with
    | nil => simp
    | cons c l ih =>
      obtain ⟨x, y, e, _⟩ := qb_head c
      rw [List.flatMap_cons, e, List.length_append, List.length_cons, List.length_cons]; omega
  have hln0 : l.length ≤ 100000000 := by omega
  have i1 : (k : Int) + 2 ≤ s.size := by omega
  have i2 : (s.size : Int) ≤ 100000000 := by omega
  have P1 := Lib.hid (fun W => prefix_at s k ⟨#[34, 34, 34]⟩ W (by omega) (by decide))
  have hp' : hasPre (s.data.toList.drop k) (ByteArray.mk #[34, 34, 34]).data.toList = false := hp
  rw [hp'] at P1
  have B := Lib.hid (fun (j : Nat) W (h : Scn W b s j ln M T) => byteAt_any b s j ln M T j W (by unfold maxLen; omega) h)
  have hs1 : Scn (w.setCell ⟨b, 1, none⟩ (.int .i64 ((k : Int) + 1))) b s (k + 1 : Nat) ln M T := by simpa using h.set1 ((k : Int) + 1)
  have gs1 := grown_set (w := w) b 1 (.int .i64 ((k : Int) + 1))
  have hd1 : s.data.toList.drop (k + 1) = l.flatMap qb ++ 34 :: X := by
    rw [← List.drop_drop, hd]; rfl
  have HD := Lib.hid hd
  have HG := Lib.hid hG
  clear hp hp' hd hG
  go_enter Tryd.func52, Tryd.ntmps52
  go_wp2_with fail
  refine (P1.out _).mono ?_
  rintro e w' ⟨rfl, rfl⟩
  go_wp2_with fail
  go_loopg [6] l.length (fun g tv wr => ∃ don rest p, l = don ++ rest ∧ rest.length = g ∧ Scn wr b s (p : Nat) ln M T ∧ p ≤ s.size ∧ s.data.toList.drop p = rest.flatMap qb ++ 34 :: X ∧ Lib.validD rest = true ∧ wr.ownsRow w.heap.size 5 1 tv don.length (u8s don) ∧ w.grownBy wr (some b))
  case atStart => exact ⟨[], l, k + 1, rfl, rfl, hs1, by omega, hd1, hv, World.ownsRow_nil _ _ _ _, gs1⟩
  case round =>
    obtain ⟨don, rest, p, rfl, rfl, hh, hpl, hdp, hvr, ho, hg⟩ := hrel
    have hgs := hg.size
    have c1' := hh.c1
    have f1' := hh.fz 1
    have B1 := B.out p _ hh
    cases rest with
    | nil =>
      have hz := congrArg List.length hdp
      simp only [List.length_drop, List.length_append, List.length_cons, len_list, List.flatMap_nil, List.length_nil] at hz
      have hb : byteV s.data.toList p = 34 := by
        have := byteV_drop s.data.toList p 0
        rw [Nat.add_zero] at this
        rw [this, hdp]; rfl
      rw [hb] at B1
      have B1' := Lib.hid B1
      have i3 : (p : Int) + 1 ≤ 100000000 := by omega
      rw [List.append_nil] at hsz hql
      have CV : ∀ W', (∀ q, w.heap.size ≤ q → q < wr.heap.size → W'.heap[q]? = wr.heap[q]?) → (convert 46 9 _).run Tryd.prog W' = .ok (.string ⟨don.toArray⟩) W' := fun W' hW => conv_own (l := don) (owns_kept ho fun q h1 h2 => hW q h2 h1)
      have CV' := CV (wr.setCell ⟨b, 1, none⟩ (.int .i64 ((p : Int) + 1))) (fun q h1 h2 => Below.heap_setCell _ _ _ _ (by simp; omega))
      clear B1 ho c0 c1 f1 CV
      go_wp2_with fail
      refine B1'.out.mono ?_
      rintro e w' ⟨rfl, rfl⟩
      go_wp2_with fail
      go_ret
      refine ⟨by rw [List.append_nil]; rfl, ?_, hg.trans (grown_set b 1 _)⟩
      have := hh.set1 ((p : Int) + 1)
      rw [List.append_nil, show k + (qs don).length + 1 = p + 1 by omega]
      simpa using this
    | cons c l' =>
      have hb : byteV s.data.toList p ≠ 34 := by
        obtain ⟨x, y, e, hx⟩ := qb_head c
        have := byteV_drop s.data.toList p 0
        rw [Nat.add_zero] at this
        rw [this, hdp, List.flatMap_cons, e]
        simp only [List.cons_append]
        rw [byteV_cons]
        intro he
        exact hx (UInt8.toNat_inj.1 (by simpa using (by omega : x.toNat = 34)))
      obtain ⟨q, hq⟩ : ∃ q, byteV s.data.toList p = q := ⟨_, rfl⟩
      rw [hq] at hb B1
      have B1' := Lib.hid B1
      have jb : (q == 34) = false := by simpa using hb
      obtain ⟨r, p', n, NR, CS⟩ := symbolic_lit b s p k ln M T wr (by omega) hpl hh (HG.out.grown hg (fun j e => by cases e; omega)) c l' (34 :: X) hdp hvr
      have CS' := Lib.hid CS
      have HO := Lib.hid ho
      have NR' := Lib.hid NR
      clear B1 ho c0 c1 f1 CS NR hq hb hdp
      go_wp2_with fail
      refine B1'.out.mono ?_
      rintro e w' ⟨rfl, rfl⟩
      go_wp2_with fail
      refine CS'.out.mono ?_
      rintro e w2 ⟨rfl, h3, g3⟩
      have ho2 := HO.out.kept g3 (by
        cases hv : (Value.ownBlock _) with
        | none => exact .inl rfl
        | some q => exact .inr (fun e => by have := (HO.out.lt q hv).1; cases e; omega))
      have hs3 := g3.size
      have hln : don.length ≤ 1000000000 := by rw [List.length_append] at hln0; omega
      have A1 := Lib.hid (appendRune_any w.heap.size _ don.length _ r n ((c :: l').take n) w2 NR'.out.big NR'.out.enc (by rw [List.length_take]; have := NR'.out.n2; omega) hln (by omega) ho2)
      have HL := HO.out.lt
      go_wp2_with fail
      refine A1.out.mono ?_
      rintro e w3 ⟨v', rfl, ho3, g4⟩
      go_wp2_with fail
      have NRo := NR'.out
      have n1 := NRo.n1
      have n2 := NRo.n2
      go_roundg ((c :: l').drop n).length
      case rel =>
        exact ⟨don ++ (c :: l').take n, (c :: l').drop n, p', by rw [List.append_assoc, List.take_append_drop], rfl, h3.grown g4 (fun e => by have := (HL b e.symm).1; omega), NRo.le, NRo.rest, NRo.valid,
          by rw [List.length_append, List.length_take, Nat.min_eq_left n2, u8s_append]; exact ho3, grown_own (hg.trans g3) g4 (fun q e => (HL q e).1)⟩
      case measure => simp at n2 ⊢; omega
end Go.Proofs.YtanofnhiopagaaaDoor
