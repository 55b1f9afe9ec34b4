/- Contracts: quoted, over every text. -/
import Derived.Test.YtanofnhiopagaaaDoorOwn
import Derived.Lib.AppendStr
import Derived.StillTailTactics
import Derived.Deep.Cut
import Derived.Deep.RegionLaw
namespace Go.Proofs.YtanofnhiopagaaaDoor
open Go.RowKit

theorem grown_alloc_drew (w : World) (o : Obj) (row : Option Nat) : w.grownBy (w.alloc o).drew row :=
  have h := grown_alloc w o row
  ⟨h.os, h.tape, h.output, h.size, h.block⟩
theorem and15 (n : Nat) (h : n < 256) : bits BinOp.and IntKind.u8 (n : Int) 15 = (n : Int) % 16 := by
  have : ∀ k : Fin 256, bits BinOp.and IntKind.u8 ((k.val : Nat) : Int) 15 = ((k.val : Nat) : Int) % 16 := by decide +kernel
  exact this ⟨n, h⟩

def hexB (n : Nat) : UInt8 := ([48, 49, 50, 51, 52, 53, 54, 55, 56, 57, 65, 66, 67, 68, 69, 70] : List UInt8).getD n 0
theorem hex_at (i : Int) (n : Nat) (e : i = n) (h : n < 16) (hh : i.toNat < (ByteArray.mk #[48, 49, 50, 51, 52, 53, 54, 55, 56, 57, 65, 66, 67, 68, 69, 70]).size) :
    (ByteArray.mk #[48, 49, 50, 51, 52, 53, 54, 55, 56, 57, 65, 66, 67, 68, 69, 70])[i.toNat]'hh = hexB n := by
  subst e
  have : ∀ k : Fin 16, (ByteArray.mk #[48, 49, 50, 51, 52, 53, 54, 55, 56, 57, 65, 66, 67, 68, 69, 70])[((k.val : Nat) : Int).toNat]'(by have := k.isLt; show k.val < 16; omega) = hexB k.val := by decide +kernel
  exact this ⟨n, h⟩

/-- An append to an owned row as one step of a region that draws its order. -/
theorem step_append_own {P : Program} {ops : Array Oper} {o : Oper} {a : Act} {w : World} {K : Act → World → Prop} {Q : Exit → Act → World → Prop} {E : Prop}
    (hg : o.guard = none) (s x : Operand) (t : TypeId) (hop : o.op = Op.call { callee := Callee.builtin Builtin.append, args := #[s, x], argTypes := #[t, t] })
    (base : Nat) (e : TypeId) (i : TypeInfo) (z : Value) (size bytes : Nat) (ht : P.underlying t = some (.slice e)) (hi : P.info? e = some i) (hz : i.zero = some z)
    (hsize : i.size = size) (hby : i.bytes = bytes) (hzs : z.cells.size = size) (hsz : 0 < size)
    (v : Value) (n : Nat) (xs : List Value) (hs : a.eval s = v) (hown : w.ownsRow base e size v n xs)
    (ad : Addr) (m c : Nat) (news : List Value) (hx : a.eval x = .slice (some ad) m c) (hl : news.length = m * size) (hnews : ∀ j u, news[j]? = some u → w.cell? (ad.add j) = some u) (h1 : ∀ u ∈ news, u.oneCell' = true)
    (h63 : n + m ≤ maxLen) (hbytes : (n + m) * bytes ≤ 140737488355328) (hbase : base ≤ w.heap.size)
    (hK : ∀ v' w', w'.ownsRow base e size v' (n + m) (xs ++ news) → w.grownBy w' v.ownBlock → K (a.put o.dst v') w') :
    if Region.wanted o (yielded ops a.tmps) = true then Oper.wp P o a w K Q else E := by
  have hw : Region.wanted o (yielded ops a.tmps) = true := by simp [Region.wanted, hg]
  rw [if_pos hw]
  obtain ⟨v', w', hrun, h2, h3, _⟩ := run_append_own (P := P) w base t o.type e i z size bytes ht hi hz hsize hby hzs hsz v n xs hown ad m c news hl hnews h1 h63 hbytes hbase
  unfold Oper.wp
  simp [execOp, hop, resolve, invoke, builtin, hs, hx, hrun, Result.andThen]
  exact hK _ _ h2 h3

def qb (c : UInt8) : List UInt8 :=
  if c = 10 then [92, 110] else if c = 9 then [92, 116] else if c = 13 then [92, 114] else if c = 0 then [92, 48] else if c = 34 then [92, 34] else if c = 92 then [92, 92]
  else if c.toNat < 32 ∨ c.toNat = 127 then [92, 120, hexB (c.toNat / 16), hexB (c.toNat % 16)] else [c]
def qs (l : List UInt8) : List UInt8 := 34 :: l.flatMap qb
theorem qb_len (c : UInt8) : (qb c).length ≤ 4 := by unfold qb; repeat' split
                                                     all_goals simp
theorem qs_len (l : List UInt8) : (qs l).length ≤ 1 + 4 * l.length := by
  unfold qs
  induction l with
  | nil => simp
  | cons c l ih => have := qb_len c; simp at ih ⊢; omega
theorem qs_step (l : List UInt8) (k : Nat) (hk : k < l.length) : qs (l.take (k + 1)) = qs (l.take k) ++ qb (l[k]) := by
  unfold qs
  rw [List.take_add_one, List.getElem?_eq_getElem hk, List.flatMap_append]
  simp only [Option.toList, List.flatMap_cons, List.flatMap_nil, List.append_nil, List.cons_append]
theorem u8s_append (a b : List UInt8) : u8s (a ++ b) = u8s a ++ u8s b := by simp [u8s]

set_option maxRecDepth 100000 in
set_option maxHeartbeats 800000 in
theorem quoted_any (s : ByteArray) (w : World) (hs : s.size ≤ 4000000000) :
    Calls Tryd.prog 23 #[.string s] w fun e w' => e = .returned (.string ⟨(qs s.data.toList ++ [34]).toArray⟩) ∧ w.grownBy w' none := by
  obtain ⟨i0, hi, hz0, hz1, hz2⟩ := info_parts (P := Tryd.prog) (e := 5) (z := .int .u8 0) (size := 1) (bytes := 1) (by kernel_rfl)
  go_enter Tryd.func23, Tryd.ntmps23
  go_wp2
  go_loopw [3, 9] (fun v i wr => ∃ k : Nat, k ≤ s.size ∧ i = .int .i64 k ∧ wr.ownsRow w.heap.size 5 1 v (qs (s.data.toList.take k)).length (u8s (qs (s.data.toList.take k))) ∧ w.grownBy wr none) (fun _ i _ => s.size - (intOf i).toNat)
  case atStart =>
    refine ⟨0, Nat.zero_le _, rfl, ?_, grown_alloc _ _ _⟩
    exact World.ownsRow_lit w #[.int .u8 34] 1 (Nat.le_refl _) (by unfold maxLen; omega) rfl
  case round =>
    obtain ⟨k, hk, rfl, hown, hgr⟩ := hrel
    have hgs := hgr.size
    have hql := qs_len (s.data.toList.take k)
    simp only [List.length_take, len_list] at hql
    by_cases hlt : k < s.size
    · obtain ⟨c, hc⟩ : ∃ c, s[k] = c := ⟨_, rfl⟩
      have hst := qs_step s.data.toList k (by rw [len_list]; exact hlt)
      rw [show s.data.toList[k]'(by rw [len_list]; exact hlt) = c from by rw [← hc]; simp; rfl] at hst
      generalize qs (s.data.toList.take k) = q at *
      have fin : ∀ v' w1, w1.ownsRow w.heap.size 5 1 v' (q.length + (qb c).length) (u8s q ++ u8s (qb c)) → wr.grownBy w1 (Value.ownBlock _) →
          ∃ k' : Nat, k' ≤ s.size ∧ Value.int .i64 ((k : Int) + 1) = .int .i64 k' ∧ w1.ownsRow w.heap.size 5 1 v' (qs (s.data.toList.take k')).length (u8s (qs (s.data.toList.take k'))) ∧ w.grownBy w1 none := fun v' w1 h1 h2 =>
        ⟨k + 1, hlt, by simp, by rw [hst, u8s_append, List.length_append]; exact h1, ⟨h2.os.trans hgr.os, h2.tape.trans hgr.tape, h2.output.trans hgr.output, Nat.le_trans hgs h2.size, fun j hj _ => (h2.block j (by omega) (fun e => by have := (hown.lt j e.symm).1; omega)).trans (hgr.block j hj (by simp))⟩⟩
      have FIN := Lib.hid fin
      have i1 : (k : Int) < s.size := by omega
      have i2 : (s.size : Int) ≤ 4000000000 := by omega
      clear fin hst
      by_cases c10 : c = 10
      · subst c10
        go_wp2_with (refine Lib.wpList_append_own_string _ rfl _ _ 46 9 rfl w.heap.size 5 i0 Tryd.underlying46 Tryd.underlying9 hi hz0 hz1 hz2 _ q.length _ rfl hown ⟨#[92, 110]⟩ rfl ?_ ?_ ?_ ?_)
        · show q.length + 2 ≤ maxLen; unfold maxLen; omega
        · show q.length + 2 ≤ _; omega
        · exact hgs
        · intro v' w1 ho1 hg1 _
          have R := FIN.out v' w1 ho1 hg1
          clear ho1 hg1 hown hgr FIN
          go_wp2
          go_roundw
          case rel => exact R
          case measure => simp [intOf]; omega
      have n10 : ((c.toNat : Int) == 10) = false := by
        have : c.toNat ≠ 10 := fun e => c10 (UInt8.toNat_inj.1 (by simpa using e))
        simp; omega
      by_cases c9 : c = 9
      · subst c9
        go_wp2_with (refine Lib.wpList_append_own_string _ rfl _ _ 46 9 rfl w.heap.size 5 i0 Tryd.underlying46 Tryd.underlying9 hi hz0 hz1 hz2 _ q.length _ rfl hown ⟨#[92, 116]⟩ rfl ?_ ?_ ?_ ?_)
        · show q.length + 2 ≤ maxLen; unfold maxLen; omega
        · show q.length + 2 ≤ _; omega
        · exact hgs
        · intro v' w1 ho1 hg1 _
          have R := FIN.out v' w1 ho1 hg1
          clear ho1 hg1 hown hgr FIN
          go_wp2
          go_roundw
          case rel => exact R
          case measure => simp [intOf]; omega
      have n9 : ((c.toNat : Int) == 9) = false := by
        have : c.toNat ≠ 9 := fun e => c9 (UInt8.toNat_inj.1 (by simpa using e))
        simp; omega
      by_cases c13 : c = 13
      · subst c13
        go_wp2_with (refine Lib.wpList_append_own_string _ rfl _ _ 46 9 rfl w.heap.size 5 i0 Tryd.underlying46 Tryd.underlying9 hi hz0 hz1 hz2 _ q.length _ rfl hown ⟨#[92, 114]⟩ rfl ?_ ?_ ?_ ?_)
        · show q.length + 2 ≤ maxLen; unfold maxLen; omega
        · show q.length + 2 ≤ _; omega
        · exact hgs
        · intro v' w1 ho1 hg1 _
          have R := FIN.out v' w1 ho1 hg1
          clear ho1 hg1 hown hgr FIN
          go_wp2
          go_roundw
          case rel => exact R
          case measure => simp [intOf]; omega
      have n13 : ((c.toNat : Int) == 13) = false := by
        have : c.toNat ≠ 13 := fun e => c13 (UInt8.toNat_inj.1 (by simpa using e))
        simp; omega
      by_cases c0 : c = 0
      · subst c0
        go_wp2_with (refine Lib.wpList_append_own_string _ rfl _ _ 46 9 rfl w.heap.size 5 i0 Tryd.underlying46 Tryd.underlying9 hi hz0 hz1 hz2 _ q.length _ rfl hown ⟨#[92, 48]⟩ rfl ?_ ?_ ?_ ?_)
        · show q.length + 2 ≤ maxLen; unfold maxLen; omega
        · show q.length + 2 ≤ _; omega
        · exact hgs
        · intro v' w1 ho1 hg1 _
          have R := FIN.out v' w1 ho1 hg1
          clear ho1 hg1 hown hgr FIN
          go_wp2
          go_roundw
          case rel => exact R
          case measure => simp [intOf]; omega
      have n0 : ((c.toNat : Int) == 0) = false := by
        have : c.toNat ≠ 0 := fun e => c0 (UInt8.toNat_inj.1 (by simpa using e))
        simp; omega
      by_cases c34 : c = 34
      · subst c34
        go_wp2_with (refine wpList_append_own _ rfl _ _ 46 rfl w.heap.size 5 i0 (.int .u8 0) 1 1 Tryd.underlying46 hi hz0 hz1 hz2 rfl (by decide) _ q.length _ rfl (hown.alloc _) ⟨wr.heap.size, 0, none⟩ 2 2 [.int .u8 92, .int .u8 34] rfl rfl ?_ ?_ ?_ ?_ ?_ ?_)
        · intro j u hj
          match j, hj with
          | 0, hj => simp at hj; subst hj; simp [Addr.add]
          | 1, hj => simp at hj; subst hj; simp [Addr.add]
          | (j + 2), hj => simp at hj
        · intro u hu; simp at hu; rcases hu with rfl | rfl <;> rfl
        · unfold maxLen; omega
        · omega
        · simp; omega
        · intro v' w1 ho1 hg1 _
          have R := FIN.out v' w1 ho1 ((grown_alloc wr _ _).trans hg1)
          clear ho1 hg1 hown hgr FIN
          go_wp2
          go_roundw
          case rel => exact R
          case measure => simp [intOf]; omega
      have n34 : ((c.toNat : Int) == 34) = false := by
        have : c.toNat ≠ 34 := fun e => c34 (UInt8.toNat_inj.1 (by simpa using e))
        simp; omega
      by_cases c92 : c = 92
      · subst c92
        go_wp2_with (refine wpList_append_own _ rfl _ _ 46 rfl w.heap.size 5 i0 (.int .u8 0) 1 1 Tryd.underlying46 hi hz0 hz1 hz2 rfl (by decide) _ q.length _ rfl (hown.alloc _) ⟨wr.heap.size, 0, none⟩ 2 2 [.int .u8 92, .int .u8 92] rfl rfl ?_ ?_ ?_ ?_ ?_ ?_)
        · intro j u hj
          match j, hj with
          | 0, hj => simp at hj; subst hj; simp [Addr.add]
          | 1, hj => simp at hj; subst hj; simp [Addr.add]
          | (j + 2), hj => simp at hj
        · intro u hu; simp at hu; rcases hu with rfl | rfl <;> rfl
        · unfold maxLen; omega
        · omega
        · simp; omega
        · intro v' w1 ho1 hg1 _
          have R := FIN.out v' w1 ho1 ((grown_alloc wr _ _).trans hg1)
          clear ho1 hg1 hown hgr FIN
          go_wp2
          go_roundw
          case rel => exact R
          case measure => simp [intOf]; omega
      have n92 : ((c.toNat : Int) == 92) = false := by
        have : c.toNat ≠ 92 := fun e => c92 (UInt8.toNat_inj.1 (by simpa using e))
        simp; omega
      by_cases cx : c.toNat < 32 ∨ c.toNat = 127
      · have hqb : qb c = [92, 120, hexB (c.toNat / 16), hexB (c.toNat % 16)] := by
          unfold qb
          rw [if_neg c10, if_neg c9, if_neg c13, if_neg c0, if_neg c34, if_neg c92, if_pos cx]
        rw [hqb] at FIN
        have hcl : c.toNat < 128 := by omega
        have e1 : bits BinOp.and IntKind.u8 (c.toNat : Int) 15 = (c.toNat : Int) % 16 := and15 c.toNat (by omega)
        have d0 : (0 : Int) ≤ (c.toNat : Int) / 16 := by omega
        have d1 : (c.toNat : Int) / 16 < 16 := by omega
        have m0 : (0 : Int) ≤ (c.toNat : Int) % 16 := by omega
        have m1 : (c.toNat : Int) % 16 < 16 := by omega
        have hown1 : wr.drew.ownsRow w.heap.size 5 1 u3 q.length (u8s q) := hown
        have fb1 : q.length + 4 ≤ maxLen := by unfold maxLen; omega
        have fb2 : (q.length + 4) * 1 ≤ 140737488355328 := by omega
        have hA : ∀ h, (ByteArray.mk #[48, 49, 50, 51, 52, 53, 54, 55, 56, 57, 65, 66, 67, 68, 69, 70])[((c.toNat : Int) / 16).toNat]'h = hexB (c.toNat / 16) := fun h => hex_at _ _ (by omega) (by omega) h
        have hB : ∀ h, (ByteArray.mk #[48, 49, 50, 51, 52, 53, 54, 55, 56, 57, 65, 66, 67, 68, 69, 70])[((c.toNat : Int) % 16).toNat]'h = hexB (c.toNat % 16) := fun h => hex_at _ _ (by omega) (by omega) h
        have hA' := Lib.hid hA
        have hB' := Lib.hid hB
        clear hA hB
        have x2 : ((c.toNat : Int) == 127) = decide (c.toNat = 127) := by simp [Bool.beq_eq_decide_eq]; omega
        by_cases x1 : (c.toNat : Int) < 32
        all_goals
          try (have x3 : ((c.toNat : Int) == 127) = true := by simp; omega)
          clear x2
          go_upto_region 8 with fail
          go_region_law (refine step_append_own rfl (.tmp 22) (.tmp 29) 46 rfl w.heap.size 5 i0 (.int .u8 0) 1 1 Tryd.underlying46 hi hz0 hz1 hz2 rfl (by decide) u3 q.length _ (by simp [Act.eval, Act.put]) (hown1.alloc _) ⟨wr.heap.size, 0, none⟩ 4 4 [.int .u8 92, .int .u8 120, .int .u8 ((hexB (c.toNat / 16)).toNat : Int), .int .u8 ((hexB (c.toNat % 16)).toNat : Int)] (by simp [Act.eval, Act.put]) rfl (by
              intro j u hj
              match j, hj with
              | 0, hj => simp at hj; subst hj; simp [Addr.add]
              | 1, hj => simp at hj; subst hj; simp [Addr.add]
              | 2, hj => simp at hj; subst hj; simp [Addr.add, hA'.out]
              | 3, hj => simp at hj; subst hj; simp [Addr.add, hB'.out]
              | (j + 4), hj => simp at hj) (by
              intro u hu; simp at hu; rcases hu with rfl | rfl | rfl | rfl <;> rfl) fb1 fb2 (by simp; omega) ?_; intro v' w1 ho1 hg1)
          all_goals
            have R := FIN.out v' w1 ho1 ((grown_alloc_drew wr _ _).trans hg1)
            clear ho1 hg1 hown hown1 hgr FIN
            go_wp2
            go_roundw
            case rel => exact R
            case measure => simp [intOf]; omega
      · have hqb : qb c = [c] := by
          unfold qb
          rw [if_neg c10, if_neg c9, if_neg c13, if_neg c0, if_neg c34, if_neg c92, if_neg cx]
        rw [hqb] at FIN
        have x1 : ¬ (c.toNat : Int) < 32 := by omega
        have x2 : ((c.toNat : Int) == 127) = false := by simp; omega
        go_wp2_with (refine wpList_append_own _ rfl _ _ 46 rfl w.heap.size 5 i0 (.int .u8 0) 1 1 Tryd.underlying46 hi hz0 hz1 hz2 rfl (by decide) _ q.length _ rfl (hown.alloc _) ⟨wr.heap.size, 0, none⟩ 1 1 [.int .u8 (c.toNat : Int)] rfl rfl ?_ ?_ ?_ ?_ ?_ ?_)
        · rfl
        · unfold maxLen; omega
        · omega
        · first | omega | (simp; omega)
        · intro v' w1 ho1 hg1 _
          have R := FIN.out v' w1 ho1 ((grown_alloc wr _ _).trans hg1)
          clear ho1 hg1 hown hgr FIN
          go_wp2
          go_roundw
          case rel => exact R
          case measure => simp [intOf]; omega
    · obtain rfl : k = s.size := by omega
      have e2 : s.data.toList.take s.size = s.data.toList := List.take_of_length_le (by rw [len_list]; exact Nat.le_refl _)
      rw [e2] at hown hql
      have hql2 := qs_len s.data.toList
      rw [len_list] at hql2
      have hq := Lib.hid (u8s_append (qs s.data.toList) [34])
      have CV : ∀ v' (w1 : World), w1.ownsRow w.heap.size 5 1 v' ((qs s.data.toList).length + 1) (u8s (qs s.data.toList) ++ [.int .u8 34]) → (convert 46 9 v').run Tryd.prog w1 = .ok (.string ⟨(qs s.data.toList ++ [34]).toArray⟩) w1 := fun v' w1 h => conv_own (B := w.heap.size) (l := qs s.data.toList ++ [34]) (by rw [hq.out, List.length_append]; exact h)
      generalize hqq : qs s.data.toList = q at *
      go_wp2_with (refine wpList_append_own _ rfl _ _ 46 rfl w.heap.size 5 i0 (.int .u8 0) 1 1 Tryd.underlying46 hi hz0 hz1 hz2 rfl (by decide) _ q.length _ rfl (hown.alloc _) ⟨wr.heap.size, 0, none⟩ 1 1 [.int .u8 34] rfl rfl ?_ ?_ ?_ ?_ ?_ ?_)
      · intro j u hj
        match j, hj with
        | 0, hj => simp at hj; subst hj; simp [Addr.add]
        | (j + 1), hj => simp at hj
      · intro u hu; simp at hu; subst hu; rfl
      · unfold maxLen; omega
      · omega
      · simp; omega
      · intro v' w1 ho1 hg1 _
        have R : w.grownBy w1 none := ⟨hg1.os.trans hgr.os, hg1.tape.trans hgr.tape, hg1.output.trans hgr.output, by have := hg1.size; simp at this; omega, fun j hj _ => (hg1.block j (by simp; omega) (fun e => by have := (hown.lt j e.symm).1; omega)).trans ((Below.heap_alloc _ _ _ (by omega)).trans (hgr.block j hj (by simp)))⟩
        have C := CV v' w1 ho1
        clear ho1 hg1 hown hgr CV
        go_wp2
        go_ret
        exact ⟨by rw [hqq]; rfl, R⟩
end Go.Proofs.YtanofnhiopagaaaDoor
