/- The iterator over digits: 'digits$1', 'digits'. -/
import Derived.Test.YtanofnhiopagaaaDoorScan2
import Derived.Deep.LoopGhost
import Derived.Deep.Cut
import Derived.Test.YtanofnhiopagaaaDoorSpec3
import Derived.Test.YtanofnhiopagaaaDoorRange
import Derived.OwnWalkIn
import Derived.TacticsInMore
import Derived.LoopNIn
import Derived.LoopIn
import Derived.RegionIn
import Derived.Sort.LoopGhostIn
import Derived.Sort.QuietIn
import Derived.RangeFuncCalls
namespace Go.Proofs.YtanofnhiopagaaaDoor
open Go.RowKit

/-- The closure's own boxes: the scanner's address, the base. -/
structure DBox (W : World) (b sb bb : Nat) (base : Int) : Prop where
  s : W.heap[sb]? = some (.cells #[.pointer (some ⟨b, 0, none⟩)] 62 (0, 0))
  n : W.heap[bb]? = some (.cells #[.int .i64 base] 3 (0, 0))
def DOwn (b : Nat) (A C : World) : Prop := C.os = A.os ∧ C.tape = A.tape ∧ C.output = A.output ∧ C.heap.size = A.heap.size ∧ ∀ k, k ≠ b → C.heap[k]? = A.heap[k]?
def DKp (b sb bb : Nat) (A C : World) : Prop := C.heap[b]? = A.heap[b]? ∧ C.heap[sb]? = A.heap[sb]? ∧ C.heap[bb]? = A.heap[bb]?

theorem in_wide {F : Fence} (hF : F = Fence.wide) {r : Nat} {P : Program} {f : FuncId} {args : Array Value} {w : World} {R : Ending → World → Prop} (h : Calls P f args w R) : CallsIn F r P f args w R := by
  subst hF; exact callsIn_wide.2 h
theorem DOwn.drewN (b : Nat) (A : World) (n : Nat) : DOwn b A (A.drewN n) := ⟨rfl, rfl, rfl, rfl, fun _ _ => rfl⟩
theorem DOwn.set1 (b : Nat) (A : World) (v : Value) : DOwn b A (A.setCell ⟨b, 1, none⟩ v) := ⟨rfl, rfl, rfl, by simp, fun k hk => Below.heap_setCell _ _ _ _ hk⟩
theorem DBox.own {A C : World} {b sb bb : Nat} {base : Int} (h : DBox A b sb bb base) (ho : DOwn b A C) (hsb : sb ≠ b) (hbb : bb ≠ b) : DBox C b sb bb base :=
  ⟨(ho.2.2.2.2 sb hsb).trans h.s, (ho.2.2.2.2 bb hbb).trans h.n⟩
theorem DBox.cs {W : World} {b sb bb : Nat} {base : Int} (h : DBox W b sb bb base) : W.cell? ⟨sb, 0, none⟩ = some (.pointer (some ⟨b, 0, none⟩)) := by simp [World.cell?, h.s]
theorem DBox.cn {W : World} {b sb bb : Nat} {base : Int} (h : DBox W b sb bb base) : W.cell? ⟨bb, 0, none⟩ = some (.int .i64 base) := by simp [World.cell?, h.n]

set_option maxRecDepth 100000 in
set_option maxHeartbeats 400000 in
theorem digits_in (n : Nat) (b sb bb : Nat) (hsb : sb ≠ b) (hbb : bb ≠ b) (s : ByteArray) (k : Nat) (base : Int) (hb0 : 0 ≤ base) (hb1 : base ≤ 16) (ln : Bool) (M T : Value) (hs : s.size ≤ 4000000000) (hk : k ≤ s.size)
    (fuel k' : Nat) (ds : List Int) (hF : digF fuel s.data.toList base k false = some (ds, k')) (B : Nat) :
    Iter Fence.wide n Tryd.prog 79 #[.pointer (some ⟨sb, 0, none⟩), .pointer (some ⟨bb, 0, none⟩)] ds B (DOwn b) (DKp b sb bb)
      (fun W => Scn W b s k ln M T ∧ DBox W b sb bb base) (fun W => Scn W b s k' ln M T ∧ k' ≤ s.size) := by
  intro l J W hBl hJ hY h0 ⟨hsc, hbx⟩
  have HF := Lib.hid hF
  have HY := Lib.hid hY
  have HJ := Lib.hid hJ
  clear hF hY hJ
  refine callsIn_wide.2 ?_
  go_enter Tryd.func79, Tryd.ntmps79
  go_wp2
  go_loopg [4] fuel (fun g btw wr => ∃ (pre rest : List Int) (j : Nat) (bw : Bool), btw = .bool bw ∧ j ≤ s.size ∧ Scn wr b s j ln M T ∧ DBox wr b sb bb base ∧ J pre wr ∧ Hid (digF g s.data.toList base j bw = some (rest, k')) ∧ Hid (ds = pre ++ rest))
  case atStart => exact ⟨[], ds, k, false, rfl, hk, hsc, hbx, h0, HF, rfl⟩
  case round =>
    obtain ⟨pre, rest, j, bw, rfl, hj, hsc, hbx, hJ0, hf, hds⟩ := hrel
    cases gk with
    | zero => have := hf.out; simp [digF] at this
    | succ g =>
      have c0 := hsc.c0
      have c1 := hsc.c1
      have cs := hbx.cs
      have cn := hbx.cn
      have B1 := Lib.hid (fun q => byteAt_any b s j ln M T j (wr.drewN q) (by unfold maxLen; omega) (hsc.drewN q))
      have hbr := byteV_range s.data.toList j
      have hf2 := hf.out
      unfold digF at hf2
      have hdr := digitV_range _ hbr.1 hbr.2
      have hnx := byteV_range s.data.toList (j + 1)
      have hnd := digitV_range _ hnx.1 hnx.2
      have hlt_of : digitV (byteV s.data.toList j) < base → j < s.size := fun h => by
        rcases Nat.lt_or_ge j s.size with h2 | h2
        · exact h2
        · rw [byteV_out s j h2] at h; unfold digitV at h; simp at h; omega
      go_wp2
      go_quiet ((go_at_call 64; exact quiet_w (B1.out _)))
      have hs1 := hsc.drewN nq
      have hx1 := hbx.own (DOwn.drewN b wr nq) hsb hbb
      have hJ1 := HJ.out pre _ _ hJ0 (DOwn.drewN b wr nq)
      clear c0 c1 cs cn B1 hsc hbx hJ0
      generalize wr.drewN nq = W1 at hs1 hx1 hJ1 ⊢
      have c0 := hs1.c0
      have c1 := hs1.c1
      have f1 := hs1.fz 1
      have cs := hx1.cs
      have cn := hx1.cn
      by_cases hd : digitV (byteV s.data.toList j) < base
      · rw [if_pos hd] at hf2
        have hjl := hlt_of hd
        have t1 : decide (digitV (byteV s.data.toList j) < base) = true := by simpa using hd
        cases hr : digF g s.data.toList base (j + 1) true with
        | none => rw [hr] at hf2; cases hf2
        | some q =>
          obtain ⟨ds', k2⟩ := q
          rw [hr] at hf2
          simp only [Option.some.injEq, Prod.mk.injEq] at hf2
          obtain ⟨hf3, rfl⟩ := hf2
          have HR := Lib.hid hr
          have HD : Hid (ds = (pre ++ [digitV (byteV s.data.toList j)]) ++ ds') := Lib.hid (by rw [hds.out, ← hf3]; simp)
          clear hf hr hf3 hds hd hlt_of
          have hJ2 := HJ.out pre _ _ hJ1 (DOwn.set1 b W1 (.int .i64 ((j : Int) + 1)))
          have hs2 : Scn (W1.setCell ⟨b, 1, none⟩ (.int .i64 ((j : Int) + 1))) b s (j + 1 : Nat) ln M T := by simpa using hs1.set1 ((j : Int) + 1)
          have hx2 := hx1.own (DOwn.set1 b W1 (.int .i64 ((j : Int) + 1))) hsb hbb
          generalize byteV s.data.toList j = c at *
          generalize hdv : digitV c = dv at *
          have HDV := Lib.hid hdv
          clear hdv
          obtain ⟨fn, tmps, assign, body, hy, hR⟩ := HY.out pre dv _ ⟨ds', by rw [HD.out]; simp⟩ hJ2
          have HRR := Lib.hid hR
          clear hR
          have D80 := fun W => digit_any c W hbr.1 hbr.2
          rw [HDV.out] at D80
          have D80' := Lib.hid D80
          clear D80
          go_upto_region 6 with (first | (go_at_call 80; refine (D80'.out _).mono ?_; rintro e w' ⟨rfl, rfl⟩))
          refine (wpIn_wide (n := n)).1 ?_
          gi_wp2
          refine ⟨fun h => by simp [Fence.wide] at h, HRR.out.mono ?_⟩
          rintro e W3 ⟨rfl, hJ3, hk3⟩
          have hs3 : Scn W3 b s (j + 1 : Nat) ln M T := hk3.1.trans hs2
          have hx3 : DBox W3 b sb bb base := ⟨hk3.2.1.trans hx2.s, hk3.2.2.trans hx2.n⟩
          clear hs2 hx2 hJ2 hk3 HRR hs1 hx1 hJ1 c0 c1 f1 cs cn
          gi_wp2
          go_wp2
          go_roundg g
          case rel => exact ⟨pre ++ [dv], ds', j + 1, true, rfl, by omega, hs3, hx3, hJ3, HR, HD⟩
          case measure => omega
      · rw [if_neg hd] at hf2
        have t1 : decide (digitV (byteV s.data.toList j) < base) = false := by simpa using hd
        have B2 := fun q => byteAt_any b s j ln M T (j + 1) (W1.drewN q) (by unfold maxLen; omega) (hs1.drewN q)
        have e1 : ((j + 1 : Nat) : Int) = (j : Int) + 1 := by omega
        simp only [e1] at B2
        clear e1
        clear hlt_of
        generalize hcv : byteV s.data.toList j = c at *
        generalize hnv : byteV s.data.toList (j + 1) = c2 at *
        have HC := Lib.hid hcv
        clear hcv hnv
        have B2' := Lib.hid B2
        clear B2
        have D80 := Lib.hid (fun W => digit_any c W hbr.1 hbr.2)
        have D81 := Lib.hid (fun W => digit_any c2 W hnx.1 hnx.2)
        by_cases hu : c = 95
        · have t2 : (c == 95) = true := by simpa using hu
          have HU := Lib.hid hu
          clear hu
          cases bw with
          | false =>
            rw [if_neg (fun h => by cases h.2.1)] at hf2
            simp only [Option.some.injEq, Prod.mk.injEq] at hf2
            obtain ⟨rfl, rfl⟩ := hf2
            have HD : Hid (ds = pre) := Lib.hid (by rw [hds.out]; simp)
            clear hds hf hd
            go_wp2_with (first | (go_at_call 80; refine (D80.out _).mono ?_; rintro e w' ⟨rfl, rfl⟩))
            go_quiet (fail)
            go_wp2
            refine bodyPost_ret (results_none rfl _ _ _) rfl ?_
            exact ⟨⟨_, rfl⟩, by rw [HD.out]; exact HJ.out _ _ _ hJ1 (DOwn.drewN b W1 nq), hs1.drewN _, hj⟩
          | true =>
            by_cases hd2 : digitV c2 < base
            · rw [if_pos ⟨HU.out, rfl, hd2⟩] at hf2
              have t3 : decide (digitV c2 < base) = true := by simpa using hd2
              have HR := Lib.hid hf2
              have hjl : j < s.size := by
                rcases Nat.lt_or_ge j s.size with h2 | h2
                · exact h2
                · have := HC.out; rw [byteV_out s j h2] at this; have := HU.out; omega
              clear hf hf2 hd hd2
              go_wp2_with (first | (go_at_call 80; refine (D80.out _).mono ?_; rintro e w' ⟨rfl, rfl⟩))
              go_quiet ((first | (go_at_call 64; exact quiet_w (B2'.out _)) | (go_at_call 80; exact quiet_w (D81.out _))))
              have hs2 := hs1.drewN nq
              have hx2 := hx1.own (DOwn.drewN b W1 nq) hsb hbb
              have hJ2 := HJ.out pre _ _ hJ1 (DOwn.drewN b W1 nq)
              clear hs1 hx1 hJ1 c0 c1 f1 cs cn B2'
              generalize W1.drewN nq = W2 at *
              have c1 := hs2.c1
              have f1 := hs2.fz 1
              have cs := hx2.cs
              go_wp2
              go_roundg g
              case rel => exact ⟨pre, rest, j + 1, false, rfl, by omega, by simpa using hs2.set1 ((j : Int) + 1), hx2.own (DOwn.set1 b W2 _) hsb hbb, HJ.out _ _ _ hJ2 (DOwn.set1 b W2 _), HR, hds⟩
              case measure => omega
            · rw [if_neg (fun h => hd2 h.2.2)] at hf2
              have t3 : decide (digitV c2 < base) = false := by simpa using hd2
              simp only [Option.some.injEq, Prod.mk.injEq] at hf2
              obtain ⟨rfl, rfl⟩ := hf2
              have HD : Hid (ds = pre) := Lib.hid (by rw [hds.out]; simp)
              clear hds hf hd hd2
              go_wp2_with (first | (go_at_call 80; refine (D80.out _).mono ?_; rintro e w' ⟨rfl, rfl⟩))
              go_quiet ((first | (go_at_call 64; exact quiet_w (B2'.out _)) | (go_at_call 80; exact quiet_w (D81.out _))))
              go_wp2
              refine bodyPost_ret (results_none rfl _ _ _) rfl ?_
              exact ⟨⟨_, rfl⟩, by rw [HD.out]; exact HJ.out _ _ _ hJ1 (DOwn.drewN b W1 nq), hs1.drewN _, hj⟩
        · have t2 : (c == 95) = false := by simpa using hu
          rw [if_neg (fun h => hu h.1)] at hf2
          simp only [Option.some.injEq, Prod.mk.injEq] at hf2
          obtain ⟨rfl, rfl⟩ := hf2
          have HD : Hid (ds = pre) := Lib.hid (by rw [hds.out]; simp)
          clear hds hf hu hd
          go_wp2_with (first | (go_at_call 80; refine (D80.out _).mono ?_; rintro e w' ⟨rfl, rfl⟩))
          go_quiet (fail)
          go_wp2
          refine bodyPost_ret (results_none rfl _ _ _) rfl ?_
          exact ⟨⟨_, rfl⟩, by rw [HD.out]; exact HJ.out _ _ _ hJ1 (DOwn.drewN b W1 nq), hs1.drewN _, hj⟩
end Go.Proofs.YtanofnhiopagaaaDoor
