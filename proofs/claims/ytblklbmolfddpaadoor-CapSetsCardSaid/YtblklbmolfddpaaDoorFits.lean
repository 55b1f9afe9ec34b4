/- Contracts of Fits, Sub, Alias, Consumed, View and Extract of package cap, and of the statements' own one and mark. -/
import Derived.Test.YtblklbmolfddpaaDoorLeaf
namespace Go.Proofs.YtblklbmolfddpaaDoor
open Go.RowKit

theorem bcell {W w1 : World} (hb : Below W.heap.size W w1) : ∀ b o, b < W.heap.size → w1.cell? ⟨b, o, none⟩ = W.cell? ⟨b, o, none⟩ :=
  fun b o h => hb.cell (p := ⟨b, o, none⟩) h

theorem lt_of_cell {w : World} {b o : Nat} {v : Value} (h : w.cell? ⟨b, o, none⟩ = some v) : b < w.heap.size := by
  unfold World.cell? at h
  by_cases hb : b < w.heap.size
  · exact hb
  · rw [Array.getElem?_eq_none (by simpa using hb)] at h; cases h

theorem GFits.below {w w' : World} (h : GFits w) (hb : Below w.heap.size w w') : GFits w' :=
  ⟨fun k hk => by rw [bcell hb 2 k (lt_of_cell (h.fits k hk))]; exact h.fits k hk⟩
theorem GViews.below {w w' : World} (h : GViews w) (hb : Below w.heap.size w w') : GViews w' :=
  ⟨fun k hk => by rw [bcell hb 3 k (lt_of_cell (h.views k hk))]; exact h.views k hk⟩
theorem Below.trans2 {w w1 w2 : World} (h1 : Below w.heap.size w w1) (h2 : Below w1.heap.size w1 w2) : Below w.heap.size w w2 :=
  h1.trans (h2.mono h1.size)

set_option maxHeartbeats 400000 in
theorem marked_any (c m : Int) (w : World) :
    Calls Tryd.prog 52 #[.int .i64 c, .int .i64 m] w fun e w' => e = .returned (.int .i64 (markedV c m)) ∧ Below w.heap.size w w' := by
  cases h : (capB c && markB m) with
  | true => exact marked_some c m w (by simp at h; exact h.1) (by simp at h; exact h.2)
  | false => exact marked_none c m w h

set_option maxHeartbeats 800000 in
theorem fits_any (a m b o : Int) (w : World) (hG : GFits w) :
    Calls Tryd.prog 26 #[.int .i64 a, .int .i64 m, .int .i64 b, .int .i64 o] w fun e w' => e = .returned (.bool (fitsB a m b o)) ∧ Below w.heap.size w w' := by
  have R : Hid (fitsB a m b o = (decide (0 ≤ markedV a m) && decide (0 ≤ markedV b o) && bitB (fitsT.getD (markedV a m).toNat 0) (markedV b o).toNat)) := rfl
  have M1 := Lib.hid (fun W => marked_any a m W)
  have M2 := Lib.hid (fun W => marked_any b o W)
  have b1 := marked_bd a m
  have b2 := marked_bd b o
  revert R M1 M2 b1 b2
  generalize markedV a m = l
  generalize markedV b o = r
  intro R M1 M2 b1 b2
  have HG := Lib.hid hG
  clear hG
  by_cases hl : 0 ≤ l
  · obtain ⟨k, rfl⟩ := Int.eq_ofNat_of_zero_le hl
    by_cases hr : 0 ≤ r
    · obtain ⟨j, rfl⟩ := Int.eq_ofNat_of_zero_le hr
      have hk : k < 10 := by omega
      go_enter Tryd.func26, Tryd.ntmps26
      go_wp2_with fail
      refine (M1.out _).mono ?_
      rintro e w1 ⟨rfl, hb1⟩
      go_wp2_with fail
      refine (M2.out _).mono ?_
      rintro e w2 ⟨rfl, hb2⟩
      have hb := Below.trans2 hb1 hb2
      have hc := (HG.out.below hb).fits k hk
      clear hb1 hb2
      go_wp2_with fail
      go_ret
      refine ⟨ret_bool ?_, hb⟩
      rw [R.out]
      simp [bitB]
    · have hr' : decide ((0:Int) ≤ r) = false := by simpa using hr
      go_enter Tryd.func26, Tryd.ntmps26
      go_wp2_with fail
      refine (M1.out _).mono ?_
      rintro e w1 ⟨rfl, hb1⟩
      go_wp2_with fail
      refine (M2.out _).mono ?_
      rintro e w2 ⟨rfl, hb2⟩
      go_wp2_with fail
      go_ret
      exact ⟨ret_bool (by rw [R.out]; simp [hr']), Below.trans2 hb1 hb2⟩
  · have hl' : decide ((0:Int) ≤ l) = false := by simpa using hl
    go_enter Tryd.func26, Tryd.ntmps26
    go_wp2_with fail
    refine (M1.out _).mono ?_
    rintro e w1 ⟨rfl, hb1⟩
    go_wp2_with fail
    refine (M2.out _).mono ?_
    rintro e w2 ⟨rfl, hb2⟩
    go_wp2_with fail
    go_ret
    exact ⟨ret_bool (by rw [R.out]; simp [hl']), Below.trans2 hb1 hb2⟩

set_option maxHeartbeats 400000 in
theorem sub_any (a b : Int) (w : World) (hG : GFits w) :
    Calls Tryd.prog 24 #[.int .i64 a, .int .i64 b] w fun e w' => e = .returned (.bool (fitsB a 1 b 0)) ∧ Below w.heap.size w w' := by
  have F := Lib.hid (fits_any a 1 b 0 w hG)
  clear hG
  go_enter Tryd.func24, Tryd.ntmps24
  go_wp2_with fail
  refine F.out.mono ?_
  rintro e w' ⟨rfl, hb⟩
  go_wp2_with fail
  go_ret
  exact ⟨rfl, hb⟩

def aliasV (c m : Int) : Int × Int :=
  if !(capB c && markB m) then (0, 0) else if !uniqueB c || m == 1 then (c, 0) else (c, 2)

set_option maxHeartbeats 800000 in
theorem alias_any (c m : Int) (w : World) :
    Calls Tryd.prog 28 #[.int .i64 c, .int .i64 m] w fun e w' => e = .returned (.tuple #[.int .i64 (aliasV c m).1, .int .i64 (aliasV c m).2]) ∧ w = w' := by
  have I := Lib.hid (fun W => is_any c W)
  have J := Lib.hid (fun W => isMark_any m W)
  have K := Lib.hid (fun W => unique_any c W)
  have R : Hid (aliasV c m = if !(capB c && markB m) then (0, 0) else if !uniqueB c || m == 1 then (c, 0) else (c, 2)) := rfl
  revert R I J K
  generalize capB c = x
  generalize markB m = y
  generalize uniqueB c = z
  generalize aliasV c m = v
  intro I J K R
  cases hm : (m == 1) <;> cases x <;> cases y <;> cases z <;> (
    replace R := R.out
    rw [hm] at R
    simp at R
    subst R
    go_enter Tryd.func28, Tryd.ntmps28
    go_wp2_with (first | ((with_reducible refine (I.out _).mono ?_); rintro e w' ⟨rfl, rfl⟩) | ((with_reducible refine (J.out _).mono ?_); rintro e w' ⟨rfl, rfl⟩) | ((with_reducible refine (K.out _).mono ?_); rintro e w' ⟨rfl, rfl⟩))
    go_ret2
    exact ⟨rfl, rfl⟩)

set_option maxHeartbeats 800000 in
theorem view_any (o f : Int) (w : World) (hG : GViews w) :
    Calls Tryd.prog 35 #[.int .i64 o, .int .i64 f] w fun e w' => e = .returned (.tuple #[.int .i64 (viewV o f), .bool (viewV o f != 0)]) ∧ w = w' := by
  have I := Lib.hid (fun W => is_any o W)
  have J := Lib.hid (fun W => is_any f W)
  cases ho : capB o with
  | false =>
    have R : viewV o f = 0 := by unfold viewV; rw [ho]; rfl
    rw [R]
    rw [ho] at I
    clear ho hG R
    go_enter Tryd.func35, Tryd.ntmps35
    go_wp2_with (first | ((with_reducible refine (I.out _).mono ?_); rintro e w' ⟨rfl, rfl⟩) | ((with_reducible refine (J.out _).mono ?_); rintro e w' ⟨rfl, rfl⟩))
    go_ret2
    exact ⟨rfl, rfl⟩
  | true =>
    cases hf : capB f with
    | false =>
      have R : viewV o f = 0 := by unfold viewV; rw [hf, Bool.and_false]; rfl
      rw [R]
      rw [ho] at I
      rw [hf] at J
      clear ho hf hG R
      go_enter Tryd.func35, Tryd.ntmps35
      go_wp2_with (first | ((with_reducible refine (I.out _).mono ?_); rintro e w' ⟨rfl, rfl⟩) | ((with_reducible refine (J.out _).mono ?_); rintro e w' ⟨rfl, rfl⟩))
      go_ret2
      exact ⟨rfl, rfl⟩
    | true =>
      have R : Hid (viewsT.getD (o.toNat * 7 + f.toNat) 0 = viewV o f) := by unfold viewV; rw [ho, hf]; rfl
      have h1 := cap_lo ho
      have h2 := cap_hi ho
      have h3 := cap_lo hf
      have h4 := cap_hi hf
      rw [ho] at I
      rw [hf] at J
      clear ho hf
      obtain ⟨k, rfl⟩ := Int.eq_ofNat_of_zero_le (show 0 ≤ o by omega)
      obtain ⟨j, rfl⟩ := Int.eq_ofNat_of_zero_le (show 0 ≤ f by omega)
      have hc := hG.views (k * 7 + j) (by omega)
      rw [show viewsT.getD (k * 7 + j) 0 = viewV k j from R.out] at hc
      clear hG R
      generalize viewV k j = v at hc ⊢
      go_enter Tryd.func35, Tryd.ntmps35
      go_wp2_with (first | ((with_reducible refine (I.out _).mono ?_); rintro e w' ⟨rfl, rfl⟩) | ((with_reducible refine (J.out _).mono ?_); rintro e w' ⟨rfl, rfl⟩))
      go_ret2
      exact ⟨rfl, rfl⟩

/-- What Extract returns: capability, mark, and whether. -/
def extractV (o f : Int) : Int × Int × Bool :=
  if !(writesB o && capB f) then (0, 0, false)
  else if f == 1 || (f == 2 && o == 3) then (f, 1, true)
  else if f == 2 && o == 2 then (5, 0, true)
  else (viewV o f, 0, viewV o f != 0)

theorem writes_cases {c : Int} (h : writesB c = true) : c = 1 ∨ c = 2 ∨ c = 3 := by
  have hc : capB c = true := by unfold writesB amongB at h; simp at h; exact h.1
  rcases cap_cases hc with rfl | rfl | rfl | rfl | rfl | rfl
  · exact .inl rfl
  · exact .inr (.inl rfl)
  · exact .inr (.inr rfl)
  · revert h; decide +kernel
  · revert h; decide +kernel
  · revert h; decide +kernel

theorem ret3 {a b : Int × Int × Bool} (h : a = b) : Ending.returned (.tuple #[.int .i64 a.1, .int .i64 a.2.1, .bool a.2.2]) = Ending.returned (.tuple #[.int .i64 b.1, .int .i64 b.2.1, .bool b.2.2]) := by rw [h]

set_option maxHeartbeats 800000 in
theorem extract_no (o f : Int) (w : World) (h : (writesB o && capB f) = false) :
    Calls Tryd.prog 37 #[.int .i64 o, .int .i64 f] w fun e w' => e = .returned (.tuple #[.int .i64 0, .int .i64 0, .bool false]) ∧ w = w' := by
  have I := Lib.hid (fun W => writes_any o W)
  have J := Lib.hid (fun W => is_any f W)
  revert h I J
  generalize writesB o = x
  generalize capB f = y
  intro h I J
  cases x <;> cases y <;> first
    | (cases h; done)
    | (clear h
       go_enter Tryd.func37, Tryd.ntmps37
       go_wp2_with (first | ((with_reducible refine (I.out _).mono ?_); rintro e w' ⟨rfl, rfl⟩) | ((with_reducible refine (J.out _).mono ?_); rintro e w' ⟨rfl, rfl⟩))
       exact bodyPost_ret (v := .tuple #[.int .i64 0, .int .i64 0, .bool false]) (by simp [results, Tryd.results37, go_sem]) rfl ⟨rfl, rfl⟩)

set_option maxHeartbeats 800000 in
theorem extract_yes (o f x y : Int) (z : Bool) (w : World) (hE : extractV o f = (x, y, z))
    (h : Calls Tryd.prog 37 #[.int .i64 o, .int .i64 f] w fun e w' => e = .returned (.tuple #[.int .i64 x, .int .i64 y, .bool z]) ∧ w = w') :
    Calls Tryd.prog 37 #[.int .i64 o, .int .i64 f] w fun e w' => e = .returned (.tuple #[.int .i64 (extractV o f).1, .int .i64 (extractV o f).2.1, .bool (extractV o f).2.2]) ∧ w = w' := by
  rw [hE]; exact h

set_option maxHeartbeats 1600000 in
theorem extract_any (o f : Int) (w : World) (hG : GViews w) :
    Calls Tryd.prog 37 #[.int .i64 o, .int .i64 f] w fun e w' => e = .returned (.tuple #[.int .i64 (extractV o f).1, .int .i64 (extractV o f).2.1, .bool (extractV o f).2.2]) ∧ w = w' := by
  cases h : (writesB o && capB f) with
  | false =>
    have R : extractV o f = (0, 0, false) := by unfold extractV; rw [h]; rfl
    rw [R]
    exact extract_no o f w h
  | true =>
    obtain ⟨ho, hf⟩ : writesB o = true ∧ capB f = true := by simpa using h
    have I := Lib.hid (fun W => writes_any o W)
    have J := Lib.hid (fun W => is_any f W)
    have V := Lib.hid (view_any o f w hG)
    rw [ho] at I
    rw [hf] at J
    clear hG h
    rcases writes_cases ho with rfl | rfl | rfl <;> rcases cap_cases hf with rfl | rfl | rfl | rfl | rfl | rfl
    · rw [show viewV 1 1 = 1 from by decide +kernel] at V
      refine extract_yes 1 1 1 1 true w (by decide +kernel) ?_
      clear ho hf
      go_enter Tryd.func37, Tryd.ntmps37
      go_wp2_with (first | ((with_reducible refine (I.out _).mono ?_); rintro e w' ⟨rfl, rfl⟩) | ((with_reducible refine (J.out _).mono ?_); rintro e w' ⟨rfl, rfl⟩) | (refine V.out.mono ?_; rintro e w' ⟨rfl, rfl⟩))
      exact bodyPost_ret (v := .tuple #[.int .i64 1, .int .i64 1, .bool true]) (by simp [results, Tryd.results37, go_sem]) rfl ⟨rfl, rfl⟩
    · rw [show viewV 1 2 = 6 from by decide +kernel] at V
      refine extract_yes 1 2 6 0 true w (by decide +kernel) ?_
      clear ho hf
      go_enter Tryd.func37, Tryd.ntmps37
      go_wp2_with (first | ((with_reducible refine (I.out _).mono ?_); rintro e w' ⟨rfl, rfl⟩) | ((with_reducible refine (J.out _).mono ?_); rintro e w' ⟨rfl, rfl⟩) | (refine V.out.mono ?_; rintro e w' ⟨rfl, rfl⟩))
      exact bodyPost_ret (v := .tuple #[.int .i64 6, .int .i64 0, .bool true]) (by simp [results, Tryd.results37, go_sem]) rfl ⟨rfl, rfl⟩
    · rw [show viewV 1 3 = 6 from by decide +kernel] at V
      refine extract_yes 1 3 6 0 true w (by decide +kernel) ?_
      clear ho hf
      go_enter Tryd.func37, Tryd.ntmps37
      go_wp2_with (first | ((with_reducible refine (I.out _).mono ?_); rintro e w' ⟨rfl, rfl⟩) | ((with_reducible refine (J.out _).mono ?_); rintro e w' ⟨rfl, rfl⟩) | (refine V.out.mono ?_; rintro e w' ⟨rfl, rfl⟩))
      exact bodyPost_ret (v := .tuple #[.int .i64 6, .int .i64 0, .bool true]) (by simp [results, Tryd.results37, go_sem]) rfl ⟨rfl, rfl⟩
    · rw [show viewV 1 4 = 4 from by decide +kernel] at V
      refine extract_yes 1 4 4 0 true w (by decide +kernel) ?_
      clear ho hf
      go_enter Tryd.func37, Tryd.ntmps37
      go_wp2_with (first | ((with_reducible refine (I.out _).mono ?_); rintro e w' ⟨rfl, rfl⟩) | ((with_reducible refine (J.out _).mono ?_); rintro e w' ⟨rfl, rfl⟩) | (refine V.out.mono ?_; rintro e w' ⟨rfl, rfl⟩))
      exact bodyPost_ret (v := .tuple #[.int .i64 4, .int .i64 0, .bool true]) (by simp [results, Tryd.results37, go_sem]) rfl ⟨rfl, rfl⟩
    · rw [show viewV 1 5 = 6 from by decide +kernel] at V
      refine extract_yes 1 5 6 0 true w (by decide +kernel) ?_
      clear ho hf
      go_enter Tryd.func37, Tryd.ntmps37
      go_wp2_with (first | ((with_reducible refine (I.out _).mono ?_); rintro e w' ⟨rfl, rfl⟩) | ((with_reducible refine (J.out _).mono ?_); rintro e w' ⟨rfl, rfl⟩) | (refine V.out.mono ?_; rintro e w' ⟨rfl, rfl⟩))
      exact bodyPost_ret (v := .tuple #[.int .i64 6, .int .i64 0, .bool true]) (by simp [results, Tryd.results37, go_sem]) rfl ⟨rfl, rfl⟩
    · rw [show viewV 1 6 = 6 from by decide +kernel] at V
      refine extract_yes 1 6 6 0 true w (by decide +kernel) ?_
      clear ho hf
      go_enter Tryd.func37, Tryd.ntmps37
      go_wp2_with (first | ((with_reducible refine (I.out _).mono ?_); rintro e w' ⟨rfl, rfl⟩) | ((with_reducible refine (J.out _).mono ?_); rintro e w' ⟨rfl, rfl⟩) | (refine V.out.mono ?_; rintro e w' ⟨rfl, rfl⟩))
      exact bodyPost_ret (v := .tuple #[.int .i64 6, .int .i64 0, .bool true]) (by simp [results, Tryd.results37, go_sem]) rfl ⟨rfl, rfl⟩
    · rw [show viewV 2 1 = 1 from by decide +kernel] at V
      refine extract_yes 2 1 1 1 true w (by decide +kernel) ?_
      clear ho hf
      go_enter Tryd.func37, Tryd.ntmps37
      go_wp2_with (first | ((with_reducible refine (I.out _).mono ?_); rintro e w' ⟨rfl, rfl⟩) | ((with_reducible refine (J.out _).mono ?_); rintro e w' ⟨rfl, rfl⟩) | (refine V.out.mono ?_; rintro e w' ⟨rfl, rfl⟩))
      exact bodyPost_ret (v := .tuple #[.int .i64 1, .int .i64 1, .bool true]) (by simp [results, Tryd.results37, go_sem]) rfl ⟨rfl, rfl⟩
    · rw [show viewV 2 2 = 2 from by decide +kernel] at V
      refine extract_yes 2 2 5 0 true w (by decide +kernel) ?_
      clear ho hf
      go_enter Tryd.func37, Tryd.ntmps37
      go_wp2_with (first | ((with_reducible refine (I.out _).mono ?_); rintro e w' ⟨rfl, rfl⟩) | ((with_reducible refine (J.out _).mono ?_); rintro e w' ⟨rfl, rfl⟩) | (refine V.out.mono ?_; rintro e w' ⟨rfl, rfl⟩))
      exact bodyPost_ret (v := .tuple #[.int .i64 5, .int .i64 0, .bool true]) (by simp [results, Tryd.results37, go_sem]) rfl ⟨rfl, rfl⟩
    · rw [show viewV 2 3 = 5 from by decide +kernel] at V
      refine extract_yes 2 3 5 0 true w (by decide +kernel) ?_
      clear ho hf
      go_enter Tryd.func37, Tryd.ntmps37
      go_wp2_with (first | ((with_reducible refine (I.out _).mono ?_); rintro e w' ⟨rfl, rfl⟩) | ((with_reducible refine (J.out _).mono ?_); rintro e w' ⟨rfl, rfl⟩) | (refine V.out.mono ?_; rintro e w' ⟨rfl, rfl⟩))
      exact bodyPost_ret (v := .tuple #[.int .i64 5, .int .i64 0, .bool true]) (by simp [results, Tryd.results37, go_sem]) rfl ⟨rfl, rfl⟩
    · rw [show viewV 2 4 = 4 from by decide +kernel] at V
      refine extract_yes 2 4 4 0 true w (by decide +kernel) ?_
      clear ho hf
      go_enter Tryd.func37, Tryd.ntmps37
      go_wp2_with (first | ((with_reducible refine (I.out _).mono ?_); rintro e w' ⟨rfl, rfl⟩) | ((with_reducible refine (J.out _).mono ?_); rintro e w' ⟨rfl, rfl⟩) | (refine V.out.mono ?_; rintro e w' ⟨rfl, rfl⟩))
      exact bodyPost_ret (v := .tuple #[.int .i64 4, .int .i64 0, .bool true]) (by simp [results, Tryd.results37, go_sem]) rfl ⟨rfl, rfl⟩
    · rw [show viewV 2 5 = 5 from by decide +kernel] at V
      refine extract_yes 2 5 5 0 true w (by decide +kernel) ?_
      clear ho hf
      go_enter Tryd.func37, Tryd.ntmps37
      go_wp2_with (first | ((with_reducible refine (I.out _).mono ?_); rintro e w' ⟨rfl, rfl⟩) | ((with_reducible refine (J.out _).mono ?_); rintro e w' ⟨rfl, rfl⟩) | (refine V.out.mono ?_; rintro e w' ⟨rfl, rfl⟩))
      exact bodyPost_ret (v := .tuple #[.int .i64 5, .int .i64 0, .bool true]) (by simp [results, Tryd.results37, go_sem]) rfl ⟨rfl, rfl⟩
    · rw [show viewV 2 6 = 6 from by decide +kernel] at V
      refine extract_yes 2 6 6 0 true w (by decide +kernel) ?_
      clear ho hf
      go_enter Tryd.func37, Tryd.ntmps37
      go_wp2_with (first | ((with_reducible refine (I.out _).mono ?_); rintro e w' ⟨rfl, rfl⟩) | ((with_reducible refine (J.out _).mono ?_); rintro e w' ⟨rfl, rfl⟩) | (refine V.out.mono ?_; rintro e w' ⟨rfl, rfl⟩))
      exact bodyPost_ret (v := .tuple #[.int .i64 6, .int .i64 0, .bool true]) (by simp [results, Tryd.results37, go_sem]) rfl ⟨rfl, rfl⟩
    · rw [show viewV 3 1 = 1 from by decide +kernel] at V
      refine extract_yes 3 1 1 1 true w (by decide +kernel) ?_
      clear ho hf
      go_enter Tryd.func37, Tryd.ntmps37
      go_wp2_with (first | ((with_reducible refine (I.out _).mono ?_); rintro e w' ⟨rfl, rfl⟩) | ((with_reducible refine (J.out _).mono ?_); rintro e w' ⟨rfl, rfl⟩) | (refine V.out.mono ?_; rintro e w' ⟨rfl, rfl⟩))
      exact bodyPost_ret (v := .tuple #[.int .i64 1, .int .i64 1, .bool true]) (by simp [results, Tryd.results37, go_sem]) rfl ⟨rfl, rfl⟩
    · rw [show viewV 3 2 = 2 from by decide +kernel] at V
      refine extract_yes 3 2 2 1 true w (by decide +kernel) ?_
      clear ho hf
      go_enter Tryd.func37, Tryd.ntmps37
      go_wp2_with (first | ((with_reducible refine (I.out _).mono ?_); rintro e w' ⟨rfl, rfl⟩) | ((with_reducible refine (J.out _).mono ?_); rintro e w' ⟨rfl, rfl⟩) | (refine V.out.mono ?_; rintro e w' ⟨rfl, rfl⟩))
      exact bodyPost_ret (v := .tuple #[.int .i64 2, .int .i64 1, .bool true]) (by simp [results, Tryd.results37, go_sem]) rfl ⟨rfl, rfl⟩
    · rw [show viewV 3 3 = 3 from by decide +kernel] at V
      refine extract_yes 3 3 3 0 true w (by decide +kernel) ?_
      clear ho hf
      go_enter Tryd.func37, Tryd.ntmps37
      go_wp2_with (first | ((with_reducible refine (I.out _).mono ?_); rintro e w' ⟨rfl, rfl⟩) | ((with_reducible refine (J.out _).mono ?_); rintro e w' ⟨rfl, rfl⟩) | (refine V.out.mono ?_; rintro e w' ⟨rfl, rfl⟩))
      exact bodyPost_ret (v := .tuple #[.int .i64 3, .int .i64 0, .bool true]) (by simp [results, Tryd.results37, go_sem]) rfl ⟨rfl, rfl⟩
    · rw [show viewV 3 4 = 4 from by decide +kernel] at V
      refine extract_yes 3 4 4 0 true w (by decide +kernel) ?_
      clear ho hf
      go_enter Tryd.func37, Tryd.ntmps37
      go_wp2_with (first | ((with_reducible refine (I.out _).mono ?_); rintro e w' ⟨rfl, rfl⟩) | ((with_reducible refine (J.out _).mono ?_); rintro e w' ⟨rfl, rfl⟩) | (refine V.out.mono ?_; rintro e w' ⟨rfl, rfl⟩))
      exact bodyPost_ret (v := .tuple #[.int .i64 4, .int .i64 0, .bool true]) (by simp [results, Tryd.results37, go_sem]) rfl ⟨rfl, rfl⟩
    · rw [show viewV 3 5 = 5 from by decide +kernel] at V
      refine extract_yes 3 5 5 0 true w (by decide +kernel) ?_
      clear ho hf
      go_enter Tryd.func37, Tryd.ntmps37
      go_wp2_with (first | ((with_reducible refine (I.out _).mono ?_); rintro e w' ⟨rfl, rfl⟩) | ((with_reducible refine (J.out _).mono ?_); rintro e w' ⟨rfl, rfl⟩) | (refine V.out.mono ?_; rintro e w' ⟨rfl, rfl⟩))
      exact bodyPost_ret (v := .tuple #[.int .i64 5, .int .i64 0, .bool true]) (by simp [results, Tryd.results37, go_sem]) rfl ⟨rfl, rfl⟩
    · rw [show viewV 3 6 = 6 from by decide +kernel] at V
      refine extract_yes 3 6 6 0 true w (by decide +kernel) ?_
      clear ho hf
      go_enter Tryd.func37, Tryd.ntmps37
      go_wp2_with (first | ((with_reducible refine (I.out _).mono ?_); rintro e w' ⟨rfl, rfl⟩) | ((with_reducible refine (J.out _).mono ?_); rintro e w' ⟨rfl, rfl⟩) | (refine V.out.mono ?_; rintro e w' ⟨rfl, rfl⟩))
      exact bodyPost_ret (v := .tuple #[.int .i64 6, .int .i64 0, .bool true]) (by simp [results, Tryd.results37, go_sem]) rfl ⟨rfl, rfl⟩
end Go.Proofs.YtblklbmolfddpaaDoor
