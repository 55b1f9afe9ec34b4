/- Contracts: the closure that reads the token that begins with a byte. -/
import Derived.Test.YtanofnhiopagaaaDoorRd
namespace Go.Proofs.YtanofnhiopagaaaDoor
open Go.RowKit

section
variable {b B : Nat} {w : World} {Q : World → Prop}
theorem RBox.cs (hx : RBox w b B) : w.cell? ⟨B, 0, none⟩ = some (.pointer (some ⟨b, 0, none⟩)) := by simp [World.cell?, hx.s]
theorem RBox.cw (hx : RBox w b B) : w.cell? ⟨B + 1, 0, none⟩ = some (.func (.func 47) #[] #[.pointer (some ⟨B, 0, none⟩)]) := by simp [World.cell?, hx.wd]
theorem RBox.cy (hx : RBox w b B) : w.cell? ⟨B + 2, 0, none⟩ = some (.func (.func 48) #[] #[.pointer (some ⟨B, 0, none⟩)]) := by simp [World.cell?, hx.sy]

set_option maxRecDepth 100000 in
set_option maxHeartbeats 400000 in
theorem read_number (hx : RBox w b B) (c n : Int) (t : ByteArray) (hc : digitB c = true) (h : Calls Tryd.prog 51 #[.pointer (some ⟨b, 0, none⟩)] w fun e w' => e = .returned (.tuple #[.int .i64 n, .string t]) ∧ Q w') :
    Calls Tryd.prog 50 #[.int .u8 c, .pointer (some ⟨B, 0, none⟩), .pointer (some ⟨B + 1, 0, none⟩), .pointer (some ⟨B + 2, 0, none⟩)] w fun e w' => e = .returned (.tuple #[.int .i64 n, .string t]) ∧ Q w' := by
  have cs := hx.cs
  have D := isDigit_any c w
  rw [hc] at D
  have D' := Lib.hid D
  have H := Lib.hid h
  clear D h
  go_enter Tryd.func50, Tryd.ntmps50
  go_wp2_with fail
  refine D'.out.mono ?_
  rintro e w' ⟨rfl, rfl⟩
  go_wp2_with fail
  refine H.out.mono ?_
  rintro e w' ⟨rfl, hq⟩
  go_wp2_with fail
  go_ret2
  exact ⟨rfl, hq⟩

set_option maxRecDepth 100000 in
set_option maxHeartbeats 400000 in
theorem read_word (hx : RBox w b B) (c n : Int) (t : ByteArray) (hc : digitB c = false) (hd : wordB c = true) (h : Calls Tryd.prog 47 #[.pointer (some ⟨B, 0, none⟩)] w fun e w' => e = .returned (.tuple #[.int .i64 n, .string t]) ∧ Q w') :
    Calls Tryd.prog 50 #[.int .u8 c, .pointer (some ⟨B, 0, none⟩), .pointer (some ⟨B + 1, 0, none⟩), .pointer (some ⟨B + 2, 0, none⟩)] w fun e w' => e = .returned (.tuple #[.int .i64 n, .string t]) ∧ Q w' := by
  have cw := hx.cw
  have D := isDigit_any c w
  rw [hc] at D
  have D' := Lib.hid D
  have E := inWord_any c w
  rw [hd] at E
  have E' := Lib.hid E
  have H := Lib.hid h
  clear D h E
  go_enter Tryd.func50, Tryd.ntmps50
  go_wp2_with fail
  refine D'.out.mono ?_
  rintro e w' ⟨rfl, rfl⟩
  go_wp2_with fail
  refine E'.out.mono ?_
  rintro e w' ⟨rfl, rfl⟩
  go_wp2_with fail
  refine H.out.mono ?_
  rintro e w' ⟨rfl, hq⟩
  go_wp2_with fail
  go_ret2
  exact ⟨rfl, hq⟩

set_option maxRecDepth 100000 in
set_option maxHeartbeats 400000 in
theorem read_str (hx : RBox w b B) (t : ByteArray) (h : Calls Tryd.prog 52 #[.pointer (some ⟨b, 0, none⟩)] w fun e w' => e = .returned (.string t) ∧ Q w') :
    Calls Tryd.prog 50 #[.int .u8 34, .pointer (some ⟨B, 0, none⟩), .pointer (some ⟨B + 1, 0, none⟩), .pointer (some ⟨B + 2, 0, none⟩)] w fun e w' => e = .returned (.tuple #[.int .i64 5, .string t]) ∧ Q w' := by
  have cs := hx.cs
  have D := isDigit_any 34 w
  rw [show digitB 34 = false by decide] at D
  have D' := Lib.hid D
  have E := inWord_any 34 w
  rw [show wordB 34 = false by decide] at E
  have E' := Lib.hid E
  have H := Lib.hid h
  clear D h E
  go_enter Tryd.func50, Tryd.ntmps50
  go_wp2_with fail
  refine D'.out.mono ?_
  rintro e w' ⟨rfl, rfl⟩
  go_wp2_with fail
  refine E'.out.mono ?_
  rintro e w' ⟨rfl, rfl⟩
  go_wp2_with fail
  refine H.out.mono ?_
  rintro e w' ⟨rfl, hq⟩
  go_wp2_with fail
  go_ret2
  exact ⟨rfl, hq⟩

set_option maxRecDepth 100000 in
set_option maxHeartbeats 400000 in
theorem read_symbol (hx : RBox w b B) (c n : Int) (t : ByteArray) (hc : digitB c = false) (hd : wordB c = false) (h34 : c ≠ 34) (h39 : c ≠ 39) (h : Calls Tryd.prog 48 #[.pointer (some ⟨B, 0, none⟩)] w fun e w' => e = .returned (.tuple #[.int .i64 n, .string t]) ∧ Q w') :
    Calls Tryd.prog 50 #[.int .u8 c, .pointer (some ⟨B, 0, none⟩), .pointer (some ⟨B + 1, 0, none⟩), .pointer (some ⟨B + 2, 0, none⟩)] w fun e w' => e = .returned (.tuple #[.int .i64 n, .string t]) ∧ Q w' := by
  have cy := hx.cy
  have j1 : (c == 34) = false := by simpa using h34
  have j2 : (c == 39) = false := by simpa using h39
  have D := isDigit_any c w
  rw [hc] at D
  have D' := Lib.hid D
  have E := inWord_any c w
  rw [hd] at E
  have E' := Lib.hid E
  have H := Lib.hid h
  clear D h E
  go_enter Tryd.func50, Tryd.ntmps50
  go_wp2_with fail
  refine D'.out.mono ?_
  rintro e w' ⟨rfl, rfl⟩
  go_wp2_with fail
  refine E'.out.mono ?_
  rintro e w' ⟨rfl, rfl⟩
  go_wp2_with fail
  refine H.out.mono ?_
  rintro e w' ⟨rfl, hq⟩
  go_wp2_with fail
  go_ret2
  exact ⟨rfl, hq⟩
end
end Go.Proofs.YtanofnhiopagaaaDoor
