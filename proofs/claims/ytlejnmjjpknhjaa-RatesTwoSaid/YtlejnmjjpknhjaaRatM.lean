/- What the laws of layer 4 begin with. -/
import Derived.Test.YtlejnmjjpknhjaaRatL
namespace Go.Proofs.Ytlejnmjjpknhjaa.Rat
open Go.RowKit Go.Proofs.Ytlejnmjjpknhjaa.RatP
set_option linter.unusedVariables false

theorem box_cells {W : World} {X : Nat} {r : R} (h : Box W X r) : W.cell? ⟨X, 0, none⟩ = some (.int .i64 r.idle) ∧ W.cell? ⟨X, 1, none⟩ = some (.int .i64 r.move) ∧ W.cell? ⟨X, 2, none⟩ = some (.int .i64 r.gain) ∧ W.cell? ⟨X, 3, none⟩ = some (.int .i64 r.pull) ∧ W.cell? ⟨X, 4, none⟩ = some (.int .i64 r.door) ∧ W.cell? ⟨X, 5, none⟩ = some (.int .i64 r.weight) :=
  ⟨h.c0, h.c1, h.c2, h.c3, h.c4, h.c5⟩
theorem J0.new (w : World) (r : R) : Hid (J0 w (w.alloc (.cells #[.int .i64 r.idle, .int .i64 r.move, .int .i64 r.gain, .int .i64 r.pull, .int .i64 r.door, .int .i64 r.weight] 23)) w.heap.size r) := Lib.hid ⟨says_box, Box.new w r⟩
theorem awake_j {r : R} {w W : World} {X : Nat} (h : Hid (J0 w W X r)) : Calls Try.prog 11 #[] W fun e W' => e = .returned (.bool true) ∧ Hid (J0 w W' X r) :=
  (awake_any W).mono fun e W' ⟨h1, h2⟩ => ⟨h1, Lib.hid (h.out.next h2)⟩
theorem check_yes {r : R} (hr : Hid r.May) {w W : World} {X : Nat} (h : Hid (J0 w W X r)) : Calls Try.prog 13 #[val r] W fun e W' => e = .returned (.bool true) ∧ Hid (J0 w W' X r) :=
  (Check_any r W).mono fun e W' ⟨h1, h2⟩ => ⟨by rw [(mayB_iff r).2 hr.out] at h1; exact h1, Lib.hid (h.out.next h2)⟩
theorem check_no {r : R} (hr : Hid (mayB r = false)) {w W : World} {X : Nat} (h : Hid (J0 w W X r)) : Calls Try.prog 13 #[val r] W fun e W' => e = .returned (.bool false) ∧ Hid (J0 w W' X r) :=
  (Check_any r W).mono fun e W' ⟨h1, h2⟩ => ⟨by rw [hr.out] at h1; exact h1, Lib.hid (h.out.next h2)⟩
theorem new_no {r : R} (hr : Hid (mayB r = false)) {w W : World} {X : Nat} (h : Hid (J0 w W X r)) : Calls Try.prog 12 #[val r] W fun e W' => e = .returned (.pointer none) ∧ Hid (J0 w W' X r) :=
  (New_no r hr.out W).mono fun e W' ⟨h1, h2⟩ => ⟨h1, Lib.hid (h.out.next h2)⟩
/-- a table is made -/
def Got (w : World) (X : Nat) (r : R) (e : Ending) (W' : World) : Prop := ∃ B, e = .returned (.pointer (some ⟨B, 0, none⟩)) ∧ Hid (J w W' X B r) ∧ Hid (Fresh W' B r)
theorem new_yes {r : R} (hr : Hid r.May) {w W : World} {X : Nat} (h : Hid (J0 w W X r)) : Calls Try.prog 12 #[val r] W (Got w X r) :=
  (New_yes r hr.out W).mono fun e W' ⟨B, h1, h2, h3, h4⟩ => ⟨B, h1, Lib.hid ⟨(h.out.next h3).below, (h.out.next h3).box, .inl h4, Nat.le_trans h.out.below.size h2, fun e => by have := h.out.box.lt; omega⟩, Lib.hid h4⟩
theorem j0Draw {r : R} (hr : Hid r.May) {w W : World} {X : Nat} (what l d : Int) (h : Hid (J0 w W X r)) :
    Calls Try.prog 17 #[val r, .int .i64 what, .int .i64 l, .int .i64 d] W fun e W' => e = .returned (.int .i64 (dr r what l d)) ∧ Hid (J0 w W' X r) :=
  (Draw_any r hr.out what l d W).mono fun e W' ⟨h1, h2⟩ => ⟨h1, Lib.hid (h.out.next h2)⟩
theorem j0Gives {r : R} (hr : Hid r.May) {w W : World} {X : Nat} (what l d : Int) (h : Hid (J0 w W X r)) :
    Calls Try.prog 20 #[val r, .int .i64 what, .int .i64 l, .int .i64 d] W fun e W' => e = .returned (.int .i64 (gv r what l d)) ∧ Hid (J0 w W' X r) :=
  (Gives_any r hr.out what l d W).mono fun e W' ⟨h1, h2⟩ => ⟨h1, Lib.hid (h.out.next h2)⟩
theorem j0RefDraw {r : R} (hr : Hid r.May) {w W : World} {X : Nat} (what l d : Int) (h : Hid (J0 w W X r)) :
    Calls Try.prog 18 #[val r, .int .i64 what, .int .i64 l, .int .i64 d] W fun e W' => e = .returned (.int .i64 (dr r what l d)) ∧ Hid (J0 w W' X r) :=
  (refDraw_any r hr.out what l d W).mono fun e W' ⟨h1, h2⟩ => ⟨h1, Lib.hid (h.out.next h2)⟩
theorem j0RefGives {r : R} (hr : Hid r.May) {w W : World} {X : Nat} (what l d : Int) (h : Hid (J0 w W X r)) :
    Calls Try.prog 21 #[val r, .int .i64 what, .int .i64 l, .int .i64 d] W fun e W' => e = .returned (.int .i64 (gv r what l d)) ∧ Hid (J0 w W' X r) :=
  (refGives_any r hr.out what l d W).mono fun e W' ⟨h1, h2⟩ => ⟨h1, Lib.hid (h.out.next h2)⟩
theorem j0Of {r : R} {w W : World} {X : Nat} (h : Hid (J0 w W X r)) : Calls Try.prog 19 #[val r] W fun e W' => e = .returned (val r) ∧ Hid (J0 w W' X r) :=
  (of_any r W).mono fun e W' ⟨h1, h2⟩ => ⟨h1, Lib.hid (h.out.next h2)⟩

end Go.Proofs.Ytlejnmjjpknhjaa.Rat
