/- The contract of Add's closure. -/
import Derived.Test.YtmkdgmkpgkeikaaSatA1
import Derived.IntWalk
import Derived.Deep.RegionWith
namespace Go.Proofs.Ytmkdgmkpgkeikaa.Sat
open Go.RowKit Go.Proofs.Ytmkdgmkpgkeikaa.SatP
set_option linter.unusedVariables false

theorem ret_int {k : IntKind} {a b : Int} (h : a = b) : Ending.returned (.int k a) = .returned (.int k b) := by rw [h]

/-- what Add's closure does: a number, and the cell that tells whether a bound was met -/
def WorkPost (w : World) (g : Nat) (m : Bool) (x : Int) (b : Bool) (e : Ending) (w' : World) : Prop :=
  e = .returned (.int .i64 x) ∧ Met w' g (m || b) ∧ w.grownBy w' (some g)

theorem Met.set {w : World} {g : Nat} {m : Bool} (h : Met w g m) (b : Bool) : Met (w.setCell ⟨g, 0, none⟩ (.bool b)) g b := one_setCell h
theorem grown_set {a w : World} {g : Nat} (h : a.grownBy w (some g)) (u : Value) : a.grownBy (w.setCell ⟨g, 0, none⟩ u) (some g) :=
  ⟨h.os, h.tape, h.output, by simpa [World.setCell] using h.size, fun i hi hne => (Below.heap_setCell w _ u i (by rintro rfl; exact hne rfl)).trans (h.block i hi hne)⟩

theorem met_as {w : World} {g : Nat} {m n : Bool} (h : Met w g m) (e : m = n) : Met w g n := e ▸ h

/-- while a closure works: the cell of 'met', two captured numbers -/
structure J (w0 w : World) (g : Nat) (m : Bool) (ga gb : Nat) (a b : Int) : Prop where
  met : Met w g m
  ca : w.cell? ⟨ga, 0, none⟩ = some (.int .i64 a)
  cb : w.cell? ⟨gb, 0, none⟩ = some (.int .i64 b)
  grown : w0.grownBy w (some g)
  na : ga ≠ g
  nb : gb ≠ g

theorem bounded_j {w0 w : World} {g : Nat} {m : Bool} {ga gb : Nat} {a b : Int} (n : Int) (h : Hid (J w0 w g m ga gb a b)) :
    Calls Try.prog 20 #[.int .i64 n, .pointer (some ⟨g, 0, none⟩)] w fun e w' => e = .returned (.int .i64 (bnd n)) ∧ Hid (J w0 w' g (m || metB n) ga gb a b) := by
  obtain ⟨h1, h2, h3, h4, h5, h6⟩ := h.out
  refine (bounded_any n g m w h1).mono ?_
  rintro e w' ⟨rfl, rfl⟩
  refine ⟨rfl, Lib.hid ⟨h1.set _, ?_, ?_, grown_set h4 _, h5, h6⟩⟩
  · rw [World.cell?_setCell_other _ _ _ _ (by intro e; injection e with e; exact h5 e.symm)]; exact h2
  · rw [World.cell?_setCell_other _ _ _ _ (by intro e; injection e with e; exact h6 e.symm)]; exact h3

set_option maxHeartbeats 1600000 in
theorem add1_any (a b : Int) (ga gb g : Nat) (m : Bool) (w : World) (hg : Met w g m) (ha : w.cell? ⟨ga, 0, none⟩ = some (.int .i64 a)) (hb : w.cell? ⟨gb, 0, none⟩ = some (.int .i64 b)) (na : ga ≠ g) (nb : gb ≠ g) :
    Calls Try.prog 19 #[.func (.func 20) #[] #[.pointer (some ⟨g, 0, none⟩)], .pointer (some ⟨ga, 0, none⟩), .pointer (some ⟨gb, 0, none⟩)] w (WorkPost w g m (addV a b) (addM a b)) := by
  have h1 := bnd_ge a
  have h2 := bnd_le a
  have h3 := bnd_ge b
  have h4 := bnd_le b
  have HJ : Hid (J w w.drew g m ga gb a b) := Lib.hid ⟨hg, ha, hb, ⟨rfl, rfl, rfl, Nat.le_refl _, fun _ _ _ => rfl⟩, na, nb⟩
  have HW : Hid (IntKind.i64.wrap (bnd a + bnd b) = bnd a + bnd b) := Lib.hid (IntWalk.i64_in _ (by omega))
  clear hg na nb
  go_enter Try.func19, Try.ntmps19
  go_wp2
  go_region_with (go_at_call 20; refine (bounded_j _ ‹Hid (J _ _ _ _ _ _ _ _)›).mono ?_; rintro e w' ⟨rfl, hj⟩; have ca := hj.out.ca; have cb := hj.out.cb)
  all_goals
    go_wp2
    go_ret
    have hj := ‹Hid (J _ _ _ _ _ _ _ _)›.out
    exact ⟨ret_int (by rw [HW.out]; rfl), met_as hj.met (by rw [HW.out]; unfold addM; cases m <;> cases metB a <;> cases metB b <;> rfl), hj.grown⟩

end Go.Proofs.Ytmkdgmkpgkeikaa.Sat
