/- What sat's closures share: a number, and the cell that tells whether a bound was met. -/
import Derived.Test.YtjedkkkhficmoaaDoorSatA1
import Derived.IntWalk
import Derived.Deep.RegionWith
namespace Go.Proofs.YtjedkkkhficmoaaDoor.Sat
open Go.RowKit Go.Proofs.YtjedkkkhficmoaaDoor.SatP
set_option linter.unusedVariables false

theorem ret_int {k : IntKind} {a b : Int} (h : a = b) : Ending.returned (.int k a) = .returned (.int k b) := by rw [h]

/-- what Add's closure does: a number, and the cell that tells whether a bound was met -/
def WorkPost (w : World) (g : Nat) (m : Bool) (x : Int) (b : Bool) (e : Ending) (w' : World) : Prop :=
  e = .returned (.int .i64 x) ∧ Met w' g (m || b) ∧ w.grownBy w' (some g)

theorem Met.set {w : World} {g : Nat} {m : Bool} (h : Met w g m) (b : Bool) : Met (w.setCell ⟨g, 0, none⟩ (.bool b)) g b := one_setCell h
theorem grown_set {a w : World} {g : Nat} (h : a.grownBy w (some g)) (u : Value) : a.grownBy (w.setCell ⟨g, 0, none⟩ u) (some g) :=
  ⟨h.os, h.tape, h.output, by simpa [World.setCell] using h.size, fun i hi hne => (Below.heap_setCell w _ u i (by rintro rfl; exact hne rfl)).trans (h.block i hi hne)⟩

theorem met_as {w : World} {g : Nat} {m n : Bool} (h : Met w g m) (e : m = n) : Met w g n := e ▸ h

/-- while a closure works: the cell of 'met', two captured numbers -/
structure J (w0 w : World) (g : Nat) (m : Bool) (ga gb : Nat) (a b : Int) : Prop where
  met : Met w g m
  ca : w.cell? ⟨ga, 0, none⟩ = some (.int .i64 a)
  cb : w.cell? ⟨gb, 0, none⟩ = some (.int .i64 b)
  grown : w0.grownBy w (some g)
  na : ga ≠ g
  nb : gb ≠ g

theorem bounded_j {w0 w : World} {g : Nat} {m : Bool} {ga gb : Nat} {a b : Int} (n : Int) (h : Hid (J w0 w g m ga gb a b)) :
    Calls Tryd.prog 56 #[.int .i64 n, .pointer (some ⟨g, 0, none⟩)] w fun e w' => e = .returned (.int .i64 (bnd n)) ∧ Hid (J w0 w' g (m || metB n) ga gb a b) := by
  obtain ⟨h1, h2, h3, h4, h5, h6⟩ := h.out
  refine (bounded_any n g m w h1).mono ?_
  rintro e w' ⟨rfl, rfl⟩
  refine ⟨rfl, Lib.hid ⟨h1.set _, ?_, ?_, grown_set h4 _, h5, h6⟩⟩
  · rw [World.cell?_setCell_other _ _ _ _ (by intro e; injection e with e; exact h5 e.symm)]; exact h2
  · rw [World.cell?_setCell_other _ _ _ _ (by intro e; injection e with e; exact h6 e.symm)]; exact h3

end Go.Proofs.YtjedkkkhficmoaaDoor.Sat
