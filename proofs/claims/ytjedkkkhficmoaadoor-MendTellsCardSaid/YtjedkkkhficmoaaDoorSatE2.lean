/- What sat's functions answer. -/
import Derived.Test.YtjedkkkhficmoaaDoorSatB0
import Derived.BigQuiet
import Derived.Deep.QuietTactic
namespace Go.Proofs.YtjedkkkhficmoaaDoor.Sat
open Go.RowKit Go.Proofs.YtjedkkkhficmoaaDoor.SatP
set_option linter.unusedVariables false

theorem Met.new (w : World) (b : Bool) : Met (w.alloc (.cells #[.bool b] 4)) w.heap.size b := heap_alloc_new w _
theorem work_below {w w' : World} (o : Obj) (h : (w.alloc o).grownBy w' (some w.heap.size)) : Below w.heap.size w w' :=
  ((Below.refl _ _).alloc (Nat.le_refl _) o).trans ⟨h.os, h.tape, h.output, h.size, fun i hi => h.block i (by simp; omega) (by intro e; injection e with e; omega)⟩

theorem below_drewN {B : Nat} {a w : World} (h : Below B a w) (n : Nat) : Below B a (w.drewN n) := ⟨h.os, h.tape, h.output, h.size, h.block⟩

/-- what Add, Mul and Sum answer -/
def Pair (w : World) (x : Int) (b : Bool) (e : Ending) (w' : World) : Prop := e = .returned (.tuple #[.int .i64 x, .bool b]) ∧ Below w.heap.size w w'

theorem two_below (w w' : World) (o o' : Obj) (h : Below ((w.alloc o).alloc o').heap.size ((w.alloc o).alloc o') w') : Below w.heap.size w w' :=
  (((Below.refl _ _).alloc (Nat.le_refl _) o).alloc (by simp) o').trans (h.mono (by simp; omega))

end Go.Proofs.YtjedkkkhficmoaaDoor.Sat
