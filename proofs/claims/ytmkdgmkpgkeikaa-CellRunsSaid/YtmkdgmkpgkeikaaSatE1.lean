/- The contract of sat.Add. -/
import Derived.Test.YtmkdgmkpgkeikaaSatB1
import Derived.BigQuiet
import Derived.Deep.QuietTactic
namespace Go.Proofs.Ytmkdgmkpgkeikaa.Sat
open Go.RowKit Go.Proofs.Ytmkdgmkpgkeikaa.SatP
set_option linter.unusedVariables false

theorem Met.new (w : World) (b : Bool) : Met (w.alloc (.cells #[.bool b] 4)) w.heap.size b := heap_alloc_new w _
theorem work_below {w w' : World} (o : Obj) (h : (w.alloc o).grownBy w' (some w.heap.size)) : Below w.heap.size w w' :=
  ((Below.refl _ _).alloc (Nat.le_refl _) o).trans ⟨h.os, h.tape, h.output, h.size, fun i hi => h.block i (by simp; omega) (by intro e; injection e with e; omega)⟩

theorem below_drewN {B : Nat} {a w : World} (h : Below B a w) (n : Nat) : Below B a (w.drewN n) := ⟨h.os, h.tape, h.output, h.size, h.block⟩

/-- what Add, Mul and Sum answer -/
def Pair (w : World) (x : Int) (b : Bool) (e : Ending) (w' : World) : Prop := e = .returned (.tuple #[.int .i64 x, .bool b]) ∧ Below w.heap.size w w'

set_option maxHeartbeats 800000 in
theorem within_add (a b : Int) (ga gb : Nat) (w : World) (ha : w.cell? ⟨ga, 0, none⟩ = some (.int .i64 a)) (hb : w.cell? ⟨gb, 0, none⟩ = some (.int .i64 b)) (na : ga < w.heap.size) (nb : gb < w.heap.size) :
    Calls Try.prog 18 #[.func (.func 19) #[] #[.pointer (some ⟨ga, 0, none⟩), .pointer (some ⟨gb, 0, none⟩)]] w (Pair w (addV a b) (addM a b)) := by
  have hmf : ∀ (fn : Fn) (first cap : Array Value) (w : World), (Instr.makeFunc fn first cap).run Try.prog w = .ok (.func fn first cap) w := fun _ _ _ _ => rfl
  have hw1 := add1_any a b ga gb w.heap.size false (w.alloc (.cells #[.bool false] 4)) (Met.new w false) (by rw [World.cell?_alloc_past _ _ _ na]; exact ha) (by rw [World.cell?_alloc_past _ _ _ nb]; exact hb) (by omega) (by omega)
  have HW := Lib.hid hw1
  clear hw1
  go_enter Try.func18, Try.ntmps18
  go_wp2_with (go_at_call 19; refine HW.out.mono ?_; rintro e w1 ⟨rfl, hm1, hg1⟩; have hc1 := hm1.cell; have HM := Lib.hid hm1; clear hm1)
  go_quiet (fail)
  go_wp2
  go_ret2
  exact ⟨rfl, below_drewN (work_below _ hg1) _⟩

theorem two_below (w w' : World) (o o' : Obj) (h : Below ((w.alloc o).alloc o').heap.size ((w.alloc o).alloc o') w') : Below w.heap.size w w' :=
  (((Below.refl _ _).alloc (Nat.le_refl _) o).alloc (by simp) o').trans (h.mono (by simp; omega))

/-- sat.Add -/
theorem Add_any (a b : Int) (w : World) : Calls Try.prog 17 #[.int .i64 a, .int .i64 b] w (Pair w (addV a b) (addM a b)) := by
  have hmf : ∀ (fn : Fn) (first cap : Array Value) (w : World), (Instr.makeFunc fn first cap).run Try.prog w = .ok (.func fn first cap) w := fun _ _ _ _ => rfl
  have hw1 := within_add a b w.heap.size (w.heap.size + 1) ((w.alloc (.cells #[.int .i64 a] 2)).alloc (.cells #[.int .i64 b] 2))
    (by rw [World.cell?_alloc_past _ _ _ (by simp), World.cell?_alloc_at _ _ _ _ rfl]; rfl) (by rw [World.cell?_alloc_at _ _ _ _ (by simp)]; rfl) (by simp; omega) (by simp)
  have HW := Lib.hid hw1
  clear hw1
  go_enter Try.func17, Try.ntmps17
  go_wp2_with (go_at_call 18; refine HW.out.mono ?_; rintro e w1 ⟨rfl, hd1⟩)
  go_ret2
  exact ⟨rfl, two_below _ _ _ _ hd1⟩

end Go.Proofs.Ytmkdgmkpgkeikaa.Sat
