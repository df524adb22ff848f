/- The walk of GateTells, where nothing is told. -/
import Derived.Test.YtaknnkmdfimcbaaGatB
import Derived.OpenShut
import Derived.Deep.Cut
namespace Go.Proofs.Ytaknnkmdfimcbaa.Walk
open Go.RowKit Go.ChangeShapes Go.Proofs.Ytaknnkmdfimcbaa.CarP Go.Proofs.Ytaknnkmdfimcbaa.LefP Go.Proofs.Ytaknnkmdfimcbaa.LokP Go.Proofs.Ytaknnkmdfimcbaa.GatP Go.Proofs.Ytaknnkmdfimcbaa.Gat Go.Proofs.Ytaknnkmdfimcbaa.Box Go.Proofs.Ytaknnkmdfimcbaa.Held
set_option linter.unusedVariables false

set_option maxRecDepth 100000 in
set_option maxHeartbeats 6400000 in
theorem gateTells_bad (w : World) (c : K) (l m : L) (g : G) (op pw bl : Bool) (dw mo : Int) (ways : (both c l = false) ∨ (both c l = true ∧ both c m = false) ∨ (both c l = true ∧ both c m = true ∧ g.w < 0) ∨ (both c l = true ∧ both c m = true ∧ ¬ g.w < 0 ∧ 200 < g.w) ∨ (both c l = true ∧ both c m = true ∧ ¬ g.w < 0 ∧ ¬ 200 < g.w ∧ g.t < 0) ∨ (both c l = true ∧ both c m = true ∧ ¬ g.w < 0 ∧ ¬ 200 < g.w ∧ ¬ g.t < 0 ∧ 1000000 < g.t)) :
    Calls Try.prog 3 #[Car.val c, Lef.val l, Lef.val m, Gat.val g, .bool op, .bool pw, .bool bl, .int .u8 dw, .int .i64 mo] w fun e w' => e = .returned (.bool true) ∧ Below w.heap.size w w' := by
  have HA : Hid (∀ W, Calls Try.prog 8 #[] W (Says W (.bool true))) := Lib.hid fun W => awake_any W
  have HM1 : Hid (∀ W, Calls Try.prog 9 #[Car.val c, Lef.val l] W (Says W (.bool (both c l)))) := Lib.hid fun W => may_any c l W
  have HM2 : Hid (∀ W, Calls Try.prog 9 #[Car.val c, Lef.val m] W (Says W (.bool (both c m)))) := Lib.hid fun W => may_any c m W
  have hj := Lib.hid (jfour w (Car.arr c) (Lef.arr l) (Lef.arr m) (Gat.arr g) 23 25 25 27)
  generalize both c l = one at *
  generalize both c m = two at *
  obtain ⟨p, v, k⟩ := c
  obtain ⟨o, d⟩ := l
  obtain ⟨mo', md⟩ := m
  obtain ⟨u, t⟩ := g
  unfold Car.val Car.arr Lef.val Lef.arr Gat.val Gat.arr at *
  simp only at *
  rcases ways with rfl | ⟨rfl, rfl⟩ | ⟨rfl, rfl, k0⟩ | ⟨rfl, rfl, k0, k1⟩ | ⟨rfl, rfl, k0, k1, k2⟩ | ⟨rfl, rfl, k0, k1, k2, k3⟩
  all_goals
      go_enter Try.func3, Try.ntmps3
      go_wp2_with (first
        | (go_at_call 8; (with_reducible refine (HA.out _).mono ?_); clear HA; rintro e w1 ⟨rfl, h1⟩; have hj1 := Lib.hid (hj.out.next h1); clear h1 hj; obtain ⟨a0, a1, a2⟩ := (hj1.out.bx 3 rfl).c3; obtain ⟨l0, l1⟩ := (hj1.out.bx 2 rfl).c2)
        | (go_at_call 9; (with_reducible refine (HM1.out _).mono ?_); clear HM1 a0 a1 a2 l0 l1; rintro e w2 ⟨rfl, h2⟩; have hj2 := Lib.hid (hj1.out.next h2); clear h2 hj1; obtain ⟨a0, a1, a2⟩ := (hj2.out.bx 3 rfl).c3; obtain ⟨n0, n1⟩ := (hj2.out.bx 1 rfl).c2)
        | (go_at_call 9; (with_reducible refine (HM2.out _).mono ?_); clear HM2 a0 a1 a2 n0 n1; rintro e w3 ⟨rfl, h3⟩; have hj3 := Lib.hid (hj2.out.next h3); clear h3 hj2; obtain ⟨g0, g1⟩ := (hj3.out.bx 0 rfl).c2))
      go_ret
      exact ⟨rfl, hj3.out.below⟩

end Go.Proofs.Ytaknnkmdfimcbaa.Walk
