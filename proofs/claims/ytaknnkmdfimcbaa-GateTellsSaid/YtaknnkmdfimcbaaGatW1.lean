/- The walk of GateTells. -/
import Derived.Test.YtaknnkmdfimcbaaGatW1b
import Derived.Test.YtaknnkmdfimcbaaGatW1g
namespace Go.Proofs.Ytaknnkmdfimcbaa.Walk
open Go.RowKit Go.ChangeShapes Go.Proofs.Ytaknnkmdfimcbaa.CarP Go.Proofs.Ytaknnkmdfimcbaa.LefP Go.Proofs.Ytaknnkmdfimcbaa.LokP Go.Proofs.Ytaknnkmdfimcbaa.GatP Go.Proofs.Ytaknnkmdfimcbaa.Gat Go.Proofs.Ytaknnkmdfimcbaa.Box Go.Proofs.Ytaknnkmdfimcbaa.Held
set_option linter.unusedVariables false

theorem gateTells_walk (w : World) (c : K) (l m : L) (g : G) (op pw bl : Bool) (dw mo : Int) (w7 : (Lit.int .u8 dw).wf = true) (w8 : (Lit.int .i64 mo).wf = true) :
    Calls Try.prog 3 #[Car.val c, Lef.val l, Lef.val m, Gat.val g, .bool op, .bool pw, .bool bl, .int .u8 dw, .int .i64 mo] w fun e w' => e = .returned (.bool true) ∧ Below w.heap.size w w' := by
  by_cases h : both c l = true ∧ both c m = true ∧ ¬ g.w < 0 ∧ ¬ 200 < g.w ∧ ¬ g.t < 0 ∧ ¬ 1000000 < g.t
  · obtain ⟨h1, h2, h3, h4, h5, h6⟩ := h
    exact gateTells_good w c l m g op pw bl dw mo w7 h1 h2 h3 h4 h5 h6
  · refine gateTells_bad w c l m g op pw bl dw mo ?_
    revert h
    cases both c l
    · exact fun _ => .inl rfl
    · cases both c m
      · exact fun _ => .inr (.inl ⟨rfl, rfl⟩)
      · simp only [true_and, Bool.true_eq_false, false_or]; omega

end Go.Proofs.Ytaknnkmdfimcbaa.Walk
