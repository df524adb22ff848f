/- The walk of RatesCheck. -/
import Derived.Test.YtlejnmjjpknhjaaRatW1
namespace Go.Proofs.Ytlejnmjjpknhjaa.Walk
open Go.RowKit Go.ChangeShapes Go.Proofs.Ytlejnmjjpknhjaa.RatP Go.Proofs.Ytlejnmjjpknhjaa.Rat
set_option linter.unusedVariables false


set_option maxRecDepth 100000 in
set_option maxHeartbeats 6400000 in
theorem ratesCheck_walk (w : World) (r : R) : Calls Try.prog 3 #[val r] w fun e w' => e = .returned (.bool true) ∧ Below w.heap.size w w' := by
  have H0 := J0.new w r
  unfold val
  by_cases hm : mayB r = false
  · have hf := first_no hm
    have HR := Lib.hid hm
    clear hm
    rcases hf with q0 | ⟨q0, q1⟩ | ⟨q0, q1, q2 | ⟨q2, q3⟩ | ⟨q2, q3, q4 | ⟨q4, q5⟩ | ⟨q4, q5, q6 | ⟨q6, q7⟩ | ⟨q6, q7, q8 | ⟨q8, q9⟩ | ⟨q8, q9, q10 | ⟨q10, q11⟩⟩⟩⟩⟩⟩
    all_goals
      go_enter Try.func3, Try.ntmps3
      go_wp2_with (first
        | (go_at_call 11; refine (awake_j H0).mono ?_; clear H0; rintro e w1 ⟨rfl, h1⟩; obtain ⟨a0, a1, a2, a3, a4, a5⟩ := box_cells h1.out.box)
        | (go_at_call 12; refine (new_no HR h1).mono ?_; clear h1 a0 a1 a2 a3 a4 a5; rintro e w2 ⟨rfl, h2⟩; obtain ⟨b0, b1, b2, b3, b4, b5⟩ := box_cells h2.out.box)
        | (go_at_call 13; refine (check_no HR h2).mono ?_; clear h2 b0 b1 b2 b3 b4 b5; rintro e w3 ⟨rfl, h3⟩)
        | (go_at_call 14; refine (Peak_nil _ _ _).mono ?_; rintro e w' ⟨rfl, rfl⟩)
        | (go_at_call 15; refine (Most_nil _).mono ?_; rintro e w' ⟨rfl, rfl⟩)
        | (go_at_call 16; refine (Laid_nil _).mono ?_; rintro e w' ⟨rfl, rfl⟩))
      go_ret
      exact ⟨rfl, h3.out.below⟩
  · have hr : r.May := (mayB_iff r).1 (by simpa using hm)
    have HR : Hid r.May := Lib.hid hr
    have q0 := hr.i0
    have q1 := hr.i1
    have q2 := hr.m0
    have q3 := hr.m1
    have q4 := hr.g0
    have q5 := hr.g1
    have q6 := hr.p0
    have q7 := hr.p1
    have q8 := hr.d0
    have q9 := hr.d1
    have q10 := hr.w0
    have q11 := hr.w1
    clear hm hr
    go_enter Try.func3, Try.ntmps3
    go_wp2_with (first
      | (go_at_call 11; refine (awake_j H0).mono ?_; clear H0; rintro e w1 ⟨rfl, h1⟩; obtain ⟨a0, a1, a2, a3, a4, a5⟩ := box_cells h1.out.box)
      | (go_at_call 12; refine (new_yes HR h1).mono ?_; clear h1 a0 a1 a2 a3 a4 a5; rintro e w2 ⟨B, rfl, h2, hF⟩; obtain ⟨b0, b1, b2, b3, b4, b5⟩ := box_cells h2.out.box; have h2' : Hid (J0 w w2 w.heap.size r) := Lib.hid ⟨h2.out.below, h2.out.box⟩)
      | (go_at_call 13; refine (check_yes HR h2').mono ?_; clear h2 h2' hF b0 b1 b2 b3 b4 b5; rintro e w3 ⟨rfl, h3⟩))
    go_ret
    exact ⟨rfl, h3.out.below⟩

end Go.Proofs.Ytlejnmjjpknhjaa.Walk
