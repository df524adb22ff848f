/- Two facts for the contract of the document's own answer, Check. -/
import Derived.Test.YtkicijgempccfaaConR
namespace Go.Proofs.Ytkicijgempccfaa.Con
open Go.RowKit Go.Proofs.Ytkicijgempccfaa.RatP Go.Proofs.Ytkicijgempccfaa.SatP Go.Proofs.Ytkicijgempccfaa.ConP Go.Proofs.Ytkicijgempccfaa.Rat
set_option linter.unusedVariables false

/-- the first of the last numbers that may not be -/
theorem first_last (c : C) : c.speed ≤ 0 ∨ (0 < c.speed ∧ 9 ≤ c.speed) ∨ (0 < c.speed ∧ c.speed < 9 ∧ (c.width ≤ 0 ∨ (0 < c.width ∧ 17 ≤ c.width) ∨ (0 < c.width ∧ c.width < 17 ∧ (wi c.dwell 1 200 = false ∨ (wi c.dwell 1 200 = true ∧ (wi c.good 1 200 = false ∨ (wi c.good 1 200 = true ∧ (wi c.dead 1 200 = false ∨ (wi c.dead 1 200 = true ∧ (wi c.turn 1 200 = false ∨ (wi c.turn 1 200 = true ∧ (c.lag < 0 ∨ (0 ≤ c.lag ∧ 9 ≤ c.lag) ∨ (0 ≤ c.lag ∧ c.lag < 9 ∧ (c.cost < 0 ∨ (0 ≤ c.cost ∧ 101 ≤ c.cost) ∨ (0 ≤ c.cost ∧ c.cost < 101 ∧ (c.full < 0 ∨ (0 ≤ c.full ∧ 1048576 < c.full) ∨ (0 ≤ c.full ∧ c.full ≤ 1048576))))))))))))))))) := by
  cases wi c.dwell 1 200 <;> cases wi c.good 1 200 <;> cases wi c.dead 1 200 <;> cases wi c.turn 1 200 <;> simp only [Bool.false_eq_true, false_and, true_and, or_false, or_true, reduceCtorEq, false_or, and_true] <;> omega

theorem count_take_succ (l : List Int) (k : Nat) (x j : Int) (hk : l[k]? = some x) : (l.take (k + 1)).count j = (l.take k).count j + if x = j then 1 else 0 := by
  rw [List.take_add_one, hk, List.count_append]
  congr 1
  show List.count j [x] = _
  rw [List.count_cons]
  by_cases h : x = j <;> simp [h]

end Go.Proofs.Ytkicijgempccfaa.Con
