/- The contract of feed's bounded. -/
import Derived.Test.YthgfjikhbgippaaDoorHeld
import Derived.Test.YthgfjikhbgippaaDoorFedP
namespace Go.Proofs.YthgfjikhbgippaaDoor.Fed
open Go.RowKit Go.Proofs.YthgfjikhbgippaaDoor.FedP Go.Proofs.YthgfjikhbgippaaDoor.Box Go.Proofs.YthgfjikhbgippaaDoor.Held
set_option linter.unusedVariables false

theorem bounded_any (n lo hi : Int) (w : World) : Calls Tryd.prog 34 #[.int .i64 n, .int .i64 lo, .int .i64 hi] w fun e w' => e = .returned (.int .i64 (bo n lo hi)) ∧ w = w' := by
  unfold bo
  have m1 : ∀ W, (Builtin.min_ #[3, 3] 3 #[.int .i64 n, .int .i64 hi]).run Tryd.prog W = .ok (.int .i64 (min n hi)) W := fun W => by
    rw [run_min_int2]; congr 2; split <;> omega
  have m2 : ∀ W, (Builtin.max_ #[3, 3] 3 #[.int .i64 lo, .int .i64 (min n hi)]).run Tryd.prog W = .ok (.int .i64 (max lo (min n hi))) W := fun W => by
    rw [run_max_int2]; congr 2; split <;> omega
  generalize max lo (min n hi) = y at *
  generalize min n hi = x at *
  go_enter Tryd.func34, Tryd.ntmps34
  go_wp2
  go_ret
  exact ⟨rfl, rfl⟩

end Go.Proofs.YthgfjikhbgippaaDoor.Fed
