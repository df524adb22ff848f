/- Contracts of plan's inner functions: bounded, Stop, the speeds that may come. -/
import Derived.Test.YtmdljmlnfihmcaaRows
import Derived.Test.YtmdljmlnfihmcaaPlaP
import Derived.WalkKit
import Derived.ProofKit
import Derived.Lib.Hide
import Derived.IntWalk
import Derived.RangeFuncFrom
import Derived.RangeFuncNested
import Derived.RangeFuncBound
import Derived.RangeFuncCalls
import Derived.RangeFuncLeaves
import Derived.Shelf.Abstract
import Derived.Shelf.RegionOpen
import Derived.OwnWalkIn
import Derived.TacticsInMore
import Derived.LoopNIn
import Derived.LoopIn
namespace Go.Proofs.Ytmdljmlnfihmcaa.Pla
open Go.RowKit Go.Shelf Go.Proofs.Ytmdljmlnfihmcaa.PlaP
set_option linter.unusedVariables false

theorem ret_int {k : IntKind} {a b : Int} (h : a = b) : Ending.returned (.int k a) = .returned (.int k b) := by rw [h]
/-- what a call that only makes memory answers -/
def Says (w : World) (v : Value) (e : Ending) (w' : World) : Prop := e = .returned v ∧ Below w.heap.size w w'

theorem bounded_any (n l h : Int) (w : World) : Calls Try.prog 28 #[.int .i64 n, .int .i64 l, .int .i64 h] w fun e w' => e = .returned (.int .i64 (cl n l h)) ∧ w = w' := by
  have m1 : ∀ W, (Builtin.min_ #[3, 3] 3 #[.int .i64 n, .int .i64 h]).run Try.prog W = .ok (.int .i64 (min n h)) W := fun W => by
    rw [run_min_int2]; congr 2; split <;> omega
  have m2 : ∀ W, (Builtin.max_ #[3, 3] 3 #[.int .i64 l, .int .i64 (min n h)]).run Try.prog W = .ok (.int .i64 (cl n l h)) W := fun W => by
    rw [run_max_int2]; congr 2; unfold cl; split <;> omega
  generalize min n h = k at *
  generalize cl n l h = b at *
  go_enter Try.func28, Try.ntmps28
  go_wp2
  go_ret
  exact ⟨rfl, rfl⟩

theorem stop_nums {v : Int} (v0 : 0 ≤ v) (v8 : v ≤ 8) : IntKind.i64.wrap (v - 1) = v - 1 ∧ IntKind.i64.wrap (v * (v - 1)) = v * (v - 1) ∧ IntKind.i64.wrap ((v * (v - 1)).tdiv 2) = st v := by
  have : ∀ k : Fin 9, IntKind.i64.wrap ((k.val : Int) - 1) = (k.val : Int) - 1 ∧ IntKind.i64.wrap ((k.val : Int) * ((k.val : Int) - 1)) = (k.val : Int) * ((k.val : Int) - 1) ∧ IntKind.i64.wrap (((k.val : Int) * ((k.val : Int) - 1)).tdiv 2) = st (k.val : Int) := by decide +kernel
  have h := this ⟨v.toNat, by omega⟩
  simpa only [Int.toNat_of_nonneg v0] using h

theorem Stop_any (s : Int) (w : World) : Calls Try.prog 30 #[.int .i64 s] w fun e w' => e = .returned (.int .i64 (St s)) ∧ w = w' := by
  have e := stop_nums (v := cl s 0 8) cl_ge (cl_le (by omega))
  have HB := Lib.hid (fun W => bounded_any s 0 8 W)
  unfold St
  generalize cl s 0 8 = v at *
  go_enter Try.func30, Try.ntmps30
  go_wp2_with (go_at_call 28; refine (HB.out _).mono ?_; rintro e w' ⟨rfl, rfl⟩)
  go_ret
  exact ⟨rfl, rfl⟩

end Go.Proofs.Ytmdljmlnfihmcaa.Pla
