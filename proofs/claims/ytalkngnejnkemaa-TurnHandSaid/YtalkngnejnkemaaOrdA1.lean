/- The contract of Without. -/
import Derived.Test.YtalkngnejnkemaaOrdA0
namespace Go.Proofs.Ytalkngnejnkemaa.Ord
open Go.RowKit Go.Proofs.Ytalkngnejnkemaa.OrdP
set_option linter.unusedVariables false

theorem Without_any (b : Nat) (c : Int) (w : World) (hl : b < 18446744073709551616) : Calls Try.prog 14 #[.int .u64 b, .int .i64 c] w fun e w' => e = .returned (.int .u64 (wo b c : Nat)) ∧ w = w' := by
  have HB := Lib.hid (fun W => bit_any c W)
  have h1 : bits .andNot .u64 b (bt c : Nat) = ((wo b c : Nat) : Int) := u64_andNot_nat _ _ hl (bt_lt c)
  generalize bt c = d at *
  generalize wo b c = x at *
  go_enter Try.func14, Try.ntmps14
  go_wp2_with (go_at_call 24; refine (HB.out _).mono ?_; rintro e w' ⟨rfl, rfl⟩)
  go_ret
  exact ⟨rfl, rfl⟩

end Go.Proofs.Ytalkngnejnkemaa.Ord
