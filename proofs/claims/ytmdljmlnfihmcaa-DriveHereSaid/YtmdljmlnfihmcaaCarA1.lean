/- Contracts of car's functions: those that Step, Top reach. -/
import Derived.Test.YtmdljmlnfihmcaaBox
import Derived.Test.YtmdljmlnfihmcaaCarP
namespace Go.Proofs.Ytmdljmlnfihmcaa.Car
open Go.RowKit Go.Proofs.Ytmdljmlnfihmcaa.CarP Go.Proofs.Ytmdljmlnfihmcaa.Box
set_option linter.unusedVariables false

/-- a car as a value -/
def val (c : K) : Value := .agg #[.int .i64 c.p, .int .i64 c.v, .int .i64 c.l]

theorem bounded_any (n l h : Int) (w : World) : Calls Try.prog 33 #[.int .i64 n, .int .i64 l, .int .i64 h] w fun e w' => e = .returned (.int .i64 (cl n l h)) ∧ w = w' := by
  have m1 : ∀ W, (Builtin.min_ #[3, 3] 3 #[.int .i64 n, .int .i64 h]).run Try.prog W = .ok (.int .i64 (min n h)) W := fun W => by
    rw [run_min_int2]; congr 2; split <;> omega
  have m2 : ∀ W, (Builtin.max_ #[3, 3] 3 #[.int .i64 l, .int .i64 (min n h)]).run Try.prog W = .ok (.int .i64 (cl n l h)) W := fun W => by
    rw [run_max_int2]; congr 2; unfold cl; split <;> omega
  generalize min n h = k at *
  generalize cl n l h = b at *
  go_enter Try.func33, Try.ntmps33
  go_wp2
  go_ret
  exact ⟨rfl, rfl⟩

theorem Top_any (f : Int) (w : World) : Calls Try.prog 26 #[.int .i64 f] w fun e w' => e = .returned (.int .i64 (tp f)) ∧ w = w' := by
  have h1 : 2 ≤ cl f 2 32 := cl_ge
  have h2 : cl f 2 32 ≤ 32 := cl_le (by decide)
  have HB := Lib.hid (fun W => bounded_any f 2 32 W)
  unfold tp
  generalize cl f 2 32 = n at *
  have e1 : IntKind.i64.wrap (n - 1) = n - 1 := IntWalk.i64_in _ (by omega)
  have e2 : IntKind.i64.wrap ((n - 1) * 8) = (n - 1) * 8 := IntWalk.i64_in _ (by omega)
  go_enter Try.func26, Try.ntmps26
  go_wp2_with (go_at_call 33; refine (HB.out _).mono ?_; rintro e w' ⟨rfl, rfl⟩)
  go_ret
  exact ⟨rfl, rfl⟩

theorem mayGo_any (c : K) (v0 : -8 ≤ c.v) (v1 : c.v ≤ 8) (vel : Int) (w : World) : Calls Try.prog 27 #[val c, .int .i64 vel] w (Says w (.int .i64 (mg c.v vel))) := by
  obtain ⟨p, v, l⟩ := c
  simp only at v0 v1
  have H1 := Lib.hid (fun W => bounded_any vel (v - 1) (v + 1) W)
  have H2 := Lib.hid (fun W => bounded_any (cl vel (v - 1) (v + 1)) (-8) 8 W)
  have e1 : IntKind.i64.wrap (v - 1) = v - 1 := IntWalk.i64_in _ (by omega)
  have e2 : IntKind.i64.wrap (v + 1) = v + 1 := IntWalk.i64_in _ (by omega)
  unfold val mg
  simp only
  generalize cl (cl vel (v - 1) (v + 1)) (-8) 8 = y at *
  generalize cl vel (v - 1) (v + 1) = x at *
  go_enter Try.func27, Try.ntmps27
  go_wp2_with (first
    | (go_at_call 33; refine (H1.out _).mono ?_; clear H1; rintro e w' ⟨rfl, rfl⟩)
    | (go_at_call 33; refine (H2.out _).mono ?_; rintro e w' ⟨rfl, rfl⟩))
  go_ret
  exact ⟨rfl, below_box⟩

end Go.Proofs.Ytmdljmlnfihmcaa.Car
