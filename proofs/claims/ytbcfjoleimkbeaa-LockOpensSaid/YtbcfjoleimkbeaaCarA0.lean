/- Contracts of car's functions: those that Step, Level, Top reach. -/
import Derived.Test.YtbcfjoleimkbeaaBox
import Derived.Test.YtbcfjoleimkbeaaCarP
namespace Go.Proofs.Ytbcfjoleimkbeaa.Car
open Go.RowKit Go.Proofs.Ytbcfjoleimkbeaa.CarP Go.Proofs.Ytbcfjoleimkbeaa.Box
set_option linter.unusedVariables false

/-- a car as a value -/
def val (c : K) : Value := .agg #[.int .i64 c.p, .int .i64 c.v, .int .i64 c.l]

theorem bounded_any (n l h : Int) (w : World) : Calls Try.prog 23 #[.int .i64 n, .int .i64 l, .int .i64 h] w fun e w' => e = .returned (.int .i64 (cl n l h)) ∧ w = w' := by
  have m1 : ∀ W, (Builtin.min_ #[3, 3] 3 #[.int .i64 n, .int .i64 h]).run Try.prog W = .ok (.int .i64 (min n h)) W := fun W => by
    rw [run_min_int2]; congr 2; split <;> omega
  have m2 : ∀ W, (Builtin.max_ #[3, 3] 3 #[.int .i64 l, .int .i64 (min n h)]).run Try.prog W = .ok (.int .i64 (cl n l h)) W := fun W => by
    rw [run_max_int2]; congr 2; unfold cl; split <;> omega
  generalize min n h = k at *
  generalize cl n l h = b at *
  go_enter Try.func23, Try.ntmps23
  go_wp2
  go_ret
  exact ⟨rfl, rfl⟩

theorem Top_any (f : Int) (w : World) : Calls Try.prog 20 #[.int .i64 f] w fun e w' => e = .returned (.int .i64 (tp f)) ∧ w = w' := by
  have h1 : 2 ≤ cl f 2 32 := cl_ge
  have h2 : cl f 2 32 ≤ 32 := cl_le (by decide)
  have HB := Lib.hid (fun W => bounded_any f 2 32 W)
  unfold tp
  generalize cl f 2 32 = n at *
  have e1 : IntKind.i64.wrap (n - 1) = n - 1 := IntWalk.i64_in _ (by omega)
  have e2 : IntKind.i64.wrap ((n - 1) * 8) = (n - 1) * 8 := IntWalk.i64_in _ (by omega)
  go_enter Try.func20, Try.ntmps20
  go_wp2_with (go_at_call 23; refine (HB.out _).mono ?_; rintro e w' ⟨rfl, rfl⟩)
  go_ret
  exact ⟨rfl, rfl⟩

theorem above_any (c : K) (hp : 0 ≤ c.p) (w : World) : Calls Try.prog 18 #[val c] w (Says w (.int .i64 (c.p % 8))) := by
  obtain ⟨p, v, l⟩ := c
  simp only at hp
  have e1 : p.tmod 8 = p % 8 := Int.tmod_eq_emod_of_nonneg hp
  have e2 : IntKind.i64.wrap (p % 8) = p % 8 := IntWalk.i64_in _ (by omega)
  have e3 : IntKind.i64.wrap (p % 8 + 8) = p % 8 + 8 := IntWalk.i64_in _ (by omega)
  have e4 : (p % 8 + 8).tmod 8 = p % 8 := by rw [Int.tmod_eq_emod_of_nonneg (by omega)]; omega
  unfold val
  go_enter Try.func18, Try.ntmps18
  go_wp2
  go_ret
  exact ⟨rfl, below_box⟩

theorem Level_any (c : K) (hp : 0 ≤ c.p) (w : World) : Calls Try.prog 13 #[val c] w (Says w (.bool (decide (c.v = 0) && decide (c.p % 8 = 0)))) := by
  have HA : Hid (∀ W, Calls Try.prog 18 #[val c] W (Says W (.int .i64 (c.p % 8)))) := Lib.hid fun W => above_any c hp W
  obtain ⟨p, v, l⟩ := c
  unfold val at *
  simp only at HA hp ⊢
  generalize p % 8 = a at *
  by_cases h : v = 0
  · subst h
    by_cases ha : a = 0
    · subst ha
      go_enter Try.func13, Try.ntmps13
      go_wp2_with (go_at_call 18; refine (HA.out _).mono ?_; rintro e w1 ⟨rfl, h1⟩)
      go_ret
      exact ⟨ret_bool (by simp), below_more below_box h1 (Nat.le_refl _)⟩
    · have ea : (a == 0) = false := by simpa using ha
      go_enter Try.func13, Try.ntmps13
      go_wp2_with (go_at_call 18; refine (HA.out _).mono ?_; rintro e w1 ⟨rfl, h1⟩)
      go_ret
      exact ⟨ret_bool (by simp [ha]), below_more below_box h1 (Nat.le_refl _)⟩
  · have ev : (v == 0) = false := by simpa using h
    go_enter Try.func13, Try.ntmps13
    go_wp2
    go_ret
    exact ⟨ret_bool (by simp [h]), below_box⟩

theorem mayGo_any (c : K) (v0 : -8 ≤ c.v) (v1 : c.v ≤ 8) (vel : Int) (w : World) : Calls Try.prog 21 #[val c, .int .i64 vel] w (Says w (.int .i64 (mg c.v vel))) := by
  obtain ⟨p, v, l⟩ := c
  simp only at v0 v1
  have H1 := Lib.hid (fun W => bounded_any vel (v - 1) (v + 1) W)
  have H2 := Lib.hid (fun W => bounded_any (cl vel (v - 1) (v + 1)) (-8) 8 W)
  have e1 : IntKind.i64.wrap (v - 1) = v - 1 := IntWalk.i64_in _ (by omega)
  have e2 : IntKind.i64.wrap (v + 1) = v + 1 := IntWalk.i64_in _ (by omega)
  unfold val mg
  simp only
  generalize cl (cl vel (v - 1) (v + 1)) (-8) 8 = y at *
  generalize cl vel (v - 1) (v + 1) = x at *
  go_enter Try.func21, Try.ntmps21
  go_wp2_with (first
    | (go_at_call 23; refine (H1.out _).mono ?_; clear H1; rintro e w' ⟨rfl, rfl⟩)
    | (go_at_call 23; refine (H2.out _).mono ?_; rintro e w' ⟨rfl, rfl⟩))
  go_ret
  exact ⟨rfl, below_box⟩

end Go.Proofs.Ytbcfjoleimkbeaa.Car
