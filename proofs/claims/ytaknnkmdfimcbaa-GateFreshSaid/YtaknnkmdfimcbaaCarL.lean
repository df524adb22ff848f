/- Contracts of car's functions: above, Level. -/
import Derived.Test.YtaknnkmdfimcbaaCarV
namespace Go.Proofs.Ytaknnkmdfimcbaa.Car
open Go.RowKit Go.Proofs.Ytaknnkmdfimcbaa.CarP Go.Proofs.Ytaknnkmdfimcbaa.Box
set_option linter.unusedVariables false

theorem above_any (c : K) (hp : 0 ≤ c.p) (w : World) : Calls Try.prog 21 #[val c] w (Says w (.int .i64 (c.p % 8))) := by
  obtain ⟨p, v, l⟩ := c
  simp only at hp
  have e1 : p.tmod 8 = p % 8 := Int.tmod_eq_emod_of_nonneg hp
  have e2 : IntKind.i64.wrap (p % 8) = p % 8 := IntWalk.i64_in _ (by omega)
  have e3 : IntKind.i64.wrap (p % 8 + 8) = p % 8 + 8 := IntWalk.i64_in _ (by omega)
  have e4 : (p % 8 + 8).tmod 8 = p % 8 := by rw [Int.tmod_eq_emod_of_nonneg (by omega)]; omega
  unfold val
  go_enter Try.func21, Try.ntmps21
  go_wp2
  go_ret
  exact ⟨rfl, below_box⟩

theorem Level_any (c : K) (hp : 0 ≤ c.p) (w : World) : Calls Try.prog 15 #[val c] w (Says w (.bool (decide (c.v = 0) && decide (c.p % 8 = 0)))) := by
  have HA : Hid (∀ W, Calls Try.prog 21 #[val c] W (Says W (.int .i64 (c.p % 8)))) := Lib.hid fun W => above_any c hp W
  obtain ⟨p, v, l⟩ := c
  unfold val at *
  simp only at HA hp ⊢
  generalize p % 8 = a at *
  by_cases h : v = 0
  · subst h
    by_cases ha : a = 0
    · subst ha
      go_enter Try.func15, Try.ntmps15
      go_wp2_with (go_at_call 21; refine (HA.out _).mono ?_; rintro e w1 ⟨rfl, h1⟩)
      go_ret
      exact ⟨ret_bool (by simp), below_more below_box h1 (Nat.le_refl _)⟩
    · have ea : (a == 0) = false := by simpa using ha
      go_enter Try.func15, Try.ntmps15
      go_wp2_with (go_at_call 21; refine (HA.out _).mono ?_; rintro e w1 ⟨rfl, h1⟩)
      go_ret
      exact ⟨ret_bool (by simp [ha]), below_more below_box h1 (Nat.le_refl _)⟩
  · have ev : (v == 0) = false := by simpa using h
    go_enter Try.func15, Try.ntmps15
    go_wp2
    go_ret
    exact ⟨ret_bool (by simp [h]), below_box⟩

end Go.Proofs.Ytaknnkmdfimcbaa.Car
