/- What the laws of layer 13 begin with: may, of, awake. -/
import Derived.Test.YtmdljmlnfihmcaaDriA
namespace Go.Proofs.Ytmdljmlnfihmcaa.Dri
open Go.RowKit Go.Proofs.Ytmdljmlnfihmcaa.CarP Go.Proofs.Ytmdljmlnfihmcaa.DriP Go.Proofs.Ytmdljmlnfihmcaa.Box
set_option linter.unusedVariables false

/-- a car as the law wants it -/
def my (c : K) : Bool := decide (0 ≤ c.p) && decide (c.p ≤ 248) && decide (-8 ≤ c.v) && decide (c.v ≤ 8)
theorem my_bd {c : K} (h : my c = true) : 0 ≤ c.p ∧ c.p ≤ 248 ∧ -8 ≤ c.v ∧ c.v ≤ 8 := by
  simp only [my, Bool.and_eq_true, decide_eq_true_eq] at h
  omega

theorem may_any (c : K) (w : World) : Calls Try.prog 9 #[Car.val c] w (Says w (.bool (my c))) := by
  obtain ⟨p, v, l⟩ := c
  unfold Car.val my
  simp only
  have key : (decide (0 ≤ p) = false ∧ (decide (0 ≤ p) && decide (p ≤ 248) && decide (-8 ≤ v) && decide (v ≤ 8)) = false) ∨
      (decide (0 ≤ p) = true ∧ decide (p ≤ 248) = false ∧ (decide (0 ≤ p) && decide (p ≤ 248) && decide (-8 ≤ v) && decide (v ≤ 8)) = false) ∨
      (decide (0 ≤ p) = true ∧ decide (p ≤ 248) = true ∧ decide (-8 ≤ v) = false ∧ (decide (0 ≤ p) && decide (p ≤ 248) && decide (-8 ≤ v) && decide (v ≤ 8)) = false) ∨
      (decide (0 ≤ p) = true ∧ decide (p ≤ 248) = true ∧ decide (-8 ≤ v) = true ∧ decide (v ≤ 8) = false ∧ (decide (0 ≤ p) && decide (p ≤ 248) && decide (-8 ≤ v) && decide (v ≤ 8)) = false) ∨
      (decide (0 ≤ p) = true ∧ decide (p ≤ 248) = true ∧ decide (-8 ≤ v) = true ∧ decide (v ≤ 8) = true ∧ (decide (0 ≤ p) && decide (p ≤ 248) && decide (-8 ≤ v) && decide (v ≤ 8)) = true) := by
    cases decide (0 ≤ p) <;> cases decide (p ≤ 248) <;> cases decide (-8 ≤ v) <;> cases decide (v ≤ 8) <;> simp
  rcases key with ⟨d0, E⟩ | ⟨d0, d1, E⟩ | ⟨d0, d1, d2, E⟩ | ⟨d0, d1, d2, d3, E⟩ | ⟨d0, d1, d2, d3, E⟩
  all_goals
    rw [E]
    clear E
    go_enter Try.func9, Try.ntmps9
    go_wp2
    go_ret
    exact ⟨rfl, below_box⟩

theorem ex_v1 : vl ⟨0, 0, 0⟩ 1 2 true = 1 ∧ br ⟨0, 0, 0⟩ 1 2 true = false := by decide +kernel
theorem ex_v2 : vl ⟨8, 1, 0⟩ 1 2 true = 0 ∧ br ⟨8, 1, 0⟩ 1 2 true = true := by decide +kernel
theorem ex_w : wt 0 1 false = 1 := by decide
theorem ex_t : th ⟨8, 0, 0⟩ 1 = true := by decide
theorem ex_y : sg (wy ⟨9, 0, 0⟩ 1) = -1 := by decide

set_option maxHeartbeats 1600000 in
theorem awake_any (w : World) : Calls Try.prog 8 #[] w (Says w (.bool true)) := by
  have F1 : Fl 1 := ⟨by decide, by decide⟩
  have H1 : Hid (∀ W, Calls Try.prog 10 #[.agg #[.int .i64 0, .int .i64 0, .int .i64 0], .int .i64 1, .int .i64 2, .bool true] W (Says W (.tuple #[.int .i64 1, .bool false]))) := Lib.hid fun W => by
    have := Vel_any ⟨0, 0, 0⟩ (by decide) (by decide) (by decide) (by decide) 1 F1 2 true W
    rwa [ex_v1.1, ex_v1.2] at this
  have H2 : Hid (∀ W, Calls Try.prog 10 #[.agg #[.int .i64 8, .int .i64 1, .int .i64 0], .int .i64 1, .int .i64 2, .bool true] W (Says W (.tuple #[.int .i64 0, .bool true]))) := Lib.hid fun W => by
    have := Vel_any ⟨8, 1, 0⟩ (by decide) (by decide) (by decide) (by decide) 1 F1 2 true W
    rwa [ex_v2.1, ex_v2.2] at this
  have H3 : Hid (∀ W, Calls Try.prog 13 #[.agg #[.int .i64 0, .int .i64 0, .int .i64 0], .int .i64 1, .bool false] W (Says W (.int .i64 1))) := Lib.hid fun W => by
    have := What_any ⟨0, 0, 0⟩ (by decide) (by decide) 1 ⟨by decide, by decide⟩ false W
    rwa [ex_w] at this
  have H4 : Hid (∀ W, Calls Try.prog 17 #[.agg #[.int .i64 8, .int .i64 0, .int .i64 0], .int .i64 1] W (Says W (.bool true))) := Lib.hid fun W => by
    have := There_any ⟨8, 0, 0⟩ (by decide) (by decide) 1 F1 W
    rwa [ex_t] at this
  have H5 : Hid (∀ W, Calls Try.prog 15 #[.agg #[.int .i64 9, .int .i64 0, .int .i64 0], .int .i64 1] W (Says W (.int .i64 (-1)))) := Lib.hid fun W => by
    have := Way_any ⟨9, 0, 0⟩ (by decide) (by decide) 1 F1 W
    rwa [ex_y] at this
  go_enter Try.func8, Try.ntmps8
  go_wp2_with (first
    | (go_at_call 10; (with_reducible refine (H1.out _).mono ?_); clear H1; rintro e w1 ⟨rfl, h1⟩)
    | (go_at_call 10; (with_reducible refine (H2.out _).mono ?_); clear H2; rintro e w2 ⟨rfl, h2⟩; have h12 := h1.trans (h2.mono h1.size); clear h1 h2)
    | (go_at_call 13; (with_reducible refine (H3.out _).mono ?_); clear H3; rintro e w3 ⟨rfl, h3⟩; have h13 := h12.trans (h3.mono h12.size))
    | (go_at_call 17; (with_reducible refine (H4.out _).mono ?_); clear H4; rintro e w4 ⟨rfl, h4⟩; have h14 := h13.trans (h4.mono h13.size))
    | (go_at_call 15; (with_reducible refine (H5.out _).mono ?_); clear H5; rintro e w5 ⟨rfl, h5⟩; have h15 := h14.trans (h5.mono h14.size)))
  go_ret
  exact ⟨rfl, h15⟩

end Go.Proofs.Ytmdljmlnfihmcaa.Dri
