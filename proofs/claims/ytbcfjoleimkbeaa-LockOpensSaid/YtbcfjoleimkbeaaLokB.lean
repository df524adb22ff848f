/- Contracts of layer 12's may; awake. -/
import Derived.Test.YtbcfjoleimkbeaaLokA
namespace Go.Proofs.Ytbcfjoleimkbeaa.Lok
open Go.RowKit Go.Proofs.Ytbcfjoleimkbeaa.CarP Go.Proofs.Ytbcfjoleimkbeaa.LefP Go.Proofs.Ytbcfjoleimkbeaa.LokP Go.Proofs.Ytbcfjoleimkbeaa.Box
set_option linter.unusedVariables false

theorem may_any (c : K) (l : L) (w : World) : Calls Try.prog 8 #[Car.val c, Lef.val l] w (Says w (.bool (both c l))) := by
  obtain ⟨p, v, k⟩ := c
  obtain ⟨o, d⟩ := l
  unfold Car.val Lef.val both
  simp only
  have key : (decide (0 ≤ p) = false ∧ (decide (0 ≤ p) && decide (p ≤ 1000000) && decide (-8 ≤ v) && decide (v ≤ 8) && decide (1 ≤ d) && decide (d ≤ 16) && decide (0 ≤ o) && decide (o ≤ d)) = false) ∨
      (decide (0 ≤ p) = true ∧ decide (p ≤ 1000000) = false ∧ (decide (0 ≤ p) && decide (p ≤ 1000000) && decide (-8 ≤ v) && decide (v ≤ 8) && decide (1 ≤ d) && decide (d ≤ 16) && decide (0 ≤ o) && decide (o ≤ d)) = false) ∨
      (decide (0 ≤ p) = true ∧ decide (p ≤ 1000000) = true ∧ decide (-8 ≤ v) = false ∧ (decide (0 ≤ p) && decide (p ≤ 1000000) && decide (-8 ≤ v) && decide (v ≤ 8) && decide (1 ≤ d) && decide (d ≤ 16) && decide (0 ≤ o) && decide (o ≤ d)) = false) ∨
      (decide (0 ≤ p) = true ∧ decide (p ≤ 1000000) = true ∧ decide (-8 ≤ v) = true ∧ decide (v ≤ 8) = false ∧ (decide (0 ≤ p) && decide (p ≤ 1000000) && decide (-8 ≤ v) && decide (v ≤ 8) && decide (1 ≤ d) && decide (d ≤ 16) && decide (0 ≤ o) && decide (o ≤ d)) = false) ∨
      (decide (0 ≤ p) = true ∧ decide (p ≤ 1000000) = true ∧ decide (-8 ≤ v) = true ∧ decide (v ≤ 8) = true ∧ decide (1 ≤ d) = false ∧ (decide (0 ≤ p) && decide (p ≤ 1000000) && decide (-8 ≤ v) && decide (v ≤ 8) && decide (1 ≤ d) && decide (d ≤ 16) && decide (0 ≤ o) && decide (o ≤ d)) = false) ∨
      (decide (0 ≤ p) = true ∧ decide (p ≤ 1000000) = true ∧ decide (-8 ≤ v) = true ∧ decide (v ≤ 8) = true ∧ decide (1 ≤ d) = true ∧ decide (d ≤ 16) = false ∧ (decide (0 ≤ p) && decide (p ≤ 1000000) && decide (-8 ≤ v) && decide (v ≤ 8) && decide (1 ≤ d) && decide (d ≤ 16) && decide (0 ≤ o) && decide (o ≤ d)) = false) ∨
      (decide (0 ≤ p) = true ∧ decide (p ≤ 1000000) = true ∧ decide (-8 ≤ v) = true ∧ decide (v ≤ 8) = true ∧ decide (1 ≤ d) = true ∧ decide (d ≤ 16) = true ∧ decide (0 ≤ o) = false ∧ (decide (0 ≤ p) && decide (p ≤ 1000000) && decide (-8 ≤ v) && decide (v ≤ 8) && decide (1 ≤ d) && decide (d ≤ 16) && decide (0 ≤ o) && decide (o ≤ d)) = false) ∨
      (decide (0 ≤ p) = true ∧ decide (p ≤ 1000000) = true ∧ decide (-8 ≤ v) = true ∧ decide (v ≤ 8) = true ∧ decide (1 ≤ d) = true ∧ decide (d ≤ 16) = true ∧ decide (0 ≤ o) = true ∧ decide (o ≤ d) = false ∧ (decide (0 ≤ p) && decide (p ≤ 1000000) && decide (-8 ≤ v) && decide (v ≤ 8) && decide (1 ≤ d) && decide (d ≤ 16) && decide (0 ≤ o) && decide (o ≤ d)) = false) ∨
      (decide (0 ≤ p) = true ∧ decide (p ≤ 1000000) = true ∧ decide (-8 ≤ v) = true ∧ decide (v ≤ 8) = true ∧ decide (1 ≤ d) = true ∧ decide (d ≤ 16) = true ∧ decide (0 ≤ o) = true ∧ decide (o ≤ d) = true ∧ (decide (0 ≤ p) && decide (p ≤ 1000000) && decide (-8 ≤ v) && decide (v ≤ 8) && decide (1 ≤ d) && decide (d ≤ 16) && decide (0 ≤ o) && decide (o ≤ d)) = true) := by
    by_cases h0 : 0 ≤ p
    case neg =>
      exact .inl ⟨by simpa using h0, by simp [h0]⟩
    by_cases h1 : p ≤ 1000000
    case neg =>
      exact .inr <| .inl ⟨by simpa using h0, by simpa using h1, by simp [h1]⟩
    by_cases h2 : -8 ≤ v
    case neg =>
      exact .inr <| .inr <| .inl ⟨by simpa using h0, by simpa using h1, by simpa using h2, by simp [h2]⟩
    by_cases h3 : v ≤ 8
    case neg =>
      exact .inr <| .inr <| .inr <| .inl ⟨by simpa using h0, by simpa using h1, by simpa using h2, by simpa using h3, by simp [h3]⟩
    by_cases h4 : 1 ≤ d
    case neg =>
      exact .inr <| .inr <| .inr <| .inr <| .inl ⟨by simpa using h0, by simpa using h1, by simpa using h2, by simpa using h3, by simpa using h4, by simp [h4]⟩
    by_cases h5 : d ≤ 16
    case neg =>
      exact .inr <| .inr <| .inr <| .inr <| .inr <| .inl ⟨by simpa using h0, by simpa using h1, by simpa using h2, by simpa using h3, by simpa using h4, by simpa using h5, by simp [h5]⟩
    by_cases h6 : 0 ≤ o
    case neg =>
      exact .inr <| .inr <| .inr <| .inr <| .inr <| .inr <| .inl ⟨by simpa using h0, by simpa using h1, by simpa using h2, by simpa using h3, by simpa using h4, by simpa using h5, by simpa using h6, by simp [h6]⟩
    by_cases h7 : o ≤ d
    case neg =>
      exact .inr <| .inr <| .inr <| .inr <| .inr <| .inr <| .inr <| .inl ⟨by simpa using h0, by simpa using h1, by simpa using h2, by simpa using h3, by simpa using h4, by simpa using h5, by simpa using h6, by simpa using h7, by simp [h7]⟩
    exact .inr <| .inr <| .inr <| .inr <| .inr <| .inr <| .inr <| .inr ⟨by simpa using h0, by simpa using h1, by simpa using h2, by simpa using h3, by simpa using h4, by simpa using h5, by simpa using h6, by simpa using h7, by simp [h0, h1, h2, h3, h4, h5, h6, h7]⟩
  rcases key with ⟨d0, E⟩ | ⟨d0, d1, E⟩ | ⟨d0, d1, d2, E⟩ | ⟨d0, d1, d2, d3, E⟩ | ⟨d0, d1, d2, d3, d4, E⟩ | ⟨d0, d1, d2, d3, d4, d5, E⟩ | ⟨d0, d1, d2, d3, d4, d5, d6, E⟩ | ⟨d0, d1, d2, d3, d4, d5, d6, d7, E⟩ | ⟨d0, d1, d2, d3, d4, d5, d6, d7, E⟩
  all_goals
    rw [E]
    clear E
    go_enter Try.func8, Try.ntmps8
    go_wp2
    go_ret
    exact ⟨rfl, below_two⟩

set_option maxHeartbeats 1600000 in
theorem awake_any (w : World) : Calls Try.prog 7 #[] w (Says w (.bool true)) := by
  have H1 : Hid (∀ W, Calls Try.prog 9 #[.agg #[.int .i64 8, .int .i64 0, .int .i64 0], .agg #[.int .i64 1, .int .i64 2], .int .i64 5, .bool false, .int .i64 1] W (Says W (.tuple #[.int .i64 0, .bool true, .int .i64 1]))) := Lib.hid fun W => Does_any ⟨8, 0, 0⟩ (by decide) ⟨1, 2⟩ 5 false 1 W
  have H2 : Hid (∀ W, Calls Try.prog 9 #[.agg #[.int .i64 8, .int .i64 0, .int .i64 0], .agg #[.int .i64 0, .int .i64 2], .int .i64 5, .bool false, .int .i64 1] W (Says W (.tuple #[.int .i64 5, .bool false, .int .i64 0]))) := Lib.hid fun W => Does_any ⟨8, 0, 0⟩ (by decide) ⟨0, 2⟩ 5 false 1 W
  have H3 : Hid (∀ W, Calls Try.prog 12 #[.agg #[.int .i64 8, .int .i64 0, .int .i64 0], .agg #[.int .i64 1, .int .i64 2]] W (Says W (.bool true))) := Lib.hid fun W => Safe_any ⟨8, 0, 0⟩ (by decide) ⟨1, 2⟩ W
  go_enter Try.func7, Try.ntmps7
  go_wp2_with (first
    | (go_at_call 9; (with_reducible refine (H1.out _).mono ?_); clear H1; rintro e w1 ⟨rfl, h1⟩)
    | (go_at_call 9; (with_reducible refine (H2.out _).mono ?_); clear H2; rintro e w2 ⟨rfl, h2⟩; have h12 := h1.trans (h2.mono h1.size); clear h1 h2)
    | (go_at_call 12; (with_reducible refine (H3.out _).mono ?_); clear H3; rintro e w3 ⟨rfl, h3⟩; have h13 := h12.trans (h3.mono h12.size)))
  go_ret
  exact ⟨rfl, h13⟩

end Go.Proofs.Ytbcfjoleimkbeaa.Lok
