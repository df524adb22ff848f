/- What the laws of layer 14 begin with: may, awake. -/
import Derived.Test.YtaknnkmdfimcbaaGatA
namespace Go.Proofs.Ytaknnkmdfimcbaa.Gat
open Go.RowKit Go.Proofs.Ytaknnkmdfimcbaa.CarP Go.Proofs.Ytaknnkmdfimcbaa.LefP Go.Proofs.Ytaknnkmdfimcbaa.LokP Go.Proofs.Ytaknnkmdfimcbaa.GatP Go.Proofs.Ytaknnkmdfimcbaa.Box Go.Proofs.Ytaknnkmdfimcbaa.Held
set_option linter.unusedVariables false

theorem may_any (c : K) (l : L) (w : World) : Calls Try.prog 9 #[Car.val c, Lef.val l] w (Says w (.bool (both c l))) := by
  obtain ⟨p, v, k⟩ := c
  obtain ⟨o, d⟩ := l
  unfold Car.val Lef.val both
  simp only
  have key : (decide (0 ≤ p) = false ∧ (decide (0 ≤ p) && decide (p ≤ 1000000) && decide (-8 ≤ v) && decide (v ≤ 8) && decide (1 ≤ d) && decide (d ≤ 16) && decide (0 ≤ o) && decide (o ≤ d)) = false) ∨
      (decide (0 ≤ p) = true ∧ decide (p ≤ 1000000) = false ∧ (decide (0 ≤ p) && decide (p ≤ 1000000) && decide (-8 ≤ v) && decide (v ≤ 8) && decide (1 ≤ d) && decide (d ≤ 16) && decide (0 ≤ o) && decide (o ≤ d)) = false) ∨
      (decide (0 ≤ p) = true ∧ decide (p ≤ 1000000) = true ∧ decide (-8 ≤ v) = false ∧ (decide (0 ≤ p) && decide (p ≤ 1000000) && decide (-8 ≤ v) && decide (v ≤ 8) && decide (1 ≤ d) && decide (d ≤ 16) && decide (0 ≤ o) && decide (o ≤ d)) = false) ∨
      (decide (0 ≤ p) = true ∧ decide (p ≤ 1000000) = true ∧ decide (-8 ≤ v) = true ∧ decide (v ≤ 8) = false ∧ (decide (0 ≤ p) && decide (p ≤ 1000000) && decide (-8 ≤ v) && decide (v ≤ 8) && decide (1 ≤ d) && decide (d ≤ 16) && decide (0 ≤ o) && decide (o ≤ d)) = false) ∨
      (decide (0 ≤ p) = true ∧ decide (p ≤ 1000000) = true ∧ decide (-8 ≤ v) = true ∧ decide (v ≤ 8) = true ∧ decide (1 ≤ d) = false ∧ (decide (0 ≤ p) && decide (p ≤ 1000000) && decide (-8 ≤ v) && decide (v ≤ 8) && decide (1 ≤ d) && decide (d ≤ 16) && decide (0 ≤ o) && decide (o ≤ d)) = false) ∨
      (decide (0 ≤ p) = true ∧ decide (p ≤ 1000000) = true ∧ decide (-8 ≤ v) = true ∧ decide (v ≤ 8) = true ∧ decide (1 ≤ d) = true ∧ decide (d ≤ 16) = false ∧ (decide (0 ≤ p) && decide (p ≤ 1000000) && decide (-8 ≤ v) && decide (v ≤ 8) && decide (1 ≤ d) && decide (d ≤ 16) && decide (0 ≤ o) && decide (o ≤ d)) = false) ∨
      (decide (0 ≤ p) = true ∧ decide (p ≤ 1000000) = true ∧ decide (-8 ≤ v) = true ∧ decide (v ≤ 8) = true ∧ decide (1 ≤ d) = true ∧ decide (d ≤ 16) = true ∧ decide (0 ≤ o) = false ∧ (decide (0 ≤ p) && decide (p ≤ 1000000) && decide (-8 ≤ v) && decide (v ≤ 8) && decide (1 ≤ d) && decide (d ≤ 16) && decide (0 ≤ o) && decide (o ≤ d)) = false) ∨
      (decide (0 ≤ p) = true ∧ decide (p ≤ 1000000) = true ∧ decide (-8 ≤ v) = true ∧ decide (v ≤ 8) = true ∧ decide (1 ≤ d) = true ∧ decide (d ≤ 16) = true ∧ decide (0 ≤ o) = true ∧ decide (o ≤ d) = false ∧ (decide (0 ≤ p) && decide (p ≤ 1000000) && decide (-8 ≤ v) && decide (v ≤ 8) && decide (1 ≤ d) && decide (d ≤ 16) && decide (0 ≤ o) && decide (o ≤ d)) = false) ∨
      (decide (0 ≤ p) = true ∧ decide (p ≤ 1000000) = true ∧ decide (-8 ≤ v) = true ∧ decide (v ≤ 8) = true ∧ decide (1 ≤ d) = true ∧ decide (d ≤ 16) = true ∧ decide (0 ≤ o) = true ∧ decide (o ≤ d) = true ∧ (decide (0 ≤ p) && decide (p ≤ 1000000) && decide (-8 ≤ v) && decide (v ≤ 8) && decide (1 ≤ d) && decide (d ≤ 16) && decide (0 ≤ o) && decide (o ≤ d)) = true) := by
    by_cases h0 : 0 ≤ p
    case neg =>
      exact .inl ⟨by simpa using h0, by simp [h0]⟩
    by_cases h1 : p ≤ 1000000
    case neg =>
      exact .inr <| .inl ⟨by simpa using h0, by simpa using h1, by simp [h1]⟩
    by_cases h2 : -8 ≤ v
    case neg =>
      exact .inr <| .inr <| .inl ⟨by simpa using h0, by simpa using h1, by simpa using h2, by simp [h2]⟩
    by_cases h3 : v ≤ 8
    case neg =>
      exact .inr <| .inr <| .inr <| .inl ⟨by simpa using h0, by simpa using h1, by simpa using h2, by simpa using h3, by simp [h3]⟩
    by_cases h4 : 1 ≤ d
    case neg =>
      exact .inr <| .inr <| .inr <| .inr <| .inl ⟨by simpa using h0, by simpa using h1, by simpa using h2, by simpa using h3, by simpa using h4, by simp [h4]⟩
    by_cases h5 : d ≤ 16
    case neg =>
      exact .inr <| .inr <| .inr <| .inr <| .inr <| .inl ⟨by simpa using h0, by simpa using h1, by simpa using h2, by simpa using h3, by simpa using h4, by simpa using h5, by simp [h5]⟩
    by_cases h6 : 0 ≤ o
    case neg =>
      exact .inr <| .inr <| .inr <| .inr <| .inr <| .inr <| .inl ⟨by simpa using h0, by simpa using h1, by simpa using h2, by simpa using h3, by simpa using h4, by simpa using h5, by simpa using h6, by simp [h6]⟩
    by_cases h7 : o ≤ d
    case neg =>
      exact .inr <| .inr <| .inr <| .inr <| .inr <| .inr <| .inr <| .inl ⟨by simpa using h0, by simpa using h1, by simpa using h2, by simpa using h3, by simpa using h4, by simpa using h5, by simpa using h6, by simpa using h7, by simp [h7]⟩
    exact .inr <| .inr <| .inr <| .inr <| .inr <| .inr <| .inr <| .inr ⟨by simpa using h0, by simpa using h1, by simpa using h2, by simpa using h3, by simpa using h4, by simpa using h5, by simpa using h6, by simpa using h7, by simp [h0, h1, h2, h3, h4, h5, h6, h7]⟩
  rcases key with ⟨d0, E⟩ | ⟨d0, d1, E⟩ | ⟨d0, d1, d2, E⟩ | ⟨d0, d1, d2, d3, E⟩ | ⟨d0, d1, d2, d3, d4, E⟩ | ⟨d0, d1, d2, d3, d4, d5, E⟩ | ⟨d0, d1, d2, d3, d4, d5, d6, E⟩ | ⟨d0, d1, d2, d3, d4, d5, d6, d7, E⟩ | ⟨d0, d1, d2, d3, d4, d5, d6, d7, E⟩
  all_goals
    rw [E]
    clear E
    go_enter Try.func9, Try.ntmps9
    go_wp2
    go_ret
    exact ⟨rfl, below_two⟩

set_option maxHeartbeats 1600000 in
theorem awake_any (w : World) : Calls Try.prog 8 #[] w (Says w (.bool true)) := by
  have H1 : Hid (∀ W, Calls Try.prog 10 #[.agg #[.int .i64 0, .int .i64 0], .agg #[.int .i64 1, .int .i64 2], .agg #[.int .i64 2, .int .i64 2], .int .i64 2] W (Says W (.agg #[.int .i64 2, .int .i64 0]))) := Lib.hid fun W => Step_any ⟨0, 0⟩ (by decide) (by decide) ⟨1, 2⟩ ⟨2, 2⟩ 2 W
  have H2 : Hid (∀ W, Calls Try.prog 13 #[.agg #[.int .i64 2, .int .i64 0], .agg #[.int .i64 2, .int .i64 2]] W (Says W (.bool false))) := Lib.hid fun W => Ready_any ⟨2, 0⟩ ⟨2, 2⟩ W
  have H3 : Hid (∀ W, Calls Try.prog 10 #[.agg #[.int .i64 2, .int .i64 0], .agg #[.int .i64 2, .int .i64 2], .agg #[.int .i64 2, .int .i64 2], .int .i64 2] W (Says W (.agg #[.int .i64 1, .int .i64 0]))) := Lib.hid fun W => Step_any ⟨2, 0⟩ (by decide) (by decide) ⟨2, 2⟩ ⟨2, 2⟩ 2 W
  have H4 : Hid (∀ W, Calls Try.prog 10 #[.agg #[.int .i64 1, .int .i64 0], .agg #[.int .i64 2, .int .i64 2], .agg #[.int .i64 2, .int .i64 2], .int .i64 2] W (Says W (.agg #[.int .i64 0, .int .i64 0]))) := Lib.hid fun W => Step_any ⟨1, 0⟩ (by decide) (by decide) ⟨2, 2⟩ ⟨2, 2⟩ 2 W
  have H5 : Hid (∀ W, Calls Try.prog 13 #[.agg #[.int .i64 0, .int .i64 0], .agg #[.int .i64 2, .int .i64 2]] W (Says W (.bool true))) := Lib.hid fun W => Ready_any ⟨0, 0⟩ ⟨2, 2⟩ W
  have H6 : Hid (∀ W, Calls Try.prog 12 #[.agg #[.int .i64 8, .int .i64 0, .int .i64 0], .agg #[.int .i64 0, .int .i64 2], .bool true, .bool true] W (Says W (.int .i64 1))) := Lib.hid fun W => What_any ⟨8, 0, 0⟩ (by decide) ⟨0, 2⟩ true true W
  have hj0 := Lib.hid (J.one w #[.int .i64 2, .int .i64 2] 25)
  go_enter Try.func8, Try.ntmps8
  go_wp2_with (first
    | (go_at_call 10; (with_reducible refine (H1.out _).mono ?_); clear H1; rintro e w1 ⟨rfl, h1⟩; have hlt := ((hj0.out.next h1).bx 0 rfl).lt; have hj1 := Lib.hid ((hj0.out.next h1).push #[.int .i64 2, .int .i64 0] 27); clear h1 hj0; obtain ⟨a0, a1⟩ := (hj1.out.bx 1 rfl).c2; obtain ⟨b0, b1⟩ := (hj1.out.bx 0 rfl).c2)
    | (go_at_call 13; (with_reducible refine (H2.out _).mono ?_); clear H2 a0 a1 b0 b1; rintro e w2 ⟨rfl, h2⟩; have hj2 : Hid (JS w _ _) := Lib.hid (hj1.out.next h2); clear h2 hj1))
  have hX : w.heap.size ≤ w1.heap.size := by omega
  have hn1 : w1.heap.size ≠ w.heap.size := by omega
  have hn2 : w.heap.size ≠ w1.heap.size := by omega
  clear hlt
  refine wp_region_tail 7 _ JS.closed hj2.out (by kernel_rfl) (by kernel_rfl) ?_
  simp only [List.take_succ_cons, List.take_zero, List.drop_succ_cons, List.drop_zero]
  apply Exists.intro
  refine ⟨fun w3 h3 => ?_, fun W3 hJ3 hb3 => ?_⟩
  · haveI := Ext.some h3
    obtain ⟨q0, q1⟩ := ext2 h3 0 rfl
    obtain ⟨q2, q3⟩ := ext2 h3 1 rfl
    have c3 := Lib.hid (Ext.calls h3 JS.closed (fun W _ => H3.out W))
    have c4 := Lib.hid (Ext.calls h3 JS.closed (fun W _ => H4.out W))
    repeat go_big_quiet_step (first | (go_at_call 10; with_reducible exact c3.out _) | (go_at_call 10; with_reducible exact c4.out _))
    exact wpQuiet_nil rfl
  · obtain ⟨b0, b1⟩ := (hJ3.bx 0 rfl).c2
    obtain ⟨f0, f1⟩ := (hJ3.bx 0 rfl).f2
    obtain ⟨a0, a1⟩ := (hJ3.bx 1 rfl).c2
    have hj4 := Lib.hid (Lef.jfill2 hJ3 (x := .int .i64 0) (y := .int .i64 0) hX (fun x hx => by simp at hx; subst hx; exact hn2))
    change wpList _ _ _ _ _ _
    go_wp2_with (first
      | (go_at_call 13; (with_reducible refine (H5.out _).mono ?_); clear H5; rintro e w5 ⟨rfl, h5⟩; have hj5 := Lib.hid (hj4.out.next h5); clear h5)
      | (go_at_call 12; (with_reducible refine (H6.out _).mono ?_); clear H6; rintro e w6 ⟨rfl, h6⟩; have hj6 := Lib.hid (hj5.out.next h6); clear h6))
    go_ret
    exact ⟨rfl, hj6.out.below⟩

end Go.Proofs.Ytaknnkmdfimcbaa.Gat
