/- Contracts of layer 7's reference; awake. -/
import Derived.Test.YtngcmibgpmnohaaCarC
namespace Go.Proofs.Ytngcmibgpmnohaa.Car
open Go.RowKit Go.Proofs.Ytngcmibgpmnohaa.CarP Go.Proofs.Ytngcmibgpmnohaa.Box Go.Proofs.Ytngcmibgpmnohaa.Held
set_option linter.unusedVariables false

theorem refTop_any (f : Int) (w : World) : Calls Try.prog 14 #[.int .i64 f] w fun e w' => e = .returned (.int .i64 (tp f)) ∧ w = w' := by
  by_cases h0 : f < 2
  · have E : Hid (8 = tp f) := Lib.hid (by unfold tp cl; omega)
    go_enter Try.func14, Try.ntmps14
    go_wp2
    go_ret
    exact ⟨ret_int E.out, rfl⟩
  · by_cases h1 : 32 < f
    · have E : Hid (248 = tp f) := Lib.hid (by unfold tp cl; omega)
      go_enter Try.func14, Try.ntmps14
      go_wp2
      go_ret
      exact ⟨ret_int E.out, rfl⟩
    · have E : Hid (8 * f - 8 = tp f) := Lib.hid (by unfold tp cl; omega)
      have e1 : IntKind.i64.wrap (8 * f) = 8 * f := IntWalk.i64_in _ (by omega)
      have e2 : IntKind.i64.wrap (8 * f - 8) = 8 * f - 8 := IntWalk.i64_in _ (by omega)
      go_enter Try.func14, Try.ntmps14
      go_wp2
      go_ret
      exact ⟨ret_int E.out, rfl⟩

/-- how a speed comes about, case by case -/
theorem mg_cases {v vel : Int} (v0 : -8 ≤ v) (v1 : v ≤ 8) :
    (v + 1 < vel ∧ 8 < v + 1 ∧ mg v vel = 8) ∨ (v + 1 < vel ∧ v + 1 ≤ 8 ∧ mg v vel = v + 1) ∨ (vel < v - 1 ∧ v - 1 < -8 ∧ mg v vel = -8) ∨ (vel < v - 1 ∧ -8 ≤ v - 1 ∧ mg v vel = v - 1) ∨
    (v - 1 ≤ vel ∧ vel ≤ v + 1 ∧ 8 < vel ∧ mg v vel = 8) ∨ (v - 1 ≤ vel ∧ vel ≤ v + 1 ∧ vel < -8 ∧ mg v vel = -8) ∨ (v - 1 ≤ vel ∧ vel ≤ v + 1 ∧ vel ≤ 8 ∧ -8 ≤ vel ∧ mg v vel = vel) := by
  unfold mg cl; omega
theorem go_cases {p m t : Int} (ht : 0 ≤ t) : (p + m < 0 ∧ cl (p + m) 0 t = 0 ∧ ¬ cl (p + m) 0 t = p + m) ∨ (0 ≤ p + m ∧ t < p + m ∧ cl (p + m) 0 t = t ∧ ¬ cl (p + m) 0 t = p + m) ∨ (0 ≤ p + m ∧ p + m ≤ t ∧ cl (p + m) 0 t = p + m) := by
  unfold cl; omega

set_option maxHeartbeats 6400000 in
theorem refGo_any (c : K) (h : c.May) (vel : Int) (f : Int) (w : World) : Calls Try.prog 12 #[val c, .int .i64 vel, .bool false, .int .i64 f] w (Says w (val (go c vel f))) := by
  have ht := tp_bd f
  have HT : Hid (∀ bs W, JS w bs W → Calls Try.prog 14 #[.int .i64 f] W (Says W (.int .i64 (tp f)))) := Lib.hid fun bs W _ => says_of_same (refTop_any f W)
  have HC := mg_cases h.v0 h.v1 (vel := vel)
  have HG := go_cases (p := c.p) (m := mg c.v vel) (show 0 ≤ tp f by omega)
  have hgo : go c vel f = if cl (c.p + mg c.v vel) 0 (tp f) = c.p + mg c.v vel then ⟨cl (c.p + mg c.v vel) 0 (tp f), mg c.v vel, c.l⟩ else ⟨cl (c.p + mg c.v vel) 0 (tp f), 0, c.l⟩ := rfl
  have hb := mg_bd c.v vel
  obtain ⟨p, v, l⟩ := c
  obtain ⟨p0, p1, v0, v1⟩ := h
  simp only at HC HG hgo hb p0 p1 v0 v1
  unfold val
  generalize go ⟨p, v, l⟩ vel f = r at *
  generalize mg v vel = m at *
  generalize tp f = t at *
  generalize cl (p + m) 0 t = q at *
  have e1 : IntKind.i64.wrap (v - 1) = v - 1 := IntWalk.i64_in _ (by omega)
  have e2 : IntKind.i64.wrap (v + 1) = v + 1 := IntWalk.i64_in _ (by omega)
  have e3 : IntKind.i64.wrap (p + m) = p + m := IntWalk.i64_in _ (by omega)
  rcases HG with ⟨g1, g2, g3⟩ | ⟨g1, g2, g3, g4⟩ | ⟨g1, g2, g3⟩
  · rw [if_neg g3] at hgo
    subst hgo
    subst g2
    clear g3
    have HJ : Hid (JS w _ _) := Lib.hid (J.three w #[.int .i64 p, .int .i64 v, .int .i64 l] #[.int .i64 0, .int .i64 0, .int .i64 0] #[.int .i64 0, .int .i64 0, .int .i64 l] 27 27 27)
    rcases HC with ⟨k1, k2, rfl⟩ | ⟨k1, k2, rfl⟩ | ⟨k1, k2, rfl⟩ | ⟨k1, k2, rfl⟩ | ⟨k1, k2, k3, rfl⟩ | ⟨k1, k2, k3, rfl⟩ | ⟨k1, k2, k3, k4, rfl⟩
    all_goals first
      | (exfalso; omega)
      | skip
    all_goals
      go_enter Try.func12, Try.ntmps12
      go_wp2
      refine wp_region_all _ JS.closed HJ.out (by kernel_rfl) (by kernel_rfl) ?_
      apply Exists.intro
      refine ⟨fun w1 h1 => ?_, fun W1 hJ1 hb1 => ?_⟩
      · haveI := Ext.some h1
        obtain ⟨q0, q1, q2⟩ := ext3 h1 0 rfl
        have c1 := Lib.hid (Ext.calls h1 JS.closed (HT.out _))
        repeat go_big_quiet_step (first | (go_at_call 14; exact c1.out _))
        exact wpQuiet_nil rfl
      · obtain ⟨b0, b1, b2⟩ := (hJ1.bx 1 rfl).c3
        obtain ⟨d0, d1, d2⟩ := (hJ1.bx 1 rfl).f3
        obtain ⟨a0, a1, a2⟩ := (hJ1.bx 0 rfl).c3
        obtain ⟨y0, y1, y2⟩ := (hJ1.bx 0 rfl).f3
        go_wp2
        refine bodyPost_ret (v := .agg #[.int .i64 0, .int .i64 0, .int .i64 l]) (by simp [results, Try.results12, go_sem, *]) rfl ⟨rfl, ?_⟩
        have hj3 := ((J.set hJ1 0 (.int .i64 0) (X := w.heap.size + 1) (by omega)).set 1 (.int .i64 0) (X := w.heap.size + 1) (by omega)).set 2 (.int .i64 l) (X := w.heap.size + 1) (by omega)
        exact hj3.below
  · rw [if_neg g4] at hgo
    subst hgo
    subst g3
    clear g4
    have HJ : Hid (JS w _ _) := Lib.hid (J.three w #[.int .i64 p, .int .i64 v, .int .i64 l] #[.int .i64 0, .int .i64 0, .int .i64 0] #[.int .i64 (p + m), .int .i64 m, .int .i64 l] 27 27 27)
    rcases HC with ⟨k1, k2, rfl⟩ | ⟨k1, k2, rfl⟩ | ⟨k1, k2, rfl⟩ | ⟨k1, k2, rfl⟩ | ⟨k1, k2, k3, rfl⟩ | ⟨k1, k2, k3, rfl⟩ | ⟨k1, k2, k3, k4, rfl⟩
    all_goals first
      | (exfalso; omega)
      | skip
    all_goals
      go_enter Try.func12, Try.ntmps12
      go_wp2
      refine wp_region_all _ JS.closed HJ.out (by kernel_rfl) (by kernel_rfl) ?_
      apply Exists.intro
      refine ⟨fun w1 h1 => ?_, fun W1 hJ1 hb1 => ?_⟩
      · haveI := Ext.some h1
        obtain ⟨q0, q1, q2⟩ := ext3 h1 0 rfl
        have c1 := Lib.hid (Ext.calls h1 JS.closed (HT.out _))
        repeat go_big_quiet_step (first | (go_at_call 14; exact c1.out _))
        exact wpQuiet_nil rfl
      · obtain ⟨b0, b1, b2⟩ := (hJ1.bx 1 rfl).c3
        obtain ⟨d0, d1, d2⟩ := (hJ1.bx 1 rfl).f3
        obtain ⟨a0, a1, a2⟩ := (hJ1.bx 0 rfl).c3
        obtain ⟨y0, y1, y2⟩ := (hJ1.bx 0 rfl).f3
        go_wp2
        refine wp_region_tail 5 _ JS.closed hJ1 (by kernel_rfl) (by kernel_rfl) ?_
        simp only [List.take_succ_cons, List.take_zero, List.drop_succ_cons, List.drop_zero]
        apply Exists.intro
        refine ⟨fun w2 h2 => ?_, fun W2 hJ2 hb2 => ?_⟩
        · haveI := Ext.some h2
          obtain ⟨q0, q1, q2⟩ := ext3 h2 2 rfl
          have c1 := Lib.hid (Ext.calls h2 JS.closed (HT.out _))
          repeat go_big_quiet_step (first | (go_at_call 14; exact c1.out _))
          exact wpQuiet_nil rfl
        · clear b0 b1 b2 d0 d1 d2 a0 a1 a2 y0 y1 y2
          obtain ⟨b0, b1, b2⟩ := (hJ2.bx 1 rfl).c3
          obtain ⟨d0, d1, d2⟩ := (hJ2.bx 1 rfl).f3
          obtain ⟨a0, a1, a2⟩ := (hJ2.bx 0 rfl).c3
          obtain ⟨y0, y1, y2⟩ := (hJ2.bx 0 rfl).f3
          change wpList _ _ _ _ _ _
          go_wp2
          refine bodyPost_ret (v := .agg #[.int .i64 q, .int .i64 0, .int .i64 l]) (by simp [results, Try.results12, go_sem, *]) rfl ⟨rfl, ?_⟩
          have hj2 := ((J.set hJ2 0 (.int .i64 q) (X := w.heap.size + 2) (by omega)).set 1 (.int .i64 0) (X := w.heap.size + 2) (by omega)).set 2 (.int .i64 l) (X := w.heap.size + 2) (by omega)
          have hj3 := ((hj2.set 0 (.int .i64 q) (X := w.heap.size + 1) (by omega)).set 1 (.int .i64 0) (X := w.heap.size + 1) (by omega)).set 2 (.int .i64 l) (X := w.heap.size + 1) (by omega)
          exact hj3.below
  · rw [if_pos g3] at hgo
    subst hgo
    subst g3
    have HJ : Hid (JS w _ _) := Lib.hid (J.three w #[.int .i64 p, .int .i64 v, .int .i64 l] #[.int .i64 0, .int .i64 0, .int .i64 0] #[.int .i64 (p + m), .int .i64 m, .int .i64 l] 27 27 27)
    rcases HC with ⟨k1, k2, rfl⟩ | ⟨k1, k2, rfl⟩ | ⟨k1, k2, rfl⟩ | ⟨k1, k2, rfl⟩ | ⟨k1, k2, k3, rfl⟩ | ⟨k1, k2, k3, rfl⟩ | ⟨k1, k2, k3, k4, rfl⟩
    all_goals first
      | (exfalso; omega)
      | skip
    all_goals
      go_enter Try.func12, Try.ntmps12
      go_wp2
      refine wp_region_all _ JS.closed HJ.out (by kernel_rfl) (by kernel_rfl) ?_
      apply Exists.intro
      refine ⟨fun w1 h1 => ?_, fun W1 hJ1 hb1 => ?_⟩
      · haveI := Ext.some h1
        obtain ⟨q0, q1, q2⟩ := ext3 h1 0 rfl
        have c1 := Lib.hid (Ext.calls h1 JS.closed (HT.out _))
        repeat go_big_quiet_step (first | (go_at_call 14; exact c1.out _))
        exact wpQuiet_nil rfl
      · obtain ⟨b0, b1, b2⟩ := (hJ1.bx 1 rfl).c3
        obtain ⟨d0, d1, d2⟩ := (hJ1.bx 1 rfl).f3
        obtain ⟨a0, a1, a2⟩ := (hJ1.bx 0 rfl).c3
        obtain ⟨y0, y1, y2⟩ := (hJ1.bx 0 rfl).f3
        go_wp2
        refine bodyPost_ret (v := _) (by simp [results, Try.results12, go_sem, *]) rfl ⟨rfl, ?_⟩
        exact below_set (by omega) (below_set (by omega) (below_set (by omega) (J.below hJ1)))


theorem refBrake_any (c : K) (vel f : Int) (w : World) : Calls Try.prog 12 #[val c, .int .i64 vel, .bool true, .int .i64 f] w (Says w (val ⟨c.p, 0, c.l⟩)) := by
  obtain ⟨p, v, l⟩ := c
  unfold val
  go_enter Try.func12, Try.ntmps12
  go_wp2
  refine bodyPost_ret (v := .agg #[.int .i64 p, .int .i64 0, .int .i64 l]) (by simp [results, Try.results12, go_sem]) rfl ⟨rfl, below_two⟩

theorem refStep_any (c : K) (h : c.May) (vel : Int) (b : Bool) (f : Int) (w : World) : Calls Try.prog 12 #[val c, .int .i64 vel, .bool b, .int .i64 f] w (Says w (val (tick c vel b f))) := by
  cases b with
  | true => exact refBrake_any c vel f w
  | false => exact refGo_any c h vel f w

end Go.Proofs.Ytngcmibgpmnohaa.Car
