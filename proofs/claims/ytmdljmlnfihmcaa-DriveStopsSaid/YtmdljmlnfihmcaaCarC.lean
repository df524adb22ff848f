/- The contract of car.Step; those of layer 7's reference. -/
import Derived.Test.YtmdljmlnfihmcaaCarB0
import Derived.Test.YtmdljmlnfihmcaaHeld
namespace Go.Proofs.Ytmdljmlnfihmcaa.Car
open Go.RowKit Go.Proofs.Ytmdljmlnfihmcaa.CarP Go.Proofs.Ytmdljmlnfihmcaa.Box Go.Proofs.Ytmdljmlnfihmcaa.Held
set_option linter.unusedVariables false

set_option maxHeartbeats 1600000 in
theorem Step_any (c : K) (h : c.May) (vel : Int) (b : Bool) (f : Int) (w : World) : Calls Try.prog 18 #[val c, .int .i64 vel, .bool b, .int .i64 f] w (Says w (val (tick c vel b f))) := by
  cases b with
  | true =>
    obtain ⟨p, v, l⟩ := c
    have HJ := Lib.hid (J.two w #[.int .i64 p, .int .i64 v, .int .i64 l] #[.int .i64 0, .int .i64 0, .int .i64 0] 23 23)
    clear h
    unfold val
    go_enter Try.func18, Try.ntmps18
    go_wp2
    refine bodyPost_ret (v := .agg #[.int .i64 p, .int .i64 0, .int .i64 l]) (by simp [results, Try.results18, go_sem]) rfl ⟨rfl, below_two⟩
  | false =>
    have HM : Hid (∀ bs W, JS w bs W → Calls Try.prog 25 #[val c, .int .i64 vel, .int .i64 (tp f), .func (.func 27) #[val c] #[]] W (Says W (val (go c vel f)))) := Lib.hid fun bs W _ => moved_any c h vel (tp f) W
    have HT : Hid (∀ bs W, JS w bs W → Calls Try.prog 26 #[.int .i64 f] W (Says W (.int .i64 (tp f)))) := Lib.hid fun bs W _ => says_of_same (Top_any f W)
    have hst : tick c vel false f = go c vel f := rfl
    rw [hst]
    clear hst h
    generalize go c vel f = r at *
    generalize tp f = t at *
    obtain ⟨p, v, l⟩ := c
    obtain ⟨rp, rv, rl⟩ := r
    have HJ := Lib.hid (J.two w #[.int .i64 p, .int .i64 v, .int .i64 l] #[.int .i64 0, .int .i64 0, .int .i64 0] 23 23)
    unfold val at *
    simp only at HM ⊢
    go_enter Try.func18, Try.ntmps18
    go_wp2
    refine wp_region_tail 7 (JS w [(w.heap.size + 1, #[.int .i64 0, .int .i64 0, .int .i64 0]), (w.heap.size, #[.int .i64 p, .int .i64 v, .int .i64 l])]) JS.closed HJ.out (by kernel_rfl) (by kernel_rfl) ?_
    simp only [List.take_succ_cons, List.take_zero, List.drop_succ_cons, List.drop_zero]
    apply Exists.intro
    refine ⟨fun w1 h1 => ?_, fun W1 hJ1 hb1 => ?_⟩
    · haveI := Ext.some h1
      obtain ⟨q0, q1, q2⟩ := ext3 h1 1 rfl
      have c1 := Lib.hid (Ext.call JS.closed (HT.out _) w1 : ∀ n : Ext (JS w [(w.heap.size + 1, #[.int .i64 0, .int .i64 0, .int .i64 0]), (w.heap.size, #[.int .i64 p, .int .i64 v, .int .i64 l])]) w1, _)
      have c2 := Lib.hid (Ext.call JS.closed (HM.out _) w1 : ∀ n : Ext (JS w [(w.heap.size + 1, #[.int .i64 0, .int .i64 0, .int .i64 0]), (w.heap.size, #[.int .i64 p, .int .i64 v, .int .i64 l])]) w1, _)
      repeat go_big_quiet_step (first | (go_at_call 26; exact c1.out _) | (go_at_call 25; exact c2.out _))
      exact wpQuiet_nil rfl
    · obtain ⟨b0, b1, b2⟩ := (hJ1.bx 0 rfl).c3
      obtain ⟨g0, g1, g2⟩ := (hJ1.bx 0 rfl).f3
      have hj3 := ((J.set hJ1 0 (.int .i64 rp) (X := w.heap.size + 1) (by omega)).set 1 (.int .i64 rv) (X := w.heap.size + 1) (by omega)).set 2 (.int .i64 rl) (X := w.heap.size + 1) (by omega)
      change wpList _ _ _ _ _ _
      go_wp2
      refine bodyPost_ret (v := .agg #[.int .i64 rp, .int .i64 rv, .int .i64 rl]) (by simp [results, Try.results18, go_sem, *]) rfl ⟨rfl, hj3.below⟩

end Go.Proofs.Ytmdljmlnfihmcaa.Car
