/- The walk of CarAlone. -/
import Derived.Test.YtngcmibgpmnohaaCarE
namespace Go.Proofs.Ytngcmibgpmnohaa.Walk
open Go.RowKit Go.ChangeShapes Go.Proofs.Ytngcmibgpmnohaa.CarP Go.Proofs.Ytngcmibgpmnohaa.Car Go.Proofs.Ytngcmibgpmnohaa.Box Go.Proofs.Ytngcmibgpmnohaa.Held
set_option linter.unusedVariables false

theorem go_load (p v l load vel f : Int) : go ⟨p, v, load⟩ vel f = ⟨(go ⟨p, v, l⟩ vel f).p, (go ⟨p, v, l⟩ vel f).v, load⟩ := by
  unfold go; simp only; split <;> rfl

set_option maxRecDepth 100000 in
set_option maxHeartbeats 6400000 in
theorem carAlone_walk (w : World) (c : K) (load vel floors : Int) (_w1 : (Lit.int .i64 load).wf = true) (_w2 : (Lit.int .i64 vel).wf = true) (_w3 : (Lit.int .i64 floors).wf = true) : Calls Try.prog 6 #[val c, .int .i64 load, .int .i64 vel, .int .i64 floors] w fun e w' => e = .returned (.bool true) ∧ Below w.heap.size w w' := by
  clear _w1 _w2 _w3
  have HJ := Lib.hid (J.one w (arr c) 23)
  have HA : Hid (∀ W bs, Hid (J w W bs) → Calls Try.prog 8 #[] W fun e W' => e = .returned (.bool true) ∧ Hid (J w W' bs)) := Lib.hid fun W bs h => j_of h (awake_any W)
  by_cases hm : mayK c = false
  · have HM : Hid (∀ W bs, Hid (J w W bs) → Calls Try.prog 9 #[val c] W fun e W' => e = .returned (.bool false) ∧ Hid (J w W' bs)) := Lib.hid fun W bs h => by
      have := j_of h (may_any c W); rwa [hm] at this
    clear hm
    obtain ⟨p, v, l⟩ := c
    unfold val arr at *
    simp only at HM HJ
    go_enter Try.func6, Try.ntmps6
    go_wp2_with (first
      | (go_at_call 8; refine (HA.out _ _ HJ).mono ?_; clear HA; rintro e w1 ⟨rfl, hj1⟩; obtain ⟨a0, a1, a2⟩ := (hj1.out.bx 0 rfl).c3)
      | (go_at_call 9; refine (HM.out _ _ hj1).mono ?_; clear HM; rintro e w2 ⟨rfl, hj2⟩))
    go_ret
    exact ⟨rfl, hj2.out.below⟩
  · have HM : Hid (∀ W bs, Hid (J w W bs) → Calls Try.prog 9 #[val c] W fun e W' => e = .returned (.bool true) ∧ Hid (J w W' bs)) := Lib.hid fun W bs h => by
      have := j_of h (may_any c W); rwa [show mayK c = true by simpa using hm] at this
    have hc : c.May := (mayK_iff c).1 (by simpa using hm)
    clear hm
    obtain ⟨p, v, l⟩ := c
    have S1 : Hid (∀ W, Calls Try.prog 10 #[val ⟨p, v, l⟩, .int .i64 vel, .bool false, .int .i64 floors] W (Says W (val (go ⟨p, v, l⟩ vel floors)))) := Lib.hid fun W => Step_any ⟨p, v, l⟩ hc vel false floors W
    have S2 : Hid (∀ W, Calls Try.prog 10 #[val ⟨p, v, load⟩, .int .i64 vel, .bool false, .int .i64 floors] W (Says W (val (go ⟨p, v, load⟩ vel floors)))) := Lib.hid fun W => Step_any ⟨p, v, load⟩ ⟨hc.p0, hc.p1, hc.v0, hc.v1⟩ vel false floors W
    have S3 : Hid (∀ W, Calls Try.prog 10 #[val ⟨p, v, l⟩, .int .i64 vel, .bool true, .int .i64 floors] W (Says W (val ⟨p, 0, l⟩))) := Lib.hid fun W => Step_any ⟨p, v, l⟩ hc vel true floors W
    have S4 : Hid (∀ W, Calls Try.prog 10 #[val ⟨p, 0, l⟩, .int .i64 vel, .bool true, .int .i64 floors] W (Says W (val ⟨p, 0, l⟩))) := Lib.hid fun W => Step_any ⟨p, 0, l⟩ ⟨hc.p0, hc.p1, by simp, by simp⟩ vel true floors W
    rw [go_load p v l load] at S2
    have hl := go_l ⟨p, v, l⟩ vel floors
    clear hc
    generalize go ⟨p, v, l⟩ vel floors = r at *
    obtain ⟨rp, rv, rl⟩ := r
    simp only at hl
    subst hl
    unfold val arr at *
    simp only at *
    go_enter Try.func6, Try.ntmps6
    go_wp2_with (first
      | (go_at_call 8; refine (HA.out _ _ HJ).mono ?_; clear HA; rintro e w1 ⟨rfl, hj1⟩; obtain ⟨a0, a1, a2⟩ := (hj1.out.bx 0 rfl).c3)
      | (go_at_call 9; refine (HM.out _ _ hj1).mono ?_; clear HM hj1 a0 a1 a2; rintro e w2 ⟨rfl, hj2⟩; have hk2 := Lib.hid (hj2.out.push #[.int .i64 p, .int .i64 v, .int .i64 load] 23); obtain ⟨a0, a1, a2⟩ := (hj2.out.bx 0 rfl).c3; obtain ⟨b0, b1, b2⟩ := (hk2.out.bx 1 rfl).c3; clear hj2)
      | (go_at_call 10; (with_reducible refine (S1.out _).mono ?_); clear S1 a0 a1 a2 b0 b1 b2; rintro e w3 ⟨rfl, h3⟩; have hk3 := Lib.hid ((hk2.out.next h3).push #[.int .i64 rp, .int .i64 rv, .int .i64 rl] 23); clear hk2 h3; obtain ⟨a0, a1, a2⟩ := (hk3.out.bx 2 rfl).c3; obtain ⟨b0, b1, b2⟩ := (hk3.out.bx 1 rfl).c3)
      | (go_at_call 10; (with_reducible refine (S2.out _).mono ?_); clear S2 a0 a1 a2 b0 b1 b2; rintro e w4 ⟨rfl, h4⟩; have hk4 := Lib.hid ((hk3.out.next h4).push #[.int .i64 rp, .int .i64 rv, .int .i64 load] 23); clear hk3 h4; obtain ⟨a0, a1, a2⟩ := (hk4.out.bx 3 rfl).c3)
      | (go_at_call 10; (with_reducible refine (S3.out _).mono ?_); clear S3 a0 a1 a2; rintro e w5 ⟨rfl, h5⟩; have hk5 : Hid (JS w _ _) := Lib.hid ((hk4.out.next h5).push #[.int .i64 p, .int .i64 0, .int .i64 rl] 23); clear hk4 h5))
    refine wp_region_all _ JS.closed hk5.out (by kernel_rfl) (by kernel_rfl) ?_
    apply Exists.intro
    refine ⟨fun w1 h1 => ?_, fun W1 hJ1 hb1 => ?_⟩
    · haveI := Ext.some h1
      obtain ⟨q0, q1, q2⟩ := ext3 h1 0 rfl
      obtain ⟨r0, r1, r2⟩ := ext3 h1 1 rfl
      obtain ⟨s0, s1, s2⟩ := ext3 h1 2 rfl
      obtain ⟨t0, t1, t2⟩ := ext3 h1 4 rfl
      have c1 := Lib.hid (Ext.calls h1 JS.closed (fun W _ => S4.out W))
      repeat go_big_quiet_step (first | (go_at_call 10; with_reducible exact c1.out _))
      exact wpQuiet_nil rfl
    · go_wp2
      go_ret
      exact ⟨rfl, J.below hJ1⟩

end Go.Proofs.Ytngcmibgpmnohaa.Walk
