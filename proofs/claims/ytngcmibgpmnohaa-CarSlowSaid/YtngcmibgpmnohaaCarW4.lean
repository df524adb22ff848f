/- The walk of CarSlow. -/
import Derived.Test.YtngcmibgpmnohaaCarE
import Derived.LoopN
namespace Go.Proofs.Ytngcmibgpmnohaa.Walk
open Go.RowKit Go.ChangeShapes Go.Proofs.Ytngcmibgpmnohaa.CarP Go.Proofs.Ytngcmibgpmnohaa.Car Go.Proofs.Ytngcmibgpmnohaa.Box Go.Proofs.Ytngcmibgpmnohaa.Held
set_option linter.unusedVariables false

/-- one slower -/
def sl (v : Int) : Int := if 0 < v then v - 1 else if v < 0 then v + 1 else 0
theorem mg_rest {v : Int} (h0 : -8 ≤ v) (h1 : v ≤ 8) : mg v 0 = sl v := by
  unfold mg cl sl; split <;> (try split) <;> omega
/-- a car that a rest is asked of -/
theorem go_rest {c : K} (h : c.May) {v f : Int} (hv : c.v = v ∨ c.v = 0) (v0 : -8 ≤ v) (v1 : v ≤ 8) : (go c 0 f).v = sl v ∨ (go c 0 f).v = 0 := by
  rcases go_v c 0 f with e | ⟨e, _⟩
  · exact .inr e
  · rw [mg_rest h.v0 h.v1] at e
    rcases hv with hv | hv
    · rw [hv] at e; exact .inl e
    · rw [hv] at e; exact .inr e
theorem go_still {c : K} {f : Int} (hv : c.v = 0) (p0 : 0 ≤ c.p) (p1 : c.p ≤ tp f) : go c 0 f = c := by
  obtain ⟨p, v, l⟩ := c
  simp only at hv p0 p1
  subst hv
  unfold go
  have hm : mg 0 0 = 0 := by decide
  simp only [hm, Int.add_zero, cl_id p0 p1, if_true]

set_option maxRecDepth 100000 in
set_option maxHeartbeats 6400000 in
theorem carSlow_walk (w : World) (c : K) (floors : Int) (_w1 : (Lit.int .i64 floors).wf = true) : Calls Try.prog 7 #[val c, .int .i64 floors] w fun e w' => e = .returned (.bool true) ∧ Below w.heap.size w w' := by
  clear _w1
  have HJ := Lib.hid (J.one w (arr c) 23)
  have HA : Hid (∀ W bs, Hid (J w W bs) → Calls Try.prog 8 #[] W fun e W' => e = .returned (.bool true) ∧ Hid (J w W' bs)) := Lib.hid fun W bs h => j_of h (awake_any W)
  by_cases hm : mayK c = false
  · have HM : Hid (∀ W bs, Hid (J w W bs) → Calls Try.prog 9 #[val c] W fun e W' => e = .returned (.bool false) ∧ Hid (J w W' bs)) := Lib.hid fun W bs h => by
      have := j_of h (may_any c W); rwa [hm] at this
    clear hm
    obtain ⟨p, v, l⟩ := c
    unfold val arr at *
    simp only at HM HJ
    go_enter Try.func7, Try.ntmps7
    go_wp2_with (first
      | (go_at_call 8; refine (HA.out _ _ HJ).mono ?_; clear HA; rintro e w1 ⟨rfl, hj1⟩; obtain ⟨a0, a1, a2⟩ := (hj1.out.bx 0 rfl).c3)
      | (go_at_call 9; refine (HM.out _ _ hj1).mono ?_; clear HM; rintro e w2 ⟨rfl, hj2⟩))
    go_ret
    exact ⟨rfl, hj2.out.below⟩
  · have HM : Hid (∀ W bs, Hid (J w W bs) → Calls Try.prog 9 #[val c] W fun e W' => e = .returned (.bool true) ∧ Hid (J w W' bs)) := Lib.hid fun W bs h => by
      have := j_of h (may_any c W); rwa [show mayK c = true by simpa using hm] at this
    have hc : c.May := (mayK_iff c).1 (by simpa using hm)
    clear hm
    obtain ⟨p, v, l⟩ := c
    have HC := Lib.hid hc
    have v0 := hc.v0
    have v1 := hc.v1
    clear hc
    unfold val arr at *
    simp only at *
    go_enter Try.func7, Try.ntmps7
    go_wp2_with (first
      | (go_at_call 8; refine (HA.out _ _ HJ).mono ?_; clear HA; rintro e w1 ⟨rfl, hj1⟩; obtain ⟨a0, a1, a2⟩ := (hj1.out.bx 0 rfl).c3)
      | (go_at_call 9; refine (HM.out _ _ hj1).mono ?_; clear HM hj1 a0 a1 a2; rintro e w2 ⟨rfl, hj2⟩; obtain ⟨a0, a1, a2⟩ := (hj2.out.bx 0 rfl).c3))
    have hj3 := Lib.hid (hj2.out.push #[.int .i64 p, .int .i64 v, .int .i64 l] 23)
    go_loopw [9, 7] (fun a b wr => ∃ (i : Nat) (x : Int) (k : K), a = .int .i64 i ∧ b = .int .i64 x ∧ i ≤ 9 ∧ Hid k.May ∧ (k.v = x ∨ k.v = 0) ∧ (0 < i → k.p ≤ tp floors) ∧ -8 ≤ x ∧ x ≤ 8 ∧ x ≤ max 0 (8 - (i : Int)) ∧ min 0 ((i : Int) - 8) ≤ x ∧ Hid (J w wr [(w2.heap.size, arr k)])) (fun a _ _ => 9 - (intOf a).toNat)
    case atStart => exact ⟨0, v, ⟨p, v, l⟩, rfl, rfl, by omega, HC, .inl rfl, fun h => by omega, v0, v1, by omega, by omega, Lib.hid (hj3.out.less (fun x hx => by simp at hx; simp [hx, arr]))⟩
    case round =>
      obtain ⟨i, x, k, rfl, rfl, hi, hk, hkv, hkp, x0, x1, x2, x3, hj⟩ := hrel
      have hX : w.heap.size ≤ w2.heap.size := hj2.out.below.size
      obtain ⟨kp, kv, kl⟩ := k
      simp only at hkv hkp
      by_cases hlt : i < 9
      · have hmay := hk.out
        have hr := go_rest hmay (f := floors) hkv x0 x1
        have hb := go_bd ⟨kp, kv, kl⟩ 0 floors
        have hrm : Hid (go ⟨kp, kv, kl⟩ 0 floors).May := Lib.hid ⟨hb.1, by have := tp_bd floors; omega, hb.2.2.1, hb.2.2.2⟩
        have hrt := hb.2.1
        have HS : Hid (∀ W, Calls Try.prog 10 #[.agg #[.int .i64 kp, .int .i64 kv, .int .i64 kl], .int .i64 0, .bool false, .int .i64 floors] W (Says W (val (go ⟨kp, kv, kl⟩ 0 floors)))) := Lib.hid fun W => Step_any ⟨kp, kv, kl⟩ hmay 0 false floors W
        clear hmay hb hkv hkp hk
        generalize go ⟨kp, kv, kl⟩ 0 floors = r at *
        obtain ⟨rp, rv, rl⟩ := r
        unfold val arr at *
        simp only at *
        obtain ⟨b0, b1, b2⟩ := (hj.out.bx 0 rfl).c3
        have e3 : IntKind.i64.wrap ((i : Int) + 1) = ((i + 1 : Nat) : Int) := by rw [IntWalk.i64_in _ (by omega)]; rfl
        have e4 : IntKind.i64.wrap (x + 1) = x + 1 := IntWalk.i64_in _ (by omega)
        have e5 : IntKind.i64.wrap (x - 1) = x - 1 := IntWalk.i64_in _ (by omega)
        have hcs : (0 < x ∧ sl x = x - 1) ∨ (x < 0 ∧ sl x = x + 1) ∨ (x = 0 ∧ sl x = 0) := by unfold sl; split <;> (try split) <;> omega
        have hrs : (rv = sl x) ∨ (rv = 0 ∧ rv ≠ sl x) := by omega
        clear hr
        generalize sl x = y at *
        rcases hcs with ⟨g1, g2⟩ | ⟨g1, g2⟩ | ⟨g1, g2⟩
        all_goals
          subst g2
          rcases hrs with h2 | ⟨h2, h3⟩
          all_goals
            first
              | (exfalso; omega)
              | skip
        all_goals
          subst h2
          go_wp2_with (go_at_call 10; (with_reducible refine (HS.out _).mono ?_); clear HS b0 b1 b2; rintro e w4 ⟨rfl, h4⟩; have hj4 := Lib.hid (hj.out.next h4); clear hj h4; obtain ⟨b0, b1, b2⟩ := (hj4.out.bx 0 rfl).c3; obtain ⟨f0, f1, f2⟩ := (hj4.out.bx 0 rfl).f3)
          go_roundw
          case rel => exact ⟨i + 1, _, ⟨rp, _, rl⟩, rfl, rfl, by omega, hrm, (by first | exact .inl rfl | exact .inr rfl), fun _ => hrt, by omega, by omega, by omega, by omega, Lib.hid (hj4.out.put3 hX)⟩
          case measure => simp [intOf]; omega
      · obtain rfl : i = 9 := by omega
        obtain rfl : x = 0 := by omega
        obtain rfl : kv = 0 := by omega
        have HS : Hid (∀ W, Calls Try.prog 10 #[.agg #[.int .i64 kp, .int .i64 0, .int .i64 kl], .int .i64 0, .bool false, .int .i64 floors] W (Says W (.agg #[.int .i64 kp, .int .i64 0, .int .i64 kl]))) := Lib.hid fun W => by
          have := Step_any ⟨kp, 0, kl⟩ hk.out 0 false floors W
          have e : tick ⟨kp, 0, kl⟩ 0 false floors = ⟨kp, 0, kl⟩ := go_still rfl hk.out.p0 (hkp (by omega))
          rwa [e] at this
        clear hkv hkp hk HC
        have hj9 : Hid (JS w [(w2.heap.size, #[.int .i64 kp, .int .i64 0, .int .i64 kl])] wr) := hj
        clear hj
        go_wp2
        refine wp_region_all _ JS.closed hj9.out (by kernel_rfl) (by kernel_rfl) ?_
        apply Exists.intro
        refine ⟨fun w1 h1 => ?_, fun W1 hJ1 hb1 => ?_⟩
        · haveI := Ext.some h1
          obtain ⟨q0, q1, q2⟩ := ext3 h1 0 rfl
          have c1 := Lib.hid (Ext.calls h1 JS.closed (fun W _ => HS.out W))
          repeat go_big_quiet_step (first | (go_at_call 10; with_reducible exact c1.out _))
          exact wpQuiet_nil rfl
        · go_wp2
          go_ret
          exact ⟨rfl, J.below hJ1⟩

end Go.Proofs.Ytngcmibgpmnohaa.Walk
