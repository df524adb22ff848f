/- The walk of CarSteps. -/
import Derived.Test.YtngcmibgpmnohaaCarD
import Derived.Test.YtngcmibgpmnohaaCarE
namespace Go.Proofs.Ytngcmibgpmnohaa.Walk
open Go.RowKit Go.ChangeShapes Go.Proofs.Ytngcmibgpmnohaa.CarP Go.Proofs.Ytngcmibgpmnohaa.Car Go.Proofs.Ytngcmibgpmnohaa.Box Go.Proofs.Ytngcmibgpmnohaa.Held
set_option linter.unusedVariables false

set_option maxRecDepth 100000 in
set_option maxHeartbeats 6400000 in
theorem carSteps_walk (w : World) (c : K) (vel : Int) (b : Bool) (floors weight dir : Int) (_w1 : (Lit.int .i64 vel).wf = true) (_w3 : (Lit.int .i64 floors).wf = true) (_w4 : (Lit.int .i64 weight).wf = true) (_w5 : (Lit.int .i64 dir).wf = true) : Calls Try.prog 3 #[val c, .int .i64 vel, .bool b, .int .i64 floors, .int .i64 weight, .int .i64 dir] w fun e w' => e = .returned (.bool true) ∧ Below w.heap.size w w' := by
  clear _w1 _w3 _w4 _w5
  have HJ := Lib.hid (J.one w (arr c) 23)
  have HA : Hid (∀ W bs, Hid (J w W bs) → Calls Try.prog 8 #[] W fun e W' => e = .returned (.bool true) ∧ Hid (J w W' bs)) := Lib.hid fun W bs h => j_of h (awake_any W)
  by_cases hm : mayK c = false
  · have HM : Hid (∀ W bs, Hid (J w W bs) → Calls Try.prog 9 #[val c] W fun e W' => e = .returned (.bool false) ∧ Hid (J w W' bs)) := Lib.hid fun W bs h => by
      have := j_of h (may_any c W); rwa [hm] at this
    clear hm
    obtain ⟨p, v, l⟩ := c
    unfold val arr at *
    simp only at HM HJ
    go_enter Try.func3, Try.ntmps3
    go_wp2_with (first
      | (go_at_call 8; refine (HA.out _ _ HJ).mono ?_; clear HA; rintro e w1 ⟨rfl, hj1⟩; obtain ⟨a0, a1, a2⟩ := (hj1.out.bx 0 rfl).c3)
      | (go_at_call 9; refine (HM.out _ _ hj1).mono ?_; clear HM; rintro e w2 ⟨rfl, hj2⟩))
    go_ret
    exact ⟨rfl, hj2.out.below⟩
  · have HM : Hid (∀ W bs, Hid (J w W bs) → Calls Try.prog 9 #[val c] W fun e W' => e = .returned (.bool true) ∧ Hid (J w W' bs)) := Lib.hid fun W bs h => by
      have := j_of h (may_any c W); rwa [show mayK c = true by simpa using hm] at this
    have hc : c.May := (mayK_iff c).1 (by simpa using hm)
    have HS : Hid (∀ W, Calls Try.prog 10 #[val c, .int .i64 vel, .bool b, .int .i64 floors] W (Says W (val (tick c vel b floors)))) := Lib.hid fun W => Step_any c hc vel b floors W
    have HR : Hid (∀ W, Calls Try.prog 12 #[val c, .int .i64 vel, .bool b, .int .i64 floors] W (Says W (val (tick c vel b floors)))) := Lib.hid fun W => refStep_any c hc vel b floors W
    have HO : Hid (∀ k W, Calls Try.prog 11 #[val k] W (Says W (val k))) := Lib.hid fun k W => of_any k W
    have HT : Hid (∀ W, Calls Try.prog 13 #[.int .i64 floors] W (Says W (.int .i64 (tp floors)))) := Lib.hid fun W => says_of_same (Top_any floors W)
    have HU : Hid (∀ W, Calls Try.prog 14 #[.int .i64 floors] W (Says W (.int .i64 (tp floors)))) := Lib.hid fun W => says_of_same (refTop_any floors W)
    have HL : Hid (∀ W, Calls Try.prog 15 #[val c] W (Says W (.bool (decide (c.v = 0) && decide (c.p % 8 = 0))))) := Lib.hid fun W => Level_any c hc.p0 W
    have HF : Hid (∀ W, Calls Try.prog 16 #[val c] W (Says W (.int .i64 (c.p / 8)))) := Lib.hid fun W => Floor_any c hc.p0 hc.p1 W
    have HG : Hid (∀ W, Calls Try.prog 17 #[val c, .int .i64 weight] W (Says W (.int .i64 (lt c.l weight)))) := Lib.hid fun W => Light_any c weight W
    have HN : Hid (∀ W, Calls Try.prog 18 #[val c, .int .i64 dir] W (Says W (.int .i64 (nr c.p dir)))) := Lib.hid fun W => Near_any c hc.p0 dir W
    have HQ : Hid (∀ W, Calls Try.prog 19 #[val c, .int .i64 dir] W (Says W (.int .i64 (nr c.p dir)))) := Lib.hid fun W => refNear_any c hc.p0 hc.p1 dir W
    clear hm
    have f1 : c.p.tmod 8 = c.p % 8 := Int.tmod_eq_emod_of_nonneg hc.p0
    have f2 : c.p.tdiv 8 = c.p / 8 := Int.tdiv_eq_ediv_of_nonneg hc.p0
    have f3 : IntKind.i64.wrap (c.p / 8) = c.p / 8 := IntWalk.i64_in _ (by have := hc.p0; have := hc.p1; omega)
    generalize tick c vel b floors = d at *
    generalize tp floors = t at *
    generalize nr c.p dir = n at *
    obtain ⟨p, v, l⟩ := c
    obtain ⟨dp, dv, dl⟩ := d
    have HO1 := Lib.hid (HO.out ⟨p, v, l⟩)
    have HO2 := Lib.hid (HO.out ⟨dp, dv, dl⟩)
    clear HO hc
    unfold val arr at *
    simp only at *
    generalize p % 8 = r at *
    generalize p / 8 = q at *
    have key : (weight ≤ l ∧ lt l weight = -1) ∨ (¬ weight ≤ l ∧ lt l weight = 1) := by unfold lt; split <;> omega
    generalize lt l weight = g at *
    have kv : (v = 0 ∧ r = 0 ∧ (decide (v = 0) && decide (r = 0)) = true) ∨ (v = 0 ∧ (r == 0) = false ∧ (decide (v = 0) && decide (r = 0)) = false) ∨ ((v == 0) = false ∧ (decide (v = 0) && decide (r = 0)) = false) := by
      by_cases h1 : v = 0
      · by_cases h2 : r = 0
        · exact .inl ⟨h1, h2, by simp [h1, h2]⟩
        · exact .inr (.inl ⟨h1, by simpa using h2, by simp [h2]⟩)
      · exact .inr (.inr ⟨by simpa using h1, by simp [h1]⟩)
    generalize (decide (v = 0) && decide (r = 0)) = y at *
    rcases kv with ⟨rfl, rfl, rfl⟩ | ⟨rfl, k1, rfl⟩ | ⟨k1, rfl⟩
    all_goals
      rcases key with ⟨hk, rfl⟩ | ⟨hk, rfl⟩
      all_goals
        go_enter Try.func3, Try.ntmps3
        go_wp2_with (first
          | (go_at_call 8; refine (HA.out _ _ HJ).mono ?_; clear HA; rintro e w1 ⟨rfl, hj1⟩; obtain ⟨a0, a1, a2⟩ := (hj1.out.bx 0 rfl).c3)
          | (go_at_call 9; refine (HM.out _ _ hj1).mono ?_; clear HM hj1 a0 a1 a2; rintro e w2 ⟨rfl, hj2⟩; obtain ⟨a0, a1, a2⟩ := (hj2.out.bx 0 rfl).c3)
          | (go_at_call 10; refine (HS.out _).mono ?_; clear HS a0 a1 a2; rintro e w3 ⟨rfl, h3⟩; have hj3 : Hid (JS w _ _) := Lib.hid ((hj2.out.next h3).push #[.int .i64 dp, .int .i64 dv, .int .i64 dl] 23); clear hj2 h3; obtain ⟨a0, a1, a2⟩ := (hj3.out.bx 1 rfl).c3))
        refine wp_region_all _ JS.closed hj3.out (by kernel_rfl) (by kernel_rfl) ?_
        apply Exists.intro
        refine ⟨fun w1 h1 => ?_, fun W1 hJ1 hb1 => ?_⟩
        · haveI := Ext.some h1
          obtain ⟨q0, q1, q2⟩ := ext3 h1 0 rfl
          obtain ⟨r0, r1, r2⟩ := ext3 h1 1 rfl
          have cO1 := Lib.hid (Ext.calls h1 JS.closed (fun W _ => HO1.out W))
          have cO2 := Lib.hid (Ext.calls h1 JS.closed (fun W _ => HO2.out W))
          have cR := Lib.hid (Ext.calls h1 JS.closed (fun W _ => HR.out W))
          have cT := Lib.hid (Ext.calls h1 JS.closed (fun W _ => HT.out W))
          have cU := Lib.hid (Ext.calls h1 JS.closed (fun W _ => HU.out W))
          have cL := Lib.hid (Ext.calls h1 JS.closed (fun W _ => HL.out W))
          have cF := Lib.hid (Ext.calls h1 JS.closed (fun W _ => HF.out W))
          have cG := Lib.hid (Ext.calls h1 JS.closed (fun W _ => HG.out W))
          have cN := Lib.hid (Ext.calls h1 JS.closed (fun W _ => HN.out W))
          have cQ := Lib.hid (Ext.calls h1 JS.closed (fun W _ => HQ.out W))
          repeat go_big_quiet_step (first | (go_at_call 11; first | with_reducible exact cO1.out _ | with_reducible exact cO2.out _) | (go_at_call 12; with_reducible exact cR.out _) | (go_at_call 13; with_reducible exact cT.out _) | (go_at_call 14; with_reducible exact cU.out _) | (go_at_call 15; with_reducible exact cL.out _) | (go_at_call 16; with_reducible exact cF.out _) | (go_at_call 17; with_reducible exact cG.out _) | (go_at_call 18; with_reducible exact cN.out _) | (go_at_call 19; with_reducible exact cQ.out _))
          exact wpQuiet_nil rfl
        · go_wp2
          go_ret
          exact ⟨rfl, J.below hJ1⟩

end Go.Proofs.Ytngcmibgpmnohaa.Walk
