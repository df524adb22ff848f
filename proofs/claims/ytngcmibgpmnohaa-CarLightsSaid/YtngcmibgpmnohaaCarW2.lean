/- The walk of CarLights. -/
import Derived.Test.YtngcmibgpmnohaaCarE
import Derived.OpenShut
namespace Go.Proofs.Ytngcmibgpmnohaa.Walk
open Go.RowKit Go.ChangeShapes Go.Proofs.Ytngcmibgpmnohaa.CarP Go.Proofs.Ytngcmibgpmnohaa.Car Go.Proofs.Ytngcmibgpmnohaa.Box Go.Proofs.Ytngcmibgpmnohaa.Held
set_option linter.unusedVariables false

set_option maxRecDepth 100000 in
set_option maxHeartbeats 6400000 in
theorem carLights_walk (w : World) (z load weight : Int) (w0 : (Lit.int .u16 z).wf = true) (_w1 : (Lit.int .i64 load).wf = true) (_w2 : (Lit.int .i64 weight).wf = true) : Calls Try.prog 5 #[.int .u16 z, .int .i64 load, .int .i64 weight] w fun e w' => e = .returned (.bool true) ∧ Below w.heap.size w w' := by
  have hz := bounds_u16 w0
  clear w0 _w1 _w2
  have HA : Hid (∀ W, Calls Try.prog 8 #[] W (Says W (.bool true))) := Lib.hid fun W => awake_any W
  obtain ⟨p, hp⟩ : ∃ p, z % 249 = p := ⟨_, rfl⟩
  have p0 : 0 ≤ p := by omega
  have p1 : p ≤ 248 := by omega
  have N1 : Hid (∀ W, Calls Try.prog 18 #[val ⟨p, 0, load⟩, .int .i64 1] W (Says W (.int .i64 (nr p 1)))) := Lib.hid fun W => Near_any ⟨p, 0, load⟩ p0 1 W
  have N2 : Hid (∀ W, Calls Try.prog 18 #[val ⟨p, 0, load⟩, .int .i64 (-1)] W (Says W (.int .i64 (nr p (-1))))) := Lib.hid fun W => Near_any ⟨p, 0, load⟩ p0 (-1) W
  have G : Hid (∀ W, Calls Try.prog 17 #[val ⟨p, 0, load⟩, .int .i64 weight] W (Says W (.int .i64 (lt load weight)))) := Lib.hid fun W => Light_any ⟨p, 0, load⟩ weight W
  have L : Hid (∀ W, Calls Try.prog 15 #[val ⟨p, 0, load⟩] W (Says W (.bool (decide (p % 8 = 0))))) := Lib.hid fun W => by
    have := Level_any ⟨p, 0, load⟩ p0 W; simpa using this
  have t1 : z.tmod 249 = p := by rw [Int.tmod_eq_emod_of_nonneg (by omega)]; exact hp
  have t2 : IntKind.u16.wrap p = p := IntWalk.u16_in _ (by omega)
  have t3 : IntKind.i64.wrap p = p := IntWalk.i64_in _ (by omega)
  by_cases hr : p % 8 = 0
  · have n1 : nr p 1 = 0 := by unfold nr; rw [if_pos (.inr hr)]
    have n2 : nr p (-1) = 0 := by unfold nr; rw [if_pos (.inr hr)]
    rw [n1] at N1
    rw [n2] at N2
    simp only [hr, decide_true] at L
    generalize lt load weight = g at *
    unfold val at *
    simp only at *
    go_enter Try.func5, Try.ntmps5
    go_wp2_with (first
      | (go_at_call 8; refine (HA.out _).mono ?_; clear HA; rintro e w1 ⟨rfl, h1⟩; have hj1 := Lib.hid (((J.start w).next h1).push #[.int .i64 p, .int .i64 0, .int .i64 load] 23))
      | (go_at_call 18; (with_reducible refine (N1.out _).mono ?_); clear N1; rintro e w2 ⟨rfl, h2⟩; have hj2 := Lib.hid (hj1.out.next h2); obtain ⟨a0, a1, a2⟩ := (hj2.out.bx 0 rfl).c3)
      | (go_at_call 18; (with_reducible refine (N2.out _).mono ?_); clear N2 a0 a1 a2; rintro e w3 ⟨rfl, h3⟩; have hj3 := Lib.hid (hj2.out.next h3); obtain ⟨a0, a1, a2⟩ := (hj3.out.bx 0 rfl).c3)
      | (go_at_call 17; (with_reducible refine (G.out _).mono ?_); clear G a0 a1 a2; rintro e w4 ⟨rfl, h4⟩; have hj4 := Lib.hid (hj3.out.next h4); obtain ⟨a0, a1, a2⟩ := (hj4.out.bx 0 rfl).c3)
      | (go_at_call 15; (with_reducible refine (L.out _).mono ?_); clear L a0 a1 a2; rintro e w5 ⟨rfl, h5⟩; have hj5 := Lib.hid (hj4.out.next h5)))
    go_ret
    exact ⟨rfl, hj5.out.below⟩
  · have n1 : nr p 1 = 8 - p % 8 := by unfold nr; rw [if_neg (by omega), if_pos (by decide)]
    have n2 : nr p (-1) = p % 8 := by unfold nr; rw [if_neg (by omega), if_neg (by decide)]
    have key : (lt load weight = 1 ∨ lt load weight = -1) := by unfold lt; split <;> simp
    obtain ⟨g, hg⟩ : ∃ g, lt load weight = g := ⟨_, rfl⟩
    rw [hg] at G key
    clear hg
    -- the floor that it goes to
    obtain ⟨n, hn⟩ : ∃ n, nr p g = n := ⟨_, rfl⟩
    obtain ⟨m, hm⟩ : ∃ m, g * n = m := ⟨_, rfl⟩
    have hmm : (g = 1 ∧ m = 8 - p % 8 ∧ n = 8 - p % 8) ∨ (g = -1 ∧ m = -(p % 8) ∧ n = p % 8) := by
      rcases key with rfl | rfl
      · left; rw [n1] at hn; omega
      · right; rw [n2] at hn; omega
    have q0 : 0 ≤ p + m := by omega
    have q8 : (p + m) % 8 = 0 := by omega
    have N3 : Hid (∀ W, Calls Try.prog 18 #[val ⟨p, 0, load⟩, .int .i64 g] W (Says W (.int .i64 n))) := Lib.hid fun W => by
      have := Near_any ⟨p, 0, load⟩ p0 g W; rwa [hn] at this
    have L2 : Hid (∀ W, Calls Try.prog 15 #[val ⟨p + m, 0, 0⟩] W (Says W (.bool true))) := Lib.hid fun W => by
      have := Level_any ⟨p + m, 0, 0⟩ q0 W; simpa [q8] using this
    have F1 : Hid (∀ W, Calls Try.prog 16 #[val ⟨p, 0, load⟩] W (Says W (.int .i64 (p / 8)))) := Lib.hid fun W => Floor_any ⟨p, 0, load⟩ p0 (by simp only; omega) W
    have F2 : Hid (∀ W, Calls Try.prog 16 #[val ⟨p + m, 0, 0⟩] W (Says W (.int .i64 ((p + m) / 8)))) := Lib.hid fun W => Floor_any ⟨p + m, 0, 0⟩ q0 (by simp only; omega) W
    have hfl : ((p + m) / 8 = p / 8) ∨ (((p + m) / 8 == p / 8) = false ∧ (p + m) / 8 = p / 8 + 1) := by
      by_cases h : (p + m) / 8 = p / 8
      · exact .inl h
      · exact .inr ⟨by simpa using h, by omega⟩
    rw [n1] at N1
    rw [n2] at N2
    simp only [hr, decide_false] at L
    have e0 : IntKind.i64.wrap (g * n) = m := by rw [hm]; exact IntWalk.i64_in _ (by omega)
    obtain ⟨s, hs⟩ : ∃ s, p + m = s := ⟨_, rfl⟩
    rw [hs] at L2 F2 hfl
    have e1 : IntKind.i64.wrap (p + m) = s := by rw [hs]; exact IntWalk.i64_in _ (by omega)
    have e2 : IntKind.i64.wrap (8 - p % 8 + p % 8) = 8 := by rw [show 8 - p % 8 + p % 8 = 8 by omega]; rfl
    have e3 : IntKind.i64.wrap (p / 8 + 1) = p / 8 + 1 := IntWalk.i64_in _ (by omega)
    have r0 : 0 < p % 8 := by omega
    have r1 : 0 < 8 - p % 8 := by omega
    have kg : g = 1 ∨ ((g == 1) = false ∧ g = -1) := by
      rcases key with rfl | rfl
      · exact .inl rfl
      · exact .inr ⟨by decide, rfl⟩
    have d0 : decide (0 < p % 8) = true := by simpa using r0
    have d1 : decide (0 < 8 - p % 8) = true := by simpa using r1
    have z1 : (8 - p % 8 == 0) = false := by rw [beq_eq_false_iff_ne]; omega
    clear hmm hm hn hs q0 q8 n1 n2 key hr
    generalize p / 8 = f at *
    generalize s / 8 = f2 at *
    generalize 8 - p % 8 = y at *
    generalize p % 8 = r at *
    unfold val at *
    simp only at *
    rcases kg with rfl | ⟨k1, rfl⟩
    all_goals
      simp only [Int.one_mul, Int.neg_mul] at e0
      rcases hfl with rfl | ⟨k2, rfl⟩
      all_goals
        go_enter Try.func5, Try.ntmps5
        go_wp2_with (first
          | (go_at_call 8; refine (HA.out _).mono ?_; clear HA; rintro e w1 ⟨rfl, h1⟩; have hj1 := Lib.hid (((J.start w).next h1).push #[.int .i64 p, .int .i64 0, .int .i64 load] 23))
          | (go_at_call 18; (with_reducible refine (N1.out _).mono ?_); clear N1; rintro e w2 ⟨rfl, h2⟩; have hj2 := Lib.hid (hj1.out.next h2); obtain ⟨a0, a1, a2⟩ := (hj2.out.bx 0 rfl).c3)
          | (go_at_call 18; (with_reducible refine (N2.out _).mono ?_); clear N2 a0 a1 a2; rintro e w3 ⟨rfl, h3⟩; have hj3 := Lib.hid (hj2.out.next h3); obtain ⟨a0, a1, a2⟩ := (hj3.out.bx 0 rfl).c3)
          | (go_at_call 17; (with_reducible refine (G.out _).mono ?_); clear G a0 a1 a2; rintro e w4 ⟨rfl, h4⟩; have hj4 := Lib.hid (hj3.out.next h4); obtain ⟨a0, a1, a2⟩ := (hj4.out.bx 0 rfl).c3)
          | (go_at_call 15; (with_reducible refine (L.out _).mono ?_); clear L a0 a1 a2; rintro e w5 ⟨rfl, h5⟩; have hj5 : Hid (JS w _ _) := Lib.hid (hj4.out.next h5)))
        refine wp_region_lay 9 _ #[.int .i64 0, .int .i64 0, .int .i64 0] 23 _ 12 JS.closed hj5.out (by kernel_rfl) (by kernel_rfl) rfl rfl rfl (fun ρ w' => by simp [execOp, go_sem]) ?_
        simp only [List.take_succ_cons, List.take_zero, List.drop_succ_cons, List.drop_zero]
        apply Exists.intro
        refine ⟨fun w1 h1 => ?_, fun B W1 hJ1 hb1 hB hbx => ?_⟩
        · haveI := Ext.some h1
          obtain ⟨q0, q1, q2⟩ := ext3 h1 0 rfl
          have c1 := Lib.hid (Ext.calls h1 JS.closed (fun W _ => N3.out W))
          repeat go_big_quiet_step (first | (go_at_call 18; with_reducible exact c1.out _))
          exact wpQuiet_nil rfl
        · have hX : w.heap.size ≤ B := Nat.le_trans hj5.out.below.size hB
          have hne : ∀ x ∈ [(w1.heap.size, (#[.int .i64 p, .int .i64 0, .int .i64 load] : Array Value))], x.1 ≠ B := fun x hx => by
            simp at hx; subst hx; have := (hj5.out.bx 0 rfl).lt; simp only; omega
          obtain ⟨f0, f1, f2⟩ := hbx.f3
          obtain ⟨b0, b1, b2⟩ := hbx.c3
          have hj6 : Hid (JS w _ _) := Lib.hid ((J.more hJ1 hbx).fill3 (x := .int .i64 s) (y := .int .i64 0) (z := .int .i64 0) hX hne)
          change wpList _ _ _ _ _ _
          go_wp2
          refine wp_region_all _ JS.closed hj6.out (by kernel_rfl) (by kernel_rfl) ?_
          apply Exists.intro
          refine ⟨fun w9 h9 => ?_, fun W9 hJ9 hb9 => ?_⟩
          · haveI := Ext.some h9
            obtain ⟨q0, q1, q2⟩ := ext3 h9 0 rfl
            obtain ⟨q3, q4, q5⟩ := ext3 h9 1 rfl
            have cL := Lib.hid (Ext.calls h9 JS.closed (fun W _ => L2.out W))
            have c1 := Lib.hid (Ext.calls h9 JS.closed (fun W _ => F1.out W))
            have c2 := Lib.hid (Ext.calls h9 JS.closed (fun W _ => F2.out W))
            repeat go_big_quiet_step (first | (go_at_call 15; with_reducible exact cL.out _) | (go_at_call 16; first | with_reducible exact c1.out _ | with_reducible exact c2.out _))
            exact wpQuiet_nil rfl
          · go_wp2
            go_ret
            exact ⟨rfl, J.below hJ9⟩

end Go.Proofs.Ytngcmibgpmnohaa.Walk
