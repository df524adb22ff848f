/- The walk of DriveComes. -/
import Derived.Test.YtmdljmlnfihmcaaDriB
import Derived.Test.YtmdljmlnfihmcaaDriQ
import Derived.Test.YtmdljmlnfihmcaaCarC
import Derived.Test.YtmdljmlnfihmcaaPlaD
import Derived.OpenShut
import Derived.LoopN
namespace Go.Proofs.Ytmdljmlnfihmcaa.Walk
open Go.RowKit Go.ChangeShapes Go.Proofs.Ytmdljmlnfihmcaa.CarP Go.Proofs.Ytmdljmlnfihmcaa.DriP Go.Proofs.Ytmdljmlnfihmcaa.Dri Go.Proofs.Ytmdljmlnfihmcaa.Box Go.Proofs.Ytmdljmlnfihmcaa.Held
set_option linter.unusedVariables false

/-- the first two of two, the other way round; the newest one only -/
theorem jsecond {w W : World} {a b : Nat × Array Value} (h : J w W [a, b]) : J w W [b] := h.less fun x hx => by
  simp only [List.mem_cons, List.not_mem_nil, or_false] at hx ⊢
  exact .inr hx

set_option maxRecDepth 100000 in
set_option maxHeartbeats 6400000 in
theorem driveComes_walk (w : World) (po a fs b : Int) (w0 : (Lit.int .u8 po).wf = true) (w1 : (Lit.int .u8 a).wf = true) (w3 : (Lit.int .u8 fs).wf = true) (w2 : (Lit.int .u8 b).wf = true) :
    Calls Try.prog 4 #[.int .u8 po, .int .u8 a, .int .u8 fs, .int .u8 b] w fun e w' => e = .returned (.bool true) ∧ Below w.heap.size w w' := by
  have hp := bounds_u8 w0
  have ha := bounds_u8 w1
  have hb := bounds_u8 w2
  have hs := bounds_u8 w3
  clear w0 w1 w2 w3
  obtain ⟨q, h_q⟩ : ∃ n, fs % 31 = n := ⟨_, rfl⟩
  have rq : fs.tmod 31 = q := by rw [Int.tmod_eq_emod_of_nonneg (by omega)]; exact h_q
  have uq : IntKind.u8.wrap q = q := IntWalk.u8_in _ (by omega)
  have iwq : IntKind.i64.wrap q = q := IntWalk.i64_in _ (by omega)
  obtain ⟨n, h_n⟩ : ∃ n, b % 8 = n := ⟨_, rfl⟩
  have rn : b.tmod 8 = n := by rw [Int.tmod_eq_emod_of_nonneg (by omega)]; exact h_n
  have un : IntKind.u8.wrap n = n := IntWalk.u8_in _ (by omega)
  have iwn : IntKind.i64.wrap n = n := IntWalk.i64_in _ (by omega)
  obtain ⟨m, hm⟩ : ∃ m, n + 1 = m := ⟨_, rfl⟩
  have im : IntKind.i64.wrap (n + 1) = m := by rw [hm]; exact IntWalk.i64_in _ (by omega)
  obtain ⟨N, hN⟩ : ∃ N, q + 2 = N := ⟨_, rfl⟩
  have iN : IntKind.i64.wrap (q + 2) = N := by rw [hN]; exact IntWalk.i64_in _ (by omega)
  obtain ⟨N8, hN8⟩ : ∃ N8, 8 * N = N8 := ⟨_, rfl⟩
  have iN8 : IntKind.i64.wrap (8 * N) = N8 := by rw [hN8]; exact IntWalk.i64_in _ (by omega)
  obtain ⟨N7, hN7⟩ : ∃ N7, N8 - 7 = N7 := ⟨_, rfl⟩
  have iN7 : IntKind.i64.wrap (N8 - 7) = N7 := by rw [hN7]; exact IntWalk.i64_in _ (by omega)
  have i1 : IntKind.i64.wrap po = po := IntWalk.i64_in _ (by omega)
  have i2 : IntKind.i64.wrap a = a := IntWalk.i64_in _ (by omega)
  obtain ⟨p0, hp0⟩ : ∃ p0, po % N7 = p0 := ⟨_, rfl⟩
  have hp01 : 0 ≤ p0 := by rw [← hp0]; exact Int.emod_nonneg _ (by omega)
  have hp02 : p0 < N7 := by rw [← hp0]; exact Int.emod_lt_of_pos _ (by omega)
  have r1 : po.tmod N7 = p0 := by rw [Int.tmod_eq_emod_of_nonneg (by omega)]; exact hp0
  have i3 : IntKind.i64.wrap p0 = p0 := IntWalk.i64_in _ (by omega)
  obtain ⟨f, hf⟩ : ∃ f, a % N = f := ⟨_, rfl⟩
  have hf1 : 0 ≤ f := by rw [← hf]; exact Int.emod_nonneg _ (by omega)
  have hf2 : f < N := by rw [← hf]; exact Int.emod_lt_of_pos _ (by omega)
  have r2 : a.tmod N = f := by rw [Int.tmod_eq_emod_of_nonneg (by omega)]; exact hf
  have i4 : IntKind.i64.wrap f = f := IntWalk.i64_in _ (by omega)
  have d1 : ¬ N7 = 0 := by omega
  have d2 : ¬ N = 0 := by omega
  obtain ⟨f8, hf8⟩ : ∃ f8, 8 * f = f8 := ⟨_, rfl⟩
  have i5 : IntKind.i64.wrap (8 * f) = f8 := by rw [hf8]; exact IntWalk.i64_in _ (by omega)
  obtain ⟨x0, hx0⟩ : ∃ x0, f8 - p0 = x0 := ⟨_, rfl⟩
  have i6 : IntKind.i64.wrap (f8 - p0) = x0 := by rw [hx0]; exact IntWalk.i64_in _ (by omega)
  obtain ⟨x1, hx1⟩ : ∃ x1, -x0 = x1 := ⟨_, rfl⟩
  have i7 : IntKind.i64.wrap (-x0) = x1 := by rw [← hx1]; exact IntWalk.i64_in _ (by omega)
  have HA : Hid (∀ W, Calls Try.prog 8 #[] W (Says W (.bool true))) := Lib.hid fun W => awake_any W
  have HF : Hid (Fl f) := Lib.hid ⟨by omega, by omega⟩
  have hwy : wy ⟨p0, 0, 0⟩ f = x0 := by show f * 8 - p0 = x0; omega
  have HY : Hid (∀ W, Calls Try.prog 15 #[.agg #[.int .i64 p0, .int .i64 0, .int .i64 0], .int .i64 f] W (Says W (.int .i64 (sg x0)))) := Lib.hid fun W => by
    have := Way_any ⟨p0, 0, 0⟩ hp01 (show p0 ≤ 1000000 by omega) f HF.out W
    rwa [hwy] at this
  have hsg := sg_3 x0
  have HX : Hid (Trip (sg x0) (sz x0) p0 f m N) := Lib.hid ⟨by omega, by rcases hsg with h | h | h <;> rw [h.1] <;> omega, hp01, by omega, hf1, by omega, by omega, by omega, by omega, by omega⟩
  have hfar : 0 ≤ sz x0 ∧ sz x0 ≤ 248 := by omega
  have kx : (x0 < 0 ∧ sz x0 = x1) ∨ (¬ x0 < 0 ∧ sz x0 = x0) := by omega
  have hm8 : 1 ≤ m ∧ m ≤ 8 := by omega
  have HTk : Hid (∀ W, Calls Try.prog 19 #[.int .i64 (sz x0), .int .i64 m] W (Says W (.int .i64 (PlaP.S m 0 (sz x0) : Int)))) := Lib.hid fun W => by
    have := Pla.Ticks_any (sz x0) m W
    rwa [PlaP.Tk_S hfar.1 (by omega) hm8.1 hm8.2] at this
  have hT := (PlaP.S_le (sz x0).toNat (PlaP.Safe.new hm8.1 hm8.2 hfar.1) (by omega)).1
  have hsb : -1 ≤ sg x0 ∧ sg x0 ≤ 1 := by omega
  clear hwy hsg hx0 hx1 hf8 hp0 hf hN8 hN7 hN hm h_n h_q hp ha hb hs
  generalize sg x0 = s at *
  generalize sz x0 = far at *
  obtain ⟨t, ht⟩ : ∃ t, PlaP.S m 0 far = t := ⟨_, rfl⟩
  have HT0 := Lib.hid ht
  rw [ht] at HTk hT
  clear ht
  have if1 : IntKind.i64.wrap (far + 1) = far + 1 := IntWalk.i64_in _ (by omega)
  have it1 : IntKind.i64.wrap ((t : Int) + 1) = (t : Int) + 1 := IntWalk.i64_in _ (by omega)
  have HR0 : Hid (Run s far p0 f m p0 0 0) := Lib.hid (run_start HX.out)
  have HB := Lib.hid (⟨hp01, hp02, hf1, hf2⟩ : 0 ≤ p0 ∧ p0 < N7 ∧ 0 ≤ f ∧ f < N)
  clear hp01 hp02 hf1 hf2
  rcases kx with ⟨k1, rfl⟩ | ⟨k1, rfl⟩
  all_goals
    go_enter Try.func4, Try.ntmps4
    go_wp2_with (first
      | (go_at_call 8; refine (HA.out _).mono ?_; clear HA; rintro e w1 ⟨rfl, h1⟩; have hj1 := Lib.hid (((J.start w).next h1).push #[.int .i64 p0, .int .i64 0, .int .i64 0] 23); have hsz := h1.size; clear h1; obtain ⟨a0, a1, a2⟩ := (hj1.out.bx 0 rfl).c3)
      | (go_at_call 15; (with_reducible refine (HY.out _).mono ?_); clear HY a0 a1 a2; rintro e w2 ⟨rfl, h2⟩; have hj2 := Lib.hid (hj1.out.next h2); clear h2 hj1; obtain ⟨a0, a1, a2⟩ := (hj2.out.bx 0 rfl).c3))
    clear a0 a1 a2
    generalize w1.heap.size = X at *
    go_loopw [16] (fun a wr => ∃ (n : Nat) (p v : Int), a = .int .i64 n ∧ Hid (Run s far p0 f m p v n) ∧ Hid (J w wr [(X, #[.int .i64 p, .int .i64 v, .int .i64 0])])) (fun a _ => (far + 2).toNat - (intOf a).toNat)
    case atStart => exact ⟨0, p0, 0, rfl, HR0, hj2⟩
    case round =>
      clear hj2
      obtain ⟨n, p, v, rfl, hrun, hj⟩ := hrel
      obtain ⟨hpb, hvb, hnf, hw⟩ := run_cases HX.out hrun.out
      have HTh : Hid (∀ W, Calls Try.prog 17 #[.agg #[.int .i64 p, .int .i64 v, .int .i64 0], .int .i64 f] W (Says W (.bool (th ⟨p, v, 0⟩ f)))) := Lib.hid fun W => There_any ⟨p, v, 0⟩ hpb.1 (show p ≤ 1000000 by omega) f HF.out W
      rw [HT0.out] at hw
      obtain ⟨a0, a1, a2⟩ := (hj.out.bx 0 rfl).c3
      rcases hw with ⟨hth, n1, n2, n3⟩ | ⟨hth, p', v', htick, q0, q1, q2, q3, q4, hr2⟩
      · rw [hth] at HTh
        clear hth
        have n1' : (n : Int) ≤ (t : Int) + 1 := by omega
        have n2' : (t : Int) ≤ (n : Int) := by omega
        have kf : (0 < far) ∨ (¬ 0 < far ∧ n = 0) := by omega
        clear n1 n2 n3
        rcases kf with kf | ⟨kf, rfl⟩
        all_goals
          go_wp2_with (first
            | (go_at_call 17; (with_reducible refine (HTh.out _).mono ?_); clear a0 a1 a2; rintro e w3 ⟨rfl, h3⟩; have hj3 := Lib.hid (hj.out.next h3); clear h3 hj; obtain ⟨a0, a1, a2⟩ := (hj3.out.bx 0 rfl).c3)
            | (go_at_call 19; (with_reducible refine (HTk.out _).mono ?_); clear a0 a1 a2; rintro e w4 ⟨rfl, h4⟩; have hj4 := Lib.hid (hj3.out.next h4); clear h4 hj3; obtain ⟨a0, a1, a2⟩ := (hj4.out.bx 0 rfl).c3)
            | (go_at_call 17; (with_reducible refine (HTh.out _).mono ?_); clear a0 a1 a2; rintro e w5 ⟨rfl, h5⟩; have hj5 := Lib.hid (hj4.out.next h5); clear h5 hj4))
          go_ret
          exact ⟨rfl, hj5.out.below⟩
      · rw [hth] at HTh
        clear hth
        have HV : Hid (∀ W, Calls Try.prog 10 #[.agg #[.int .i64 p, .int .i64 v, .int .i64 0], .int .i64 f, .int .i64 m, .bool true] W (Says W (.tuple #[.int .i64 (vl ⟨p, v, 0⟩ f m true), .bool (br ⟨p, v, 0⟩ f m true)]))) :=
          Lib.hid fun W => Vel_any ⟨p, v, 0⟩ hpb.1 (show p ≤ 1000000 by omega) hvb.1 hvb.2 f HF.out m true W
        have HS : Hid (∀ W, Calls Try.prog 18 #[.agg #[.int .i64 p, .int .i64 v, .int .i64 0], .int .i64 (vl ⟨p, v, 0⟩ f m true), .bool (br ⟨p, v, 0⟩ f m true), .int .i64 N] W (Says W (.agg #[.int .i64 p', .int .i64 v', .int .i64 0]))) := Lib.hid fun W => by
          have := Car.Step_any ⟨p, v, 0⟩ ⟨hpb.1, show p ≤ 1000000 by omega, hvb.1, hvb.2⟩ (vl ⟨p, v, 0⟩ f m true) (br ⟨p, v, 0⟩ f m true) N W
          rw [htick] at this
          exact this
        have HR2 := Lib.hid hr2
        have hpb2 := (run_cases HX.out hr2).1
        clear hr2 htick
        generalize vl ⟨p, v, 0⟩ f m true = V at *
        generalize br ⟨p, v, 0⟩ f m true = B at *
        obtain ⟨y, hy⟩ : ∃ y, V * s = y := ⟨_, rfl⟩
        rw [hy] at q0 q1
        have j1 : IntKind.i64.wrap (V * s) = y := by rw [hy]; exact IntWalk.i64_in _ (by omega)
        obtain ⟨dp, hdp⟩ : ∃ dp, p' - p = dp := ⟨_, rfl⟩
        have j2 : IntKind.i64.wrap (p' - p) = dp := by rw [hdp]; exact IntWalk.i64_in _ (by omega)
        rw [hdp] at q3 q4
        obtain ⟨z, hz⟩ : ∃ z, dp * s = z := ⟨_, rfl⟩
        rw [hz] at q3 q4
        have j3 : IntKind.i64.wrap (dp * s) = z := by rw [hz]; exact IntWalk.i64_in _ (by omega)
        have j4 : IntKind.i64.wrap ((n : Int) + 1) = ((n + 1 : Nat) : Int) := by rw [IntWalk.i64_in _ (by omega)]; rfl
        have y0 : ¬ y < 0 := by omega
        have y1 : ¬ m < y := by omega
        have z0 : ¬ z < 0 := by omega
        clear hy hdp hz q0 q1 q3 q4 hpb hpb2 hvb
        have hBV : B = true ∨ (B = false ∧ (v' != V) = false) := q2.imp id fun h => ⟨h.1, by rw [h.2]; simp⟩
        clear q2
        rcases hBV with rfl | ⟨rfl, kv⟩
        all_goals
          go_wp2_with (first
            | (go_at_call 17; (with_reducible refine (HTh.out _).mono ?_); clear HTh a0 a1 a2; rintro e w3 ⟨rfl, h3⟩; have hj3 := Lib.hid (hj.out.next h3); clear h3 hj; obtain ⟨a0, a1, a2⟩ := (hj3.out.bx 0 rfl).c3)
            | (go_at_call 10; (with_reducible refine (HV.out _).mono ?_); clear HV a0 a1 a2; rintro e w4 ⟨rfl, h4⟩; have hj4' := Lib.hid (hj3.out.next h4); have hj4 := Lib.hid ((hj3.out.next h4).push #[.int .i64 p, .int .i64 v, .int .i64 0] 23); clear h4 hj3; obtain ⟨a0, a1, a2⟩ := (hj4'.out.bx 0 rfl).c3; have hlt := (hj4'.out.bx 0 rfl).lt; have hne1 : w4.heap.size ≠ X := (by omega); have hne2 : X ≠ w4.heap.size := (by omega); clear hlt; clear hj4'; obtain ⟨b0, b1, b2⟩ := (hj4.out.bx 1 rfl).c3)
            | (go_at_call 18; (with_reducible refine (HS.out _).mono ?_); clear HS a0 a1 a2 b0 b1 b2; rintro e w5 ⟨rfl, h5⟩; have hj5 := Lib.hid (hj4.out.next h5); clear h5 hj4; obtain ⟨a0, a1, a2⟩ := (hj5.out.bx 0 rfl).c3; obtain ⟨b0, b1, b2⟩ := (hj5.out.bx 1 rfl).c3; obtain ⟨f0, f1, f2⟩ := (hj5.out.bx 1 rfl).f3))
          go_roundw
          case rel => exact ⟨n + 1, p', v', rfl, HR2, Lib.hid ((jsecond hj5.out).fill3 (by omega) (fun x hx => by cases hx))⟩
          case measure => simp [intOf]; omega

end Go.Proofs.Ytmdljmlnfihmcaa.Walk
