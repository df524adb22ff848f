/- The walk of DriveHere. -/
import Derived.Test.YtmdljmlnfihmcaaDriB
import Derived.Test.YtmdljmlnfihmcaaHeld
import Derived.OpenShut
namespace Go.Proofs.Ytmdljmlnfihmcaa.Walk
open Go.RowKit Go.ChangeShapes Go.Proofs.Ytmdljmlnfihmcaa.CarP Go.Proofs.Ytmdljmlnfihmcaa.DriP Go.Proofs.Ytmdljmlnfihmcaa.Dri Go.Proofs.Ytmdljmlnfihmcaa.Box Go.Proofs.Ytmdljmlnfihmcaa.Held
set_option linter.unusedVariables false

set_option maxRecDepth 100000 in
set_option maxHeartbeats 6400000 in
theorem driveHere_walk (w : World) (c : K) (a b : Int) (w1 : (Lit.int .u8 a).wf = true) (w2 : (Lit.int .u8 b).wf = true) :
    Calls Try.prog 7 #[Car.val c, .int .u8 a, .int .u8 b] w fun e w' => e = .returned (.bool true) ∧ Below w.heap.size w w' := by
  have ha := bounds_u8 w1
  have hb := bounds_u8 w2
  clear w1 w2
  obtain ⟨f, hf⟩ : ∃ f, a % 32 = f := ⟨_, rfl⟩
  have t1 : a.tmod 32 = f := by rw [Int.tmod_eq_emod_of_nonneg (by omega)]; exact hf
  have t2 : IntKind.u8.wrap f = f := IntWalk.u8_in _ (by omega)
  have t3 : IntKind.i64.wrap f = f := IntWalk.i64_in _ (by omega)
  obtain ⟨n, hn⟩ : ∃ n, b % 8 = n := ⟨_, rfl⟩
  have t4 : b.tmod 8 = n := by rw [Int.tmod_eq_emod_of_nonneg (by omega)]; exact hn
  have t5 : IntKind.u8.wrap n = n := IntWalk.u8_in _ (by omega)
  have t6 : IntKind.i64.wrap n = n := IntWalk.i64_in _ (by omega)
  obtain ⟨m, hm⟩ : ∃ m, n + 1 = m := ⟨_, rfl⟩
  have t7 : IntKind.i64.wrap (n + 1) = m := by rw [hm]; exact IntWalk.i64_in _ (by omega)
  have HF : Hid (Fl f) := Lib.hid ⟨by omega, by omega⟩
  have hf31 : 0 ≤ f ∧ f ≤ 31 := by omega
  have hm8 : 1 ≤ m ∧ m ≤ 8 := by omega
  clear ha hb hf hn hm
  have HA : Hid (∀ W, Calls Try.prog 8 #[] W (Says W (.bool true))) := Lib.hid fun W => awake_any W
  have HMy : Hid (∀ W, Calls Try.prog 9 #[Car.val c] W (Says W (.bool (my c)))) := Lib.hid fun W => may_any c W
  have hj := Lib.hid (J.one w (Car.arr c) 23)
  by_cases hy : my c = true
  case neg =>
    rw [Bool.not_eq_true] at hy
    rw [hy] at HMy
    clear hy
    obtain ⟨p, v, l⟩ := c
    unfold Car.val Car.arr at *
    simp only at *
    go_enter Try.func7, Try.ntmps7
    go_wp2_with (first
      | (go_at_call 8; refine (HA.out _).mono ?_; clear HA; rintro e w1 ⟨rfl, h1⟩; have hj1 := Lib.hid (hj.out.next h1); clear h1 hj; obtain ⟨a0, a1, a2⟩ := (hj1.out.bx 0 rfl).c3)
      | (go_at_call 9; refine (HMy.out _).mono ?_; clear HMy; rintro e w2 ⟨rfl, h2⟩; have hj2 := Lib.hid (hj1.out.next h2)))
    go_ret
    exact ⟨rfl, hj2.out.below⟩
  rw [hy] at HMy
  obtain ⟨p0, p1, v0, v1⟩ := my_bd hy
  clear hy
  have p2 : c.p ≤ 1000000 := by omega
  obtain ⟨t, ht⟩ : ∃ t, 8 * f = t := ⟨_, rfl⟩
  have t8 : IntKind.i64.wrap (8 * f) = t := by rw [← ht]; exact IntWalk.i64_in _ (by omega)
  have hw0 : wy ⟨t, c.v, 0⟩ f = 0 := by unfold wy; simp only; omega
  have hw1 : wy ⟨c.p, 0, 0⟩ f = wy c f := rfl
  have HV1 : Hid (∀ W, Calls Try.prog 10 #[.agg #[.int .i64 t, .int .i64 c.v, .int .i64 0], .int .i64 f, .int .i64 m, .bool true] W (Says W (.tuple #[.int .i64 0, .bool true]))) := Lib.hid fun W => by
    have h := Vel_any ⟨t, c.v, 0⟩ (by simp only; omega) (by simp only; omega) v0 v1 f HF.out m true W
    rcases vl_cases ⟨t, c.v, 0⟩ f m with ⟨h1, h2, h3⟩ | h1 | h1 | h1 | h1
    · rw [h2, h3] at h; exact h
    all_goals exfalso; omega
  have hsg := sg_3 (wy c f)
  have HV2 : Hid (∀ W, Calls Try.prog 10 #[.agg #[.int .i64 c.p, .int .i64 0, .int .i64 0], .int .i64 f, .int .i64 m, .bool true] W (Says W (.tuple #[.int .i64 (sg (wy c f)), .bool (sg (wy c f) == 0)]))) := Lib.hid fun W => by
    have h := Vel_any ⟨c.p, 0, 0⟩ p0 p2 (show (-8 : Int) ≤ 0 by decide) (show (0 : Int) ≤ 8 by decide) f HF.out m true W
    have hbd := wy_bd p0 p2 (c := c) (f := f) HF.out
    have hn : 0 < sz (wy c f) → nn ⟨c.p, 0, 0⟩ f m = 1 := fun hp => by
      unfold nn
      rw [hw1, show sz (K.v ⟨c.p, 0, 0⟩) = 0 from rfl]
      have hz : sz (wy c f) ≤ 1000 := by unfold wy at *; omega
      rw [PlaP.Nx_id (by omega) (by omega) (by omega) hz hm8.1 hm8.2]
      have := (PlaP.nx_rest (l := sz (wy c f)) (by omega) hm8.1 hm8.2).1
      omega
    rcases vl_cases ⟨c.p, 0, 0⟩ f m with ⟨h1, h2, h3⟩ | h1 | h1 | ⟨h1, h2, h3, h4⟩ | ⟨h1, h2, h3, h4⟩
    · rw [h2, h3] at h
      rw [hw1] at h1
      have e : sg (wy c f) = 0 := by omega
      rw [e]; exact h
    · exfalso; have := h1.2.1; simp only at this; omega
    · exfalso; have := h1.2.1; simp only at this; omega
    · rw [hw1] at h1
      have e : sg (wy c f) = 1 := by omega
      rw [h3, h4, hn (by omega)] at h
      rw [e]; exact h
    · rw [hw1] at h1
      have e : sg (wy c f) = -1 := by omega
      rw [h3, h4, hn (by omega)] at h
      rw [e]; exact h
  have HY : Hid (∀ W, Calls Try.prog 15 #[Car.val c, .int .i64 f] W (Says W (.int .i64 (sg (wy c f))))) := Lib.hid fun W => Way_any c p0 p2 f HF.out W
  have HTh : Hid (∀ W, Calls Try.prog 17 #[.agg #[.int .i64 t, .int .i64 c.v, .int .i64 0], .int .i64 f] W (Says W (.bool (c.v == 0)))) := Lib.hid fun W => by
    have h := There_any ⟨t, c.v, 0⟩ (by simp only; omega) (by simp only; omega) f HF.out W
    have e : th ⟨t, c.v, 0⟩ f = (c.v == 0) := by unfold th; rw [hw0, beq_dec Iff.rfl]; simp
    rw [e] at h; exact h
  clear hsg hw0 hw1 ht p0 p1 p2 v0 v1 hf31 hm8
  generalize sg (wy c f) = s at *
  obtain ⟨p, v, l⟩ := c
  unfold Car.val Car.arr at *
  simp only at *
  obtain ⟨T, hT⟩ : ∃ T, (v == 0) = T := ⟨_, rfl⟩
  obtain ⟨B, hB⟩ : ∃ B, (s == 0) = B := ⟨_, rfl⟩
  rw [hT] at HTh
  rw [hB] at HV2
  have z1 : (s == s) = true := by simp
  have z2 : (B == B) = true := by simp
  have z3 : (T == T) = true := by simp
  go_enter Try.func7, Try.ntmps7
  go_wp2_with (first
    | (go_at_call 8; refine (HA.out _).mono ?_; clear HA; rintro e w1 ⟨rfl, h1⟩; have hj1 := Lib.hid (hj.out.next h1); clear h1 hj; obtain ⟨a0, a1, a2⟩ := (hj1.out.bx 0 rfl).c3)
    | (go_at_call 9; refine (HMy.out _).mono ?_; clear HMy a0 a1 a2; rintro e w2 ⟨rfl, h2⟩; have hj2 := Lib.hid ((hj1.out.next h2).push #[.int .i64 t, .int .i64 v, .int .i64 0] 23); obtain ⟨c0, c1, c2⟩ := ((hj1.out.next h2).bx 0 rfl).c3; clear h2 hj1; obtain ⟨b0, b1, b2⟩ := (hj2.out.bx 0 rfl).c3; obtain ⟨a0, a1, a2⟩ := (hj2.out.bx 1 rfl).c3)
    | (go_at_call 10; (with_reducible refine (HV1.out _).mono ?_); clear HV1 a0 a1 a2 b0 b1 b2 c0 c1 c2; rintro e w3 ⟨rfl, h3⟩; have hj3 := Lib.hid (hj2.out.next h3); clear h3 hj2; obtain ⟨a0, a1, a2⟩ := (hj3.out.bx 1 rfl).c3)
    | (go_at_call 10; (with_reducible refine (HV2.out _).mono ?_); clear HV2 a0 a1 a2; rintro e w4 ⟨rfl, h4⟩; have hj4 := Lib.hid (hj3.out.next h4); clear h4 hj3; obtain ⟨a0, a1, a2⟩ := (hj4.out.bx 1 rfl).c3)
    | (go_at_call 15; (with_reducible refine (HY.out _).mono ?_); clear HY a0 a1 a2; rintro e w5 ⟨rfl, h5⟩; have hj5 : Hid (JS w _ _) := Lib.hid (hj4.out.next h5); clear h5 hj4))
  refine wp_region_all _ JS.closed hj5.out (by kernel_rfl) (by kernel_rfl) ?_
  apply Exists.intro
  refine ⟨fun w6 h6 => ?_, fun W6 hJ6 hb6 => ?_⟩
  · haveI := Ext.some h6
    obtain ⟨q0, q1, q2⟩ := ext3 h6 0 rfl
    obtain ⟨q3, q4, q5⟩ := ext3 h6 1 rfl
    have cTh := Lib.hid (Ext.calls h6 JS.closed (fun W _ => HTh.out W))
    repeat go_big_quiet_step (first | (go_at_call 17; with_reducible exact cTh.out _))
    exact wpQuiet_nil rfl
  · go_wp2
    go_ret
    exact ⟨rfl, J.below hJ6⟩

end Go.Proofs.Ytmdljmlnfihmcaa.Walk
