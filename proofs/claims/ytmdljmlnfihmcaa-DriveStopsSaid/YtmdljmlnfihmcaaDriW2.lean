/- The walk of DriveStops. -/
import Derived.Test.YtmdljmlnfihmcaaDriB
import Derived.Test.YtmdljmlnfihmcaaCarC
import Derived.OpenShut
namespace Go.Proofs.Ytmdljmlnfihmcaa.Walk
open Go.RowKit Go.ChangeShapes Go.Proofs.Ytmdljmlnfihmcaa.CarP Go.Proofs.Ytmdljmlnfihmcaa.DriP Go.Proofs.Ytmdljmlnfihmcaa.Dri Go.Proofs.Ytmdljmlnfihmcaa.Box Go.Proofs.Ytmdljmlnfihmcaa.Held
set_option linter.unusedVariables false

theorem fld1 (a b c : Int) (W : World) : (Instr.field 23 (.agg #[.int .i64 a, .int .i64 b, .int .i64 c]) 1).run Try.prog W = .ok (.int .i64 b) W := by kernel_rfl

set_option maxRecDepth 100000 in
set_option maxHeartbeats 6400000 in
theorem driveStops_walk (w : World) (c : K) (a b : Int) (w1 : (Lit.int .u8 a).wf = true) (w2 : (Lit.int .u8 b).wf = true) :
    Calls Try.prog 5 #[Car.val c, .int .u8 a, .int .u8 b] w fun e w' => e = .returned (.bool true) ∧ Below w.heap.size w w' := by
  have ha := bounds_u8 w1
  have hb := bounds_u8 w2
  clear w1 w2
  obtain ⟨f, hf⟩ : ∃ f, a % 32 = f := ⟨_, rfl⟩
  have t1 : a.tmod 32 = f := by rw [Int.tmod_eq_emod_of_nonneg (by omega)]; exact hf
  have t2 : IntKind.u8.wrap f = f := IntWalk.u8_in _ (by omega)
  have t3 : IntKind.i64.wrap f = f := IntWalk.i64_in _ (by omega)
  obtain ⟨n, hn⟩ : ∃ n, b % 8 = n := ⟨_, rfl⟩
  have t4 : b.tmod 8 = n := by rw [Int.tmod_eq_emod_of_nonneg (by omega)]; exact hn
  have t5 : IntKind.u8.wrap n = n := IntWalk.u8_in _ (by omega)
  have t6 : IntKind.i64.wrap n = n := IntWalk.i64_in _ (by omega)
  obtain ⟨m, hm⟩ : ∃ m, n + 1 = m := ⟨_, rfl⟩
  have t7 : IntKind.i64.wrap (n + 1) = m := by rw [hm]; exact IntWalk.i64_in _ (by omega)
  have HF : Hid (Fl f) := Lib.hid ⟨by omega, by omega⟩
  have hf31 : 0 ≤ f ∧ f ≤ 31 := by omega
  have hm8 : 1 ≤ m ∧ m ≤ 8 := by omega
  clear ha hb hf hn hm
  have HA : Hid (∀ W, Calls Try.prog 8 #[] W (Says W (.bool true))) := Lib.hid fun W => awake_any W
  have HMy : Hid (∀ W, Calls Try.prog 9 #[Car.val c] W (Says W (.bool (my c)))) := Lib.hid fun W => may_any c W
  have hj := Lib.hid (J.one w (Car.arr c) 23)
  by_cases hy : my c = true
  case neg =>
    rw [Bool.not_eq_true] at hy
    rw [hy] at HMy
    clear hy
    obtain ⟨p, v, l⟩ := c
    unfold Car.val Car.arr at *
    simp only at *
    go_enter Try.func5, Try.ntmps5
    go_wp2_with (first
      | (go_at_call 8; refine (HA.out _).mono ?_; clear HA; rintro e w1 ⟨rfl, h1⟩; have hj1 := Lib.hid (hj.out.next h1); clear h1 hj; obtain ⟨a0, a1, a2⟩ := (hj1.out.bx 0 rfl).c3)
      | (go_at_call 9; refine (HMy.out _).mono ?_; clear HMy; rintro e w2 ⟨rfl, h2⟩; have hj2 := Lib.hid (hj1.out.next h2)))
    go_ret
    exact ⟨rfl, hj2.out.below⟩
  rw [hy] at HMy
  obtain ⟨p0, p1, v0, v1⟩ := my_bd hy
  clear hy
  have p2 : c.p ≤ 1000000 := by omega
  have HV1 : Hid (∀ W, Calls Try.prog 10 #[Car.val c, .int .i64 f, .int .i64 m, .bool false] W (Says W (.tuple #[.int .i64 0, .bool true]))) := Lib.hid fun W => Vel_any c p0 p2 v0 v1 f HF.out m false W
  have HV2 : Hid (∀ W, Calls Try.prog 10 #[Car.val c, .int .i64 f, .int .i64 m, .bool true] W (Says W (.tuple #[.int .i64 (vl c f m true), .bool (br c f m true)]))) := Lib.hid fun W => Vel_any c p0 p2 v0 v1 f HF.out m true W
  have HY : Hid (∀ W, Calls Try.prog 15 #[Car.val c, .int .i64 f] W (Says W (.int .i64 (sg (wy c f))))) := Lib.hid fun W => Way_any c p0 p2 f HF.out W
  have HS : Hid (∀ W, Calls Try.prog 18 #[Car.val c, .int .i64 0, .bool true, .int .i64 32] W (Says W (.agg #[.int .i64 c.p, .int .i64 0, .int .i64 c.l]))) := Lib.hid fun W => Car.Step_any c ⟨p0, p2, v0, v1⟩ 0 true 32 W
  have hfd := fld1 c.p 0 c.l
  have hvl := vl_cases c f m
  have hnn := @nn_bd c f m
  have hsg := sg_3 (wy c f)
  have hvb := vl_bd v0 v1 f m true
  obtain ⟨q, hq⟩ : ∃ q, sg (wy c f) * c.v = q := ⟨_, rfl⟩
  obtain ⟨r, hr⟩ : ∃ r, vl c f m true * sg (wy c f) = r := ⟨_, rfl⟩
  obtain ⟨y, hyy⟩ : ∃ y, vl c f m true * vl c f m true = y := ⟨_, rfl⟩
  obtain ⟨z, hz⟩ : ∃ z, c.v * c.v = z := ⟨_, rfl⟩
  have sq : ∀ n : Int, -8 ≤ n → n ≤ 8 → 0 ≤ n * n ∧ n * n ≤ 64 := fun n h0 h1 => by
    have : ∀ k : Fin 17, 0 ≤ ((k.val : Int) - 8) * ((k.val : Int) - 8) ∧ ((k.val : Int) - 8) * ((k.val : Int) - 8) ≤ 64 := by decide
    have := this ⟨(n + 8).toNat, by omega⟩
    simp only [Int.toNat_of_nonneg (show 0 ≤ n + 8 by omega)] at this
    rwa [show n + 8 - 8 = n by omega] at this
  have g3 : IntKind.i64.wrap (vl c f m true * vl c f m true) = y := by rw [← hyy]; have := sq _ hvb.1 hvb.2; exact IntWalk.i64_in _ (by omega)
  have g4 : IntKind.i64.wrap (c.v * c.v) = z := by rw [← hz]; have := sq _ v0 v1; exact IntWalk.i64_in _ (by omega)
  have hq' : IntKind.i64.wrap (sg (wy c f) * c.v) = q ∧ -8 ≤ q ∧ q ≤ 8 := by
    rw [← hq]
    have : -8 ≤ sg (wy c f) * c.v ∧ sg (wy c f) * c.v ≤ 8 := by rcases hsg with h | h | h <;> rw [h.1] <;> omega
    exact ⟨IntWalk.i64_in _ (by omega), this⟩
  have hr' : IntKind.i64.wrap (vl c f m true * sg (wy c f)) = r ∧ -8 ≤ r ∧ r ≤ 8 := by
    rw [← hr]
    have : -8 ≤ vl c f m true * sg (wy c f) ∧ vl c f m true * sg (wy c f) ≤ 8 := by rcases hsg with h | h | h <;> rw [h.1] <;> omega
    exact ⟨IntWalk.i64_in _ (by omega), this⟩
  obtain ⟨g1, q0, q1⟩ := hq'
  obtain ⟨g2, r0, r1⟩ := hr'
  have ways : (q < 0 ∧ br c f m true = false ∧ r ≤ 0 ∧ y < z) ∨ (¬ q < 0 ∧ 0 ≤ r ∧ (sg (wy c f) != 0) = true) ∨ (¬ q < 0 ∧ 0 ≤ r ∧ (sg (wy c f) != 0) = false ∧ br c f m true = true) := by
    rcases hvl with ⟨h1, h2, h3⟩ | ⟨h1, h2, h3, h4⟩ | ⟨h1, h2, h3, h4⟩ | ⟨h1, h2, h3, h4⟩ | ⟨h1, h2, h3, h4⟩
    · have e : sg (wy c f) = 0 := by omega
      right; right; rw [e] at hq hr ⊢; exact ⟨by omega, by omega, by simp, h3⟩
    · have e : sg (wy c f) = 1 := by omega
      left; rw [e] at hq hr
      refine ⟨by omega, h4, by omega, ?_⟩
      rw [← hyy, ← hz, h3, Int.add_mul, Int.mul_add]; omega
    · have e : sg (wy c f) = -1 := by omega
      left; rw [e] at hq hr
      refine ⟨by omega, h4, by omega, ?_⟩
      rw [← hyy, ← hz, h3, Int.sub_mul, Int.mul_sub]; omega
    · have e : sg (wy c f) = 1 := by omega
      right; left; rw [e] at hq hr ⊢; exact ⟨by omega, by omega, by simp⟩
    · have e : sg (wy c f) = -1 := by omega
      right; left; rw [e] at hq hr ⊢; exact ⟨by omega, by omega, by simp⟩
  clear hvl hnn hsg hvb hq hr hyy hz sq p0 p1 p2 v0 v1 hf31 hm8 q0 q1 r0 r1
  generalize vl c f m true = V at *
  generalize br c f m true = B at *
  generalize sg (wy c f) = s at *
  obtain ⟨p, v, l⟩ := c
  unfold Car.val Car.arr at *
  simp only at *
  rcases ways with ⟨k1, rfl, k2, k3⟩ | ⟨k1, k2, k3⟩ | ⟨k1, k2, k3, rfl⟩
  all_goals
    go_enter Try.func5, Try.ntmps5
    go_wp2_with (first
      | (go_at_call 8; refine (HA.out _).mono ?_; clear HA; rintro e w1 ⟨rfl, h1⟩; have hj1 := Lib.hid (hj.out.next h1); clear h1 hj; obtain ⟨a0, a1, a2⟩ := (hj1.out.bx 0 rfl).c3)
      | (go_at_call 9; refine (HMy.out _).mono ?_; clear HMy a0 a1 a2; rintro e w2 ⟨rfl, h2⟩; have hj2 := Lib.hid (hj1.out.next h2); clear h2 hj1; obtain ⟨a0, a1, a2⟩ := (hj2.out.bx 0 rfl).c3)
      | (go_at_call 10; (with_reducible refine (HV1.out _).mono ?_); clear HV1 a0 a1 a2; rintro e w3 ⟨rfl, h3⟩; have hj3 := Lib.hid (hj2.out.next h3); clear h3 hj2; obtain ⟨a0, a1, a2⟩ := (hj3.out.bx 0 rfl).c3)
      | (go_at_call 10; (with_reducible refine (HV2.out _).mono ?_); clear HV2 a0 a1 a2; rintro e w4 ⟨rfl, h4⟩; have hj4 := Lib.hid (hj3.out.next h4); clear h4 hj3; obtain ⟨a0, a1, a2⟩ := (hj4.out.bx 0 rfl).c3)
      | (go_at_call 15; (with_reducible refine (HY.out _).mono ?_); clear HY a0 a1 a2; rintro e w5 ⟨rfl, h5⟩; have hj5 := Lib.hid (hj4.out.next h5); clear h5 hj4; obtain ⟨a0, a1, a2⟩ := (hj5.out.bx 0 rfl).c3)
      | (go_at_call 18; (with_reducible refine (HS.out _).mono ?_); clear HS a0 a1 a2; rintro e w6 ⟨rfl, h6⟩; have hj6 := Lib.hid (hj5.out.next h6); clear h6 hj5; obtain ⟨a0, a1, a2⟩ := (hj6.out.bx 0 rfl).c3))
    go_ret
    exact ⟨rfl, hj6.out.below⟩

end Go.Proofs.Ytmdljmlnfihmcaa.Walk
