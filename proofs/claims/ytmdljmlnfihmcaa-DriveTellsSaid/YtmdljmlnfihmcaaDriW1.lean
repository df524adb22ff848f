/- The walk of DriveTells. -/
import Derived.Test.YtmdljmlnfihmcaaDriR
import Derived.Test.YtmdljmlnfihmcaaDriB
import Derived.OpenShut
namespace Go.Proofs.Ytmdljmlnfihmcaa.Walk
open Go.RowKit Go.ChangeShapes Go.Proofs.Ytmdljmlnfihmcaa.CarP Go.Proofs.Ytmdljmlnfihmcaa.DriP Go.Proofs.Ytmdljmlnfihmcaa.Dri Go.Proofs.Ytmdljmlnfihmcaa.Box Go.Proofs.Ytmdljmlnfihmcaa.Held
set_option linter.unusedVariables false

theorem of_any (c : K) (w : World) : Calls Try.prog 12 #[Car.val c] w (Says w (Car.val c)) := by
  unfold Car.val
  go_enter Try.func12, Try.ntmps12
  go_wp2
  refine bodyPost_ret (v := .agg #[.int .i64 c.p, .int .i64 c.v, .int .i64 c.l]) (by simp [results, Try.results12, go_sem]) rfl ⟨rfl, ?_⟩
  exact below_two

set_option maxRecDepth 100000 in
set_option maxHeartbeats 6400000 in
theorem driveTells_walk (w : World) (c : K) (a b : Int) (g : Bool) (x : Int) (bk : Bool) (w1 : (Lit.int .u8 a).wf = true) (w2 : (Lit.int .u8 b).wf = true) (w4 : (Lit.int .i64 x).wf = true) :
    Calls Try.prog 3 #[Car.val c, .int .u8 a, .int .u8 b, .bool g, .int .i64 x, .bool bk] w fun e w' => e = .returned (.bool true) ∧ Below w.heap.size w w' := by
  clear w4
  have ha := bounds_u8 w1
  have hb := bounds_u8 w2
  clear w1 w2
  obtain ⟨f, hf⟩ : ∃ f, a % 32 = f := ⟨_, rfl⟩
  have t1 : a.tmod 32 = f := by rw [Int.tmod_eq_emod_of_nonneg (by omega)]; exact hf
  have t2 : IntKind.u8.wrap f = f := IntWalk.u8_in _ (by omega)
  have t3 : IntKind.i64.wrap f = f := IntWalk.i64_in _ (by omega)
  obtain ⟨n, hn⟩ : ∃ n, b % 8 = n := ⟨_, rfl⟩
  have t4 : b.tmod 8 = n := by rw [Int.tmod_eq_emod_of_nonneg (by omega)]; exact hn
  have t5 : IntKind.u8.wrap n = n := IntWalk.u8_in _ (by omega)
  have t6 : IntKind.i64.wrap n = n := IntWalk.i64_in _ (by omega)
  obtain ⟨m, hm⟩ : ∃ m, n + 1 = m := ⟨_, rfl⟩
  have t7 : IntKind.i64.wrap (n + 1) = m := by rw [hm]; exact IntWalk.i64_in _ (by omega)
  have HF : Hid (Fl f) := Lib.hid ⟨by omega, by omega⟩
  have hf31 : 0 ≤ f ∧ f ≤ 31 := by omega
  have hm8 : 1 ≤ m ∧ m ≤ 8 := by omega
  clear ha hb hf hn hm
  have HA : Hid (∀ W, Calls Try.prog 8 #[] W (Says W (.bool true))) := Lib.hid fun W => awake_any W
  have HMy : Hid (∀ W, Calls Try.prog 9 #[Car.val c] W (Says W (.bool (my c)))) := Lib.hid fun W => may_any c W
  have hj := Lib.hid (J.one w (Car.arr c) 23)
  have ways : (my c = false) ∨ (my c = true ∧ 100 < x) ∨ (my c = true ∧ ¬ 100 < x ∧ x < -100) ∨ (my c = true ∧ ¬ 100 < x ∧ ¬ x < -100) := by
    cases my c
    · exact .inl rfl
    · right
      by_cases h1 : 100 < x
      · exact .inl ⟨rfl, h1⟩
      · by_cases h2 : x < -100
        · exact .inr (.inl ⟨rfl, h1, h2⟩)
        · exact .inr (.inr ⟨rfl, h1, h2⟩)
  rcases ways with hy | ⟨hy, k1⟩ | ⟨hy, k1, k2⟩ | ⟨hy, k1, k2⟩
  iterate 3
    · rw [hy] at HMy
      clear hy
      obtain ⟨p, v, l⟩ := c
      unfold Car.val Car.arr at *
      simp only at *
      go_enter Try.func3, Try.ntmps3
      go_wp2_with (first
        | (go_at_call 8; refine (HA.out _).mono ?_; clear HA; rintro e w1 ⟨rfl, h1⟩; have hj1 := Lib.hid (hj.out.next h1); clear h1 hj; obtain ⟨a0, a1, a2⟩ := (hj1.out.bx 0 rfl).c3)
        | (go_at_call 9; refine (HMy.out _).mono ?_; clear HMy; rintro e w2 ⟨rfl, h2⟩; have hj2 := Lib.hid (hj1.out.next h2)))
      go_ret
      exact ⟨rfl, hj2.out.below⟩
  rw [hy] at HMy
  obtain ⟨p0, p1, v0, v1⟩ := my_bd hy
  clear hy
  have p2 : c.p ≤ 1000000 := by omega
  have HV : Hid (∀ W, Calls Try.prog 10 #[Car.val c, .int .i64 f, .int .i64 m, .bool g] W (Says W (.tuple #[.int .i64 (vl c f m g), .bool (br c f m g)]))) := Lib.hid fun W => Vel_any c p0 p2 v0 v1 f HF.out m g W
  have HRV : Hid (∀ W, Calls Try.prog 11 #[Car.val c, .int .i64 f, .int .i64 m, .bool g] W (Says W (.tuple #[.int .i64 (vl c f m g), .bool (br c f m g)]))) := Lib.hid fun W => refVel_any c p0 p2 v0 v1 f HF.out m g W
  have HO : Hid (∀ W, Calls Try.prog 12 #[Car.val c] W (Says W (Car.val c))) := Lib.hid fun W => of_any c W
  have HT : Hid (∀ W, Calls Try.prog 13 #[Car.val c, .int .i64 x, .bool bk] W (Says W (.int .i64 (wt c.v x bk)))) := Lib.hid fun W => What_any c v0 v1 x ⟨by omega, by omega⟩ bk W
  have HRT : Hid (∀ W, Calls Try.prog 14 #[Car.val c, .int .i64 x, .bool bk] W (Says W (.int .i64 (wt c.v x bk)))) := Lib.hid fun W => refWhat_any c v0 v1 x (by omega) (by omega) bk W
  have HY : Hid (∀ W, Calls Try.prog 15 #[Car.val c, .int .i64 f] W (Says W (.int .i64 (sg (wy c f))))) := Lib.hid fun W => Way_any c p0 p2 f HF.out W
  have HRY : Hid (∀ W, Calls Try.prog 16 #[Car.val c, .int .i64 f] W (Says W (.int .i64 (sg (wy c f))))) := Lib.hid fun W => refWay_any c p0 p2 f HF.out W
  have HTh : Hid (∀ W, Calls Try.prog 17 #[Car.val c, .int .i64 f] W (Says W (.bool (th c f)))) := Lib.hid fun W => There_any c p0 p2 f HF.out W
  have hth : th c f = (decide (c.p = 8 * f) && decide (c.v = 0)) := by unfold th wy; rw [decide_eq_decide.2 (show f * 8 - c.p = 0 ↔ c.p = 8 * f by omega)]
  obtain ⟨t, ht⟩ : ∃ t, 8 * f = t := ⟨_, rfl⟩
  have t8 : IntKind.i64.wrap (8 * f) = t := by rw [← ht]; exact IntWalk.i64_in _ (by omega)
  rw [ht] at hth
  clear ht hf31 hm8
  generalize vl c f m g = V at *
  generalize br c f m g = B at *
  generalize wt c.v x bk = r at *
  generalize sg (wy c f) = s at *
  generalize th c f = T at *
  obtain ⟨p, v, l⟩ := c
  unfold Car.val Car.arr at *
  simp only at *
  have z1 : (V == V) = true := by simp
  have z2 : (B == B) = true := by simp
  have z3 : (r == r) = true := by simp
  have z4 : (s == s) = true := by simp
  have z5 : (T == T) = true := by simp
  have kx : (v = 0 ∧ (p == t) = T) ∨ ((v == 0) = false ∧ T = false) := by
    by_cases h : v = 0
    · left; exact ⟨h, by rw [hth, beq_dec Iff.rfl]; simp [h]⟩
    · right; exact ⟨by simpa using h, by rw [hth]; simp [h]⟩
  clear hth p0 p1 p2 v0 v1
  rcases kx with ⟨rfl, k3⟩ | ⟨k3, rfl⟩
  all_goals
    go_enter Try.func3, Try.ntmps3
    go_wp2_with (first
      | (go_at_call 8; refine (HA.out _).mono ?_; clear HA; rintro e w1 ⟨rfl, h1⟩; have hj1 := Lib.hid (hj.out.next h1); clear h1 hj; obtain ⟨a0, a1, a2⟩ := (hj1.out.bx 0 rfl).c3)
      | (go_at_call 9; refine (HMy.out _).mono ?_; clear HMy a0 a1 a2; rintro e w2 ⟨rfl, h2⟩; have hj2 := Lib.hid (hj1.out.next h2); clear h2 hj1; obtain ⟨a0, a1, a2⟩ := (hj2.out.bx 0 rfl).c3)
      | (go_at_call 10; (with_reducible refine (HV.out _).mono ?_); clear HV a0 a1 a2; rintro e w3 ⟨rfl, h3⟩; have hj3 := Lib.hid (hj2.out.next h3); clear h3 hj2; obtain ⟨a0, a1, a2⟩ := (hj3.out.bx 0 rfl).c3)
      | (go_at_call 12; (with_reducible refine (HO.out _).mono ?_); clear a0 a1 a2; rintro e w4 ⟨rfl, h4⟩; have hj4 := Lib.hid (hj3.out.next h4); clear h4 hj3)
      | (go_at_call 11; (with_reducible refine (HRV.out _).mono ?_); clear HRV; rintro e w5 ⟨rfl, h5⟩; have hj5 : Hid (JS w _ _) := Lib.hid (hj4.out.next h5); clear h5 hj4))
    refine wp_region_all _ JS.closed hj5.out (by kernel_rfl) (by kernel_rfl) ?_
    apply Exists.intro
    refine ⟨fun w6 h6 => ?_, fun W6 hJ6 hb6 => ?_⟩
    · haveI := Ext.some h6
      obtain ⟨q0, q1, q2⟩ := ext3 h6 0 rfl
      have cO := Lib.hid (Ext.calls h6 JS.closed (fun W _ => HO.out W))
      have cT := Lib.hid (Ext.calls h6 JS.closed (fun W _ => HT.out W))
      have cRT := Lib.hid (Ext.calls h6 JS.closed (fun W _ => HRT.out W))
      have cY := Lib.hid (Ext.calls h6 JS.closed (fun W _ => HY.out W))
      have cRY := Lib.hid (Ext.calls h6 JS.closed (fun W _ => HRY.out W))
      have cTh := Lib.hid (Ext.calls h6 JS.closed (fun W _ => HTh.out W))
      repeat go_big_quiet_step (first | (go_at_call 12; with_reducible exact cO.out _) | (go_at_call 13; with_reducible exact cT.out _) | (go_at_call 14; with_reducible exact cRT.out _) | (go_at_call 15; with_reducible exact cY.out _) | (go_at_call 16; with_reducible exact cRY.out _) | (go_at_call 17; with_reducible exact cTh.out _))
      exact wpQuiet_nil rfl
    · go_wp2
      go_ret
      exact ⟨rfl, J.below hJ6⟩

end Go.Proofs.Ytmdljmlnfihmcaa.Walk
