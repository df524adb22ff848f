/- Contracts of layer 13's reference. -/
import Derived.Test.YtmdljmlnfihmcaaDriA
import Derived.Test.YtmdljmlnfihmcaaPlaE0
import Derived.Test.YtmdljmlnfihmcaaHeld
namespace Go.Proofs.Ytmdljmlnfihmcaa.Dri
open Go.RowKit Go.Proofs.Ytmdljmlnfihmcaa.CarP Go.Proofs.Ytmdljmlnfihmcaa.DriP Go.Proofs.Ytmdljmlnfihmcaa.Box Go.Proofs.Ytmdljmlnfihmcaa.Held
set_option linter.unusedVariables false

theorem refSize_any (n : Int) (h0 : -100000000 ≤ n) (h1 : n ≤ 100000000) (w : World) : Calls Try.prog 24 #[.int .i64 n] w (Says w (.int .i64 (sz n))) := by
  by_cases h : n < 0
  · have e : sz n = -n := by unfold sz; rw [if_pos h]
    rw [e]
    have e1 : IntKind.i64.wrap (-n) = -n := IntWalk.i64_in _ (by omega)
    clear e
    go_enter Try.func24, Try.ntmps24
    go_wp2
    go_ret
    exact ⟨rfl, Below.refl _ _⟩
  · have e : sz n = n := by unfold sz; rw [if_neg h]
    rw [e]
    clear e
    go_enter Try.func24, Try.ntmps24
    go_wp2
    go_ret
    exact ⟨rfl, Below.refl _ _⟩

theorem refWay_any (c : K) (p0 : 0 ≤ c.p) (p1 : c.p ≤ 1000000) (f : Int) (hf : Fl f) (w : World) : Calls Try.prog 16 #[Car.val c, .int .i64 f] w (Says w (.int .i64 (sg (wy c f)))) := by
  obtain ⟨f0, f1⟩ := hf
  have hs := sg_3 (wy c f)
  have hw : wy c f = f * 8 - c.p := rfl
  generalize sg (wy c f) = s at *
  generalize wy c f = y at *
  obtain ⟨p, v, l⟩ := c
  unfold Car.val
  simp only at *
  obtain ⟨t, ht⟩ : ∃ t, 8 * f = t := ⟨_, rfl⟩
  have e1 : IntKind.i64.wrap (8 * f) = t := by rw [← ht]; exact IntWalk.i64_in _ (by omega)
  have ways : (s = 1 ∧ p < t) ∨ (s = -1 ∧ ¬ p < t ∧ t < p) ∨ (s = 0 ∧ ¬ p < t ∧ ¬ t < p) := by rcases hs with h | h | h <;> omega
  clear hs hw p0 p1 ht
  rcases ways with ⟨rfl, k1⟩ | ⟨rfl, k1, k2⟩ | ⟨rfl, k1, k2⟩
  all_goals
    go_enter Try.func16, Try.ntmps16
    go_wp2
    go_ret
    exact ⟨rfl, below_box⟩

set_option maxHeartbeats 3200000 in
theorem refVel_any (c : K) (p0 : 0 ≤ c.p) (p1 : c.p ≤ 1000000) (v0 : -8 ≤ c.v) (v1 : c.v ≤ 8) (f : Int) (hf : Fl f) (m : Int) (g : Bool) (w : World) :
    Calls Try.prog 11 #[Car.val c, .int .i64 f, .int .i64 m, .bool g] w (Says w (.tuple #[.int .i64 (vl c f m g), .bool (br c f m g)])) := by
  have hb := wy_bd p0 p1 hf
  have HW : Hid (∀ W, Calls Try.prog 16 #[Car.val c, .int .i64 f] W (Says W (.int .i64 (sg (wy c f))))) := Lib.hid fun W => refWay_any c p0 p1 f hf W
  have HV : Hid (∀ W, Calls Try.prog 24 #[.int .i64 c.v] W (Says W (.int .i64 (sz c.v)))) := Lib.hid fun W => refSize_any _ (by omega) (by omega) W
  have HY : Hid (∀ W, Calls Try.prog 24 #[.int .i64 (wy c f)] W (Says W (.int .i64 (sz (wy c f))))) := Lib.hid fun W => refSize_any _ (by omega) (by omega) W
  have HN : Hid (∀ W, Calls Try.prog 23 #[.int .i64 (sz c.v), .int .i64 (sz (wy c f)), .int .i64 m] W (Says W (.int .i64 (nn c f m)))) := Lib.hid fun W => says_of_same (Pla.refNext_any _ _ m W)
  have hn := @nn_bd c f m
  have hws := sg_3 (wy c f)
  have hno := vl_no c f m
  have hyes := vl_cases c f m
  have hw : wy c f = f * 8 - c.p := rfl
  have e1 : IntKind.i64.wrap (8 * f - c.p) = wy c f := by rw [hw, show 8 * f - c.p = f * 8 - c.p by omega]; exact IntWalk.i64_in _ (by omega)
  obtain ⟨V, hV⟩ : ∃ V, vl c f m g = V := ⟨_, rfl⟩
  obtain ⟨B, hB⟩ : ∃ B, br c f m g = B := ⟨_, rfl⟩
  obtain ⟨t, ht⟩ : ∃ t, 8 * f = t := ⟨_, rfl⟩
  rw [hV, hB]
  have e0 : IntKind.i64.wrap (8 * f) = t := by rw [← ht]; obtain ⟨f0, f1⟩ := hf; exact IntWalk.i64_in _ (by omega)
  rw [ht] at e1
  generalize nn c f m = x at *
  have hj := Lib.hid (J.one w (Car.arr c) 29)
  have ways : (g = false ∧ V = 0 ∧ B = true) ∨ (g = true ∧ sg (wy c f) = 0 ∧ V = 0 ∧ B = true) ∨
      (g = true ∧ sg (wy c f) = 1 ∧ decide (c.v < 0) = true ∧ V = c.v + 1 ∧ B = false) ∨ (g = true ∧ sg (wy c f) = -1 ∧ decide (0 < c.v) = true ∧ V = c.v - 1 ∧ B = false) ∨
      (g = true ∧ sg (wy c f) = 1 ∧ decide (c.v < 0) = false ∧ V = 1 * x ∧ B = decide (x = 0)) ∨ (g = true ∧ sg (wy c f) = -1 ∧ decide (0 < c.v) = false ∧ V = -1 * x ∧ B = decide (x = 0)) := by
    cases g
    · left; exact ⟨rfl, by rw [← hV, hno.1], by rw [← hB, hno.2]⟩
    · right
      rcases hyes with ⟨h1, h2, h3⟩ | ⟨h1, h2, h3, h4⟩ | ⟨h1, h2, h3, h4⟩ | ⟨h1, h2, h3, h4⟩ | ⟨h1, h2, h3, h4⟩
      · left; exact ⟨rfl, by omega, by omega, by rw [← hB, h3]⟩
      · right; left; exact ⟨rfl, by omega, by simpa using h2, by omega, by rw [← hB, h4]⟩
      · right; right; left; exact ⟨rfl, by omega, by simpa using h2, by omega, by rw [← hB, h4]⟩
      · right; right; right; left; exact ⟨rfl, by omega, by simp; omega, by omega, by rw [← hB, h4]⟩
      · right; right; right; right; exact ⟨rfl, by omega, by simp; omega, by omega, by rw [← hB, h4]⟩
  clear hno hyes hws hV hB hw ht
  generalize wy c f = y at *
  obtain ⟨p, v, l⟩ := c
  unfold Car.val Car.arr at *
  simp only at *
  have d1 : IntKind.i64.wrap (v + 1) = v + 1 := IntWalk.i64_in _ (by omega)
  have d2 : IntKind.i64.wrap (v - 1) = v - 1 := IntWalk.i64_in _ (by omega)
  have d3 : IntKind.i64.wrap (1 * x) = x := by rw [Int.one_mul]; exact IntWalk.i64_in _ (by omega)
  have d4 : IntKind.i64.wrap (-1 * x) = -x := by rw [show -1 * x = -x by omega]; exact IntWalk.i64_in _ (by omega)
  have d5 : IntKind.i64.wrap x = x := IntWalk.i64_in _ (by omega)
  have d6 : IntKind.i64.wrap (-x) = -x := IntWalk.i64_in _ (by omega)
  clear hb p0 p1 v0 v1 hn
  generalize sg y = s at *
  generalize sz y = zy at *
  generalize sz v = zv at *
  rcases ways with ⟨rfl, rfl, rfl⟩ | ⟨rfl, rfl, rfl, rfl⟩ | ⟨rfl, rfl, k1, rfl, rfl⟩ | ⟨rfl, rfl, k1, rfl, rfl⟩ | ⟨rfl, rfl, k1, rfl, rfl⟩ | ⟨rfl, rfl, k1, rfl, rfl⟩
  iterate 4
    · go_enter Try.func11, Try.ntmps11
      go_wp2_with (go_at_call 16; (with_reducible refine (HW.out _).mono ?_); clear HW; rintro e w1 ⟨rfl, h1⟩; have hj1 := Lib.hid (hj.out.next h1); clear h1 hj; obtain ⟨a0, a1, a2⟩ := (hj1.out.bx 0 rfl).c3)
      go_ret2
      exact ⟨rfl, hj1.out.below⟩
  all_goals
    go_enter Try.func11, Try.ntmps11
    go_wp2_with (go_at_call 16; (with_reducible refine (HW.out _).mono ?_); clear HW; rintro e w1 ⟨rfl, h1⟩; have hj1 : Hid (JS w _ _) := Lib.hid (hj.out.next h1); clear h1 hj; obtain ⟨a0, a1, a2⟩ := (hj1.out.bx 0 rfl).c3)
    clear a0 a1 a2
    refine wp_region_all _ JS.closed hj1.out (by kernel_rfl) (by kernel_rfl) ?_
    apply Exists.intro
    refine ⟨fun w3 h3 => ?_, fun W3 hJ3 hb3 => ?_⟩
    · haveI := Ext.some h3
      obtain ⟨q0, q1, q2⟩ := ext3 h3 0 rfl
      have c1 := Lib.hid (Ext.calls h3 JS.closed (fun W _ => HV.out W))
      have c2 := Lib.hid (Ext.calls h3 JS.closed (fun W _ => HY.out W))
      have c3 := Lib.hid (Ext.calls h3 JS.closed (fun W _ => HN.out W))
      repeat go_big_quiet_step (first | (go_at_call 24; with_reducible exact c1.out _) | (go_at_call 24; with_reducible exact c2.out _) | (go_at_call 23; with_reducible exact c3.out _))
      exact wpQuiet_nil rfl
    · go_wp2
      go_ret2
      exact ⟨ret_pair ⟨by omega, beq_dec Iff.rfl⟩, J.below hJ3⟩

set_option maxHeartbeats 3200000 in
theorem refWhat_any (c : K) (v0 : -8 ≤ c.v) (v1 : c.v ≤ 8) (x : Int) (x0 : -1000 ≤ x) (x1 : x ≤ 1000) (b : Bool) (w : World) : Calls Try.prog 14 #[Car.val c, .int .i64 x, .bool b] w (Says w (.int .i64 (wt c.v x b))) := by
  have HQ : Hid (∀ W, Calls Try.prog 24 #[.int .i64 x] W (Says W (.int .i64 (sz x)))) := Lib.hid fun W => refSize_any _ (by omega) (by omega) W
  have HR : Hid (∀ W, Calls Try.prog 24 #[.int .i64 c.v] W (Says W (.int .i64 (sz c.v)))) := Lib.hid fun W => refSize_any _ (by omega) (by omega) W
  have hwt : wt c.v x b = if b = true then 0 else if x = 0 then 0 else if sz c.v < sz x then 1 else if sz x < sz c.v then 3 else 2 := rfl
  generalize wt c.v x b = r at *
  generalize sz x = zx at *
  have hj := Lib.hid (J.one w (Car.arr c) 29)
  obtain ⟨p, v, l⟩ := c
  unfold Car.val Car.arr at *
  simp only at *
  generalize sz v = zv at *
  clear v0 v1 x0 x1
  have ways : (b = true ∧ r = 0) ∨ (b = false ∧ x = 0 ∧ r = 0) ∨ (b = false ∧ (x == 0) = false ∧ zv < zx ∧ r = 1) ∨ (b = false ∧ (x == 0) = false ∧ ¬ zv < zx ∧ zx < zv ∧ r = 3) ∨ (b = false ∧ (x == 0) = false ∧ ¬ zv < zx ∧ ¬ zx < zv ∧ r = 2) := by
    cases b
    · rw [if_neg (by simp)] at hwt
      right
      by_cases h : x = 0
      · left; rw [if_pos h] at hwt; exact ⟨rfl, h, hwt⟩
      · rw [if_neg h] at hwt
        have hz : (x == 0) = false := by simpa using h
        right
        by_cases h1 : zv < zx
        · left; rw [if_pos h1] at hwt; exact ⟨rfl, hz, h1, hwt⟩
        · rw [if_neg h1] at hwt
          right
          by_cases h2 : zx < zv
          · left; rw [if_pos h2] at hwt; exact ⟨rfl, hz, h1, h2, hwt⟩
          · right; rw [if_neg h2] at hwt; exact ⟨rfl, hz, h1, h2, hwt⟩
    · left; rw [if_pos rfl] at hwt; exact ⟨rfl, hwt⟩
  clear hwt
  rcases ways with ⟨rfl, rfl⟩ | ⟨rfl, rfl, rfl⟩ | ⟨rfl, k1, k2, rfl⟩ | ⟨rfl, k1, k2, k3, rfl⟩ | ⟨rfl, k1, k2, k3, rfl⟩
  iterate 2
    · go_enter Try.func14, Try.ntmps14
      go_wp2
      go_ret
      exact ⟨rfl, below_box⟩
  all_goals
    have hj1 : Hid (JS w _ _) := hj
    clear hj
    go_enter Try.func14, Try.ntmps14
    go_wp2
    refine wp_region_all _ JS.closed hj1.out (by kernel_rfl) (by kernel_rfl) ?_
    apply Exists.intro
    refine ⟨fun w3 h3 => ?_, fun W3 hJ3 hb3 => ?_⟩
    · haveI := Ext.some h3
      obtain ⟨q0, q1, q2⟩ := ext3 h3 0 rfl
      have c1 := Lib.hid (Ext.calls h3 JS.closed (fun W _ => HQ.out W))
      have c2 := Lib.hid (Ext.calls h3 JS.closed (fun W _ => HR.out W))
      repeat go_big_quiet_step (first | (go_at_call 24; with_reducible exact c1.out _) | (go_at_call 24; with_reducible exact c2.out _))
      exact wpQuiet_nil rfl
    go_wp2
    have hj2 : Hid (JS w _ _) := Lib.hid hJ3
    try
      refine wp_region_all _ JS.closed hj2.out (by kernel_rfl) (by kernel_rfl) ?_
      apply Exists.intro
      refine ⟨fun w4 h4 => ?_, fun W4 hJ4 hb4 => ?_⟩
      · haveI := Ext.some h4
        obtain ⟨q0, q1, q2⟩ := ext3 h4 0 rfl
        have c1 := Lib.hid (Ext.calls h4 JS.closed (fun W _ => HQ.out W))
        have c2 := Lib.hid (Ext.calls h4 JS.closed (fun W _ => HR.out W))
        repeat go_big_quiet_step (first | (go_at_call 24; with_reducible exact c1.out _) | (go_at_call 24; with_reducible exact c2.out _))
        exact wpQuiet_nil rfl
      go_wp2
    go_ret
    first
      | exact ⟨rfl, J.below hJ4⟩
      | exact ⟨rfl, J.below hJ3⟩

end Go.Proofs.Ytmdljmlnfihmcaa.Dri
