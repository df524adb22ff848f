/- Contracts of drive's functions. -/
import Derived.Test.YtmdljmlnfihmcaaDriP
import Derived.Test.YtmdljmlnfihmcaaPlaC
import Derived.Test.YtmdljmlnfihmcaaCarB0
namespace Go.Proofs.Ytmdljmlnfihmcaa.Dri
open Go.RowKit Go.Proofs.Ytmdljmlnfihmcaa.CarP Go.Proofs.Ytmdljmlnfihmcaa.DriP Go.Proofs.Ytmdljmlnfihmcaa.Box
set_option linter.unusedVariables false

theorem ret_pair {a x : Int} {b c : Bool} (h : a = x ∧ b = c) : Ending.returned (.tuple #[.int .i64 a, .bool b]) = .returned (.tuple #[.int .i64 x, .bool c]) := by rw [h.1, h.2]
theorem ret_parts {a x b y : Int} (h : a = x ∧ b = y) : Ending.returned (.tuple #[.int .i64 a, .int .u64 b]) = .returned (.tuple #[.int .i64 x, .int .u64 y]) := by rw [h.1, h.2]

theorem beq_dec {a b c d : Int} (h : a = b ↔ c = d) : (a == b) = decide (c = d) := Bool.eq_iff_iff.2 (by rw [beq_iff_eq, decide_eq_true_iff]; exact h)
/-- a number that an int64 holds -/
def In (n : Int) : Prop := -9223372036854775808 ≤ n ∧ n ≤ 9223372036854775807

theorem parted_any (n : Int) (hn : In n) (w : World) : Calls Try.prog 20 #[.int .i64 n] w (Says w (.tuple #[.int .i64 (sg n), .int .u64 (sz n)])) := by
  obtain ⟨h0, h1⟩ := hn
  rcases sg_3 n with ⟨a1, a2, a3⟩ | ⟨a1, a2, a3⟩ | ⟨a1, a2, a3⟩
  · rw [a1, a3]
    subst a2
    clear a1 a3
    go_enter Try.func20, Try.ntmps20
    go_wp2
    go_ret2
    exact ⟨rfl, Below.refl _ _⟩
  · rw [a1, a3]
    have e1 : IntKind.u64.wrap n = n := IntWalk.u64_in _ (by omega)
    clear a1 a3
    go_enter Try.func20, Try.ntmps20
    go_wp2
    go_ret2
    exact ⟨rfl, Below.refl _ _⟩
  · rw [a1, a3]
    have g1 : ¬ 0 < n := by omega
    have e1 : IntKind.u64.wrap n = n + 18446744073709551616 := by
      unfold IntKind.wrap; simp [IntKind.bits, IntKind.signed]; omega
    have e2 : IntKind.u64.wrap (-(n + 18446744073709551616)) = -n := by
      unfold IntKind.wrap; simp [IntKind.bits, IntKind.signed]; omega
    clear a1 a3
    go_enter Try.func20, Try.ntmps20
    go_wp2
    go_ret2
    exact ⟨rfl, Below.refl _ _⟩

/-- a floor that may be -/
def Fl (f : Int) : Prop := 0 ≤ f ∧ f ≤ 1000000
theorem wy_bd {c : K} (p0 : 0 ≤ c.p) (p1 : c.p ≤ 1000000) {f : Int} (hf : Fl f) : -1000000 ≤ wy c f ∧ wy c f ≤ 8000000 := by
  obtain ⟨f0, f1⟩ := hf; unfold wy; omega

theorem places_any (c : K) (p0 : 0 ≤ c.p) (p1 : c.p ≤ 1000000) (f : Int) (hf : Fl f) (w : World) : Calls Try.prog 21 #[Car.val c, .int .i64 f] w (Says w (.int .i64 (wy c f))) := by
  obtain ⟨f0, f1⟩ := hf
  obtain ⟨p, v, l⟩ := c
  unfold Car.val wy
  simp only at *
  have e1 : IntKind.i64.wrap (f * 8) = f * 8 := IntWalk.i64_in _ (by omega)
  have e2 : IntKind.i64.wrap (f * 8 - p) = f * 8 - p := IntWalk.i64_in _ (by omega)
  go_enter Try.func21, Try.ntmps21
  go_wp2
  go_ret
  exact ⟨rfl, below_box⟩

theorem Way_any (c : K) (p0 : 0 ≤ c.p) (p1 : c.p ≤ 1000000) (f : Int) (hf : Fl f) (w : World) : Calls Try.prog 15 #[Car.val c, .int .i64 f] w (Says w (.int .i64 (sg (wy c f)))) := by
  have hb := wy_bd p0 p1 hf
  have HP : Hid (∀ W, Calls Try.prog 21 #[Car.val c, .int .i64 f] W (Says W (.int .i64 (wy c f)))) := Lib.hid fun W => places_any c p0 p1 f hf W
  have HQ : Hid (∀ W, Calls Try.prog 20 #[.int .i64 (wy c f)] W (Says W (.tuple #[.int .i64 (sg (wy c f)), .int .u64 (sz (wy c f))]))) := Lib.hid fun W => parted_any _ (by unfold In; omega) W
  generalize sg (wy c f) = s at *
  generalize sz (wy c f) = z at *
  clear hb
  generalize wy c f = x at *
  have hj := Lib.hid (J.one w (Car.arr c) 23)
  obtain ⟨p, v, l⟩ := c
  unfold Car.val Car.arr at *
  simp only at *
  go_enter Try.func15, Try.ntmps15
  go_wp2_with (first
    | (go_at_call 21; (with_reducible refine (HP.out _).mono ?_); clear HP; rintro e w1 ⟨rfl, h1⟩; have hj1 := Lib.hid (hj.out.next h1); clear h1)
    | (go_at_call 20; (with_reducible refine (HQ.out _).mono ?_); clear HQ; rintro e w2 ⟨rfl, h2⟩; have hj2 := Lib.hid (hj1.out.next h2); clear h2))
  go_ret
  exact ⟨rfl, hj2.out.below⟩

theorem There_any (c : K) (p0 : 0 ≤ c.p) (p1 : c.p ≤ 1000000) (f : Int) (hf : Fl f) (w : World) : Calls Try.prog 17 #[Car.val c, .int .i64 f] w (Says w (.bool (th c f))) := by
  have HP : Hid (∀ W, Calls Try.prog 21 #[Car.val c, .int .i64 f] W (Says W (.int .i64 (wy c f)))) := Lib.hid fun W => places_any c p0 p1 f hf W
  unfold th
  generalize wy c f = x at *
  have hj := Lib.hid (J.one w (Car.arr c) 23)
  obtain ⟨p, v, l⟩ := c
  unfold Car.val Car.arr at *
  simp only at *
  by_cases hx : x = 0
  · subst hx
    go_enter Try.func17, Try.ntmps17
    go_wp2_with (go_at_call 21; (with_reducible refine (HP.out _).mono ?_); clear HP; rintro e w1 ⟨rfl, h1⟩; have hj1 := Lib.hid (hj.out.next h1); clear h1 hj; obtain ⟨a0, a1, a2⟩ := (hj1.out.bx 0 rfl).c3)
    go_ret
    exact ⟨ret_bool (by rw [beq_dec Iff.rfl]; simp), hj1.out.below⟩
  · have ex : (x == 0) = false := by simpa using hx
    go_enter Try.func17, Try.ntmps17
    go_wp2_with (go_at_call 21; (with_reducible refine (HP.out _).mono ?_); clear HP; rintro e w1 ⟨rfl, h1⟩; have hj1 := Lib.hid (hj.out.next h1); clear h1 hj)
    go_ret
    exact ⟨ret_bool (by simp [hx]), hj1.out.below⟩

set_option maxHeartbeats 1600000 in
theorem Vel_any (c : K) (p0 : 0 ≤ c.p) (p1 : c.p ≤ 1000000) (v0 : -8 ≤ c.v) (v1 : c.v ≤ 8) (f : Int) (hf : Fl f) (m : Int) (g : Bool) (w : World) :
    Calls Try.prog 10 #[Car.val c, .int .i64 f, .int .i64 m, .bool g] w (Says w (.tuple #[.int .i64 (vl c f m g), .bool (br c f m g)])) := by
  have hb := wy_bd p0 p1 hf
  have HP : Hid (∀ W, Calls Try.prog 21 #[Car.val c, .int .i64 f] W (Says W (.int .i64 (wy c f)))) := Lib.hid fun W => places_any c p0 p1 f hf W
  have HQ : Hid (∀ W, Calls Try.prog 20 #[.int .i64 (wy c f)] W (Says W (.tuple #[.int .i64 (sg (wy c f)), .int .u64 (sz (wy c f))]))) := Lib.hid fun W => parted_any _ (by unfold In; omega) W
  have HR : Hid (∀ W, Calls Try.prog 20 #[.int .i64 c.v] W (Says W (.tuple #[.int .i64 (sg c.v), .int .u64 (sz c.v)]))) := Lib.hid fun W => parted_any _ (by unfold In; omega) W
  have HN : Hid (∀ W, Calls Try.prog 22 #[.int .i64 (sz c.v), .int .i64 (sz (wy c f)), .int .i64 m] W (Says W (.int .i64 (nn c f m)))) := Lib.hid fun W => Pla.Next_any _ _ m W
  have hn := @nn_bd c f m
  have hs := sg_3 c.v
  have hws := sg_3 (wy c f)
  have hvl : vl c f m g = if g = false then 0 else if wy c f = 0 then 0 else if sg c.v ≠ 0 ∧ sg c.v ≠ sg (wy c f) then c.v - sg c.v else sg (wy c f) * nn c f m := rfl
  have hbr : br c f m g = if g = false then true else if wy c f = 0 then true else if sg c.v ≠ 0 ∧ sg c.v ≠ sg (wy c f) then false else decide (nn c f m = 0) := rfl
  generalize vl c f m g = V at *
  generalize br c f m g = B at *
  generalize nn c f m = x at *
  generalize wy c f = y at *
  have hj := Lib.hid (J.one w (Car.arr c) 23)
  obtain ⟨p, v, l⟩ := c
  unfold Car.val Car.arr at *
  simp only at *
  have z1 : IntKind.i64.wrap (sz v) = sz v := IntWalk.i64_in _ (by omega)
  have z2 : IntKind.i64.wrap (sz y) = sz y := IntWalk.i64_in _ (by omega)
  generalize sz v = sv at *
  generalize sz y = sy at *
  have w1 : IntKind.i64.wrap (v - sg v) = v - sg v := IntWalk.i64_in _ (by omega)
  have w2 : IntKind.i64.wrap (sg y * x) = sg y * x := IntWalk.i64_in _ (by rcases hws with h | h | h <;> rw [h.1] <;> omega)
  have ys : (sg y == 0) = decide (y = 0) := by rcases hws with h | h | h <;> rw [h.1] <;> simp <;> omega
  generalize sg v = gv at *
  generalize sg y = gy at *
  clear hs hws hb p0 p1 v0 v1
  cases g
  · rw [if_pos rfl] at hvl hbr
    subst hvl; subst hbr
    go_enter Try.func10, Try.ntmps10
    go_wp2_with (first
      | (go_at_call 21; (with_reducible refine (HP.out _).mono ?_); clear HP; rintro e w1 ⟨rfl, h1⟩; have hj1 := Lib.hid (hj.out.next h1); clear h1 hj)
      | (go_at_call 20; (with_reducible refine (HQ.out _).mono ?_); clear HQ; rintro e w2 ⟨rfl, h2⟩; have hj2 := Lib.hid (hj1.out.next h2); clear h2 hj1))
    go_ret2
    exact ⟨rfl, hj2.out.below⟩
  · rw [if_neg (by simp)] at hvl hbr
    by_cases hy : y = 0
    · rw [if_pos hy] at hvl hbr
      subst hvl; subst hbr
      have ys' : (gy == 0) = true := by rw [ys]; simpa using hy
      clear ys hy
      go_enter Try.func10, Try.ntmps10
      go_wp2_with (first
        | (go_at_call 21; (with_reducible refine (HP.out _).mono ?_); clear HP; rintro e w1 ⟨rfl, h1⟩; have hj1 := Lib.hid (hj.out.next h1); clear h1 hj)
        | (go_at_call 20; (with_reducible refine (HQ.out _).mono ?_); clear HQ; rintro e w2 ⟨rfl, h2⟩; have hj2 := Lib.hid (hj1.out.next h2); clear h2 hj1))
      go_ret2
      exact ⟨rfl, hj2.out.below⟩
    · rw [if_neg hy] at hvl hbr
      have ys' : (gy == 0) = false := by rw [ys]; simpa using hy
      clear ys hy
      have ways : (gv = 0 ∧ V = gy * x ∧ B = decide (x = 0)) ∨ ((gv != 0) = true ∧ gv = gy ∧ V = gy * x ∧ B = decide (x = 0)) ∨ ((gv != 0) = true ∧ (gv != gy) = true ∧ V = v - gv ∧ B = false) := by
        by_cases h0 : gv = 0
        · left; rw [if_neg (by omega)] at hvl hbr; exact ⟨h0, hvl, hbr⟩
        · by_cases h1 : gv = gy
          · right; left; rw [if_neg (by omega)] at hvl hbr; exact ⟨by simpa using h0, h1, hvl, hbr⟩
          · right; right; rw [if_pos ⟨h0, h1⟩] at hvl hbr; exact ⟨by simpa using h0, by simpa using h1, hvl, hbr⟩
      clear hvl hbr
      rcases ways with ⟨rfl, rfl, rfl⟩ | ⟨k1, rfl, rfl, rfl⟩ | ⟨k1, k2, rfl, rfl⟩
      all_goals
        go_enter Try.func10, Try.ntmps10
        go_wp2_with (first
          | (go_at_call 21; (with_reducible refine (HP.out _).mono ?_); clear HP; rintro e w1 ⟨rfl, h1⟩; have hj1 := Lib.hid (hj.out.next h1); clear h1 hj)
          | (go_at_call 20; (with_reducible refine (HQ.out _).mono ?_); clear HQ; rintro e w2 ⟨rfl, h2⟩; have hj2 := Lib.hid (hj1.out.next h2); clear h2 hj1; obtain ⟨a0, a1, a2⟩ := (hj2.out.bx 0 rfl).c3)
          | (go_at_call 20; (with_reducible refine (HR.out _).mono ?_); clear HR a0 a1 a2; rintro e w3 ⟨rfl, h3⟩; have hj3 := Lib.hid (hj2.out.next h3); clear h3 hj2; obtain ⟨a0, a1, a2⟩ := (hj3.out.bx 0 rfl).c3)
          | (go_at_call 22; (with_reducible refine (HN.out _).mono ?_); clear HN a0 a1 a2; rintro e w4 ⟨rfl, h4⟩; have hj4 := Lib.hid (hj3.out.next h4); clear h4 hj3))
        go_ret2
        first
          | exact ⟨ret_pair ⟨rfl, beq_dec Iff.rfl⟩, hj4.out.below⟩
          | exact ⟨rfl, hj3.out.below⟩

set_option maxHeartbeats 1600000 in
theorem What_any (c : K) (v0 : -8 ≤ c.v) (v1 : c.v ≤ 8) (x : Int) (hx : In x) (b : Bool) (w : World) : Calls Try.prog 13 #[Car.val c, .int .i64 x, .bool b] w (Says w (.int .i64 (wt c.v x b))) := by
  have HQ : Hid (∀ W, Calls Try.prog 20 #[.int .i64 x] W (Says W (.tuple #[.int .i64 (sg x), .int .u64 (sz x)]))) := Lib.hid fun W => parted_any _ hx W
  have HR : Hid (∀ W, Calls Try.prog 20 #[.int .i64 c.v] W (Says W (.tuple #[.int .i64 (sg c.v), .int .u64 (sz c.v)]))) := Lib.hid fun W => parted_any _ (by unfold In; omega) W
  have hs := sg_3 x
  have hwt : wt c.v x b = if b = true then 0 else if x = 0 then 0 else if sz c.v < sz x then 1 else if sz x < sz c.v then 3 else 2 := rfl
  have hzz : (sz x == 0) = decide (x = 0) := beq_dec (by omega)
  clear hx hs
  generalize wt c.v x b = r at *
  generalize sz x = zx at *
  generalize sg x = gx at *
  have hj := Lib.hid (J.one w (Car.arr c) 23)
  obtain ⟨p, v, l⟩ := c
  unfold Car.val Car.arr at *
  simp only at *
  generalize sz v = zv at *
  generalize sg v = gv at *
  clear v0 v1
  have ways : (b = true ∧ r = 0) ∨ (b = false ∧ (zx == 0) = true ∧ r = 0) ∨ (b = false ∧ (zx == 0) = false ∧ zv < zx ∧ r = 1) ∨ (b = false ∧ (zx == 0) = false ∧ ¬ zv < zx ∧ zx < zv ∧ r = 3) ∨ (b = false ∧ (zx == 0) = false ∧ ¬ zv < zx ∧ ¬ zx < zv ∧ r = 2) := by
    cases b
    · rw [if_neg (by simp)] at hwt
      right
      by_cases h : x = 0
      · left; rw [if_pos h] at hwt; exact ⟨rfl, by rw [hzz]; simpa using h, hwt⟩
      · rw [if_neg h] at hwt
        have hz : (zx == 0) = false := by rw [hzz]; simpa using h
        right
        by_cases h1 : zv < zx
        · left; rw [if_pos h1] at hwt; exact ⟨rfl, hz, h1, hwt⟩
        · rw [if_neg h1] at hwt
          right
          by_cases h2 : zx < zv
          · left; rw [if_pos h2] at hwt; exact ⟨rfl, hz, h1, h2, hwt⟩
          · right; rw [if_neg h2] at hwt; exact ⟨rfl, hz, h1, h2, hwt⟩
    · left; rw [if_pos rfl] at hwt; exact ⟨rfl, hwt⟩
  clear hwt hzz
  rcases ways with ⟨rfl, rfl⟩ | ⟨rfl, k1, rfl⟩ | ⟨rfl, k1, k2, rfl⟩ | ⟨rfl, k1, k2, k3, rfl⟩ | ⟨rfl, k1, k2, k3, rfl⟩
  all_goals
    go_enter Try.func13, Try.ntmps13
    go_wp2_with (first
      | (go_at_call 20; (with_reducible refine (HQ.out _).mono ?_); clear HQ; rintro e w1 ⟨rfl, h1⟩; have hj1 := Lib.hid (hj.out.next h1); clear h1 hj; obtain ⟨a0, a1, a2⟩ := (hj1.out.bx 0 rfl).c3)
      | (go_at_call 20; (with_reducible refine (HR.out _).mono ?_); clear HR a0 a1 a2; rintro e w2 ⟨rfl, h2⟩; have hj2 := Lib.hid (hj1.out.next h2); clear h2 hj1))
    go_ret
    exact ⟨rfl, hj2.out.below⟩

end Go.Proofs.Ytmdljmlnfihmcaa.Dri
