/- The contract of the reference's product. -/
import Derived.Test.YtdfollfbgnigpaaSatR
namespace Go.Proofs.Ytdfollfbgnigpaa.Sat
open Go.RowKit Go.Proofs.Ytdfollfbgnigpaa.SatP
set_option linter.unusedVariables false

/-- a number by its sign -/
inductive Sg : Int → Prop
  | zero : Sg 0
  | pos (p : Int) : 0 < p → Sg p
  | neg (p : Int) : 0 < p → Sg (-p)
theorem sg (x : Int) : Sg x := by
  rcases Int.lt_trichotomy x 0 with h | h | h
  · have := Sg.neg (-x) (by omega); rwa [Int.neg_neg] at this
  · subst h; exact .zero
  · exact .pos x h

theorem near {p q : Int} (hp : 0 < p) (hq : 0 ≤ q) (h : q ≤ 1099511627776 / p) : 0 ≤ p * q ∧ p * q ≤ 1099511627776 :=
  ⟨Int.mul_nonneg (by omega) hq, by rw [Int.mul_comm]; exact (Int.le_ediv_iff_mul_le hp).1 h⟩
theorem far {p q : Int} (hp : 0 < p) (h : 1099511627776 / p < q) : 1099511627776 < p * q := by
  rw [Int.mul_comm]; exact (Int.ediv_lt_iff_lt_mul hp).1 h

def MulIs (x y : Int) (ma mb : Bool) (w : World) (e : Ending) (w' : World) : Prop := e = .returned (.tuple #[.int .i64 (bnd (x * y)), .bool (ma || mb || metB (x * y))]) ∧ w = w'
theorem mul_is {x y v : Int} {ma mb c q : Bool} {w : World} (h1 : v = bnd (x * y)) (h2 : c = metB (x * y)) (h3 : q = (ma || mb || c)) : MulIs x y ma mb w (.returned (.tuple #[.int .i64 v, .bool q])) w := by
  subst h1 h2 h3; exact ⟨rfl, rfl⟩

theorem fin_p {z t : Int} (h : z = t) (h0 : 0 ≤ t) (h1 : t ≤ 1099511627776) : t = bnd z ∧ false = metB z := by subst h; rw [bnd_id (by omega) h1, metB_id (by omega) h1]; exact ⟨rfl, rfl⟩
theorem fin_m {z t : Int} (h : z = -t) (h0 : 0 ≤ t) (h1 : t ≤ 1099511627776) : -t = bnd z ∧ false = metB z := by subst h; rw [bnd_id (by omega) (by omega), metB_id (by omega) (by omega)]; exact ⟨rfl, rfl⟩
theorem fin_P {z t : Int} (h : z = t) (h1 : 1099511627776 < t) : 1099511627776 = bnd z ∧ true = metB z := by subst h; rw [bnd_hi h1, metB_hi h1]; exact ⟨rfl, rfl⟩
theorem fin_M {z t : Int} (h : z = -t) (h1 : 1099511627776 < t) : -1099511627776 = bnd z ∧ true = metB z := by subst h; rw [bnd_lo (by omega), metB_lo (by omega)]; exact ⟨rfl, rfl⟩

set_option maxHeartbeats 4000000 in
theorem refMul_any (a b : Int) (w : World) : Calls Try.prog 13 #[.int .i64 a, .int .i64 b] w (MulIs (bnd a) (bnd b) (metB a) (metB b) w) := by
  have h1 := bnd_ge a
  have h2 := bnd_le a
  have h3 := bnd_ge b
  have h4 := bnd_le b
  generalize hx : bnd a = x at *
  generalize hm : metB a = ma at *
  generalize hy : bnd b = y at *
  generalize hn : metB b = mb at *
  have HA := Lib.hid (And.intro hx hm)
  have HB := Lib.hid (And.intro hy hn)
  clear hx hm hy hn
  have base : ∀ z : Int, Hid (bnd z = bnd z) := fun _ => Lib.hid rfl
  rcases sg x with _ | ⟨_, hp⟩ | ⟨p, hp⟩
  · rcases sg y with _ | ⟨_, hq⟩ | ⟨q, hq⟩
    all_goals
      cases ma <;> cases mb
      all_goals
        go_enter Try.func13, Try.ntmps13
        go_wp2_with (first
          | (go_at_call 17; with_reducible refine (refBound_is _ _ HA).mono ?_; rintro e w' ⟨rfl, rfl⟩)
          | (go_at_call 17; with_reducible refine (refBound_is _ _ HB).mono ?_; rintro e w' ⟨rfl, rfl⟩))
        go_ret2
        exact mul_is (c := false) (by simp [bnd]) (by simp [metB]) (by simp)
  · rcases sg y with _ | ⟨_, hq⟩ | ⟨q, hq⟩
    ·   have hq0 : 0 ≤ 1099511627776 / x := Int.ediv_nonneg (by omega) (by omega)
        have d0 : decide (1099511627776 / x < 0) = false := by simpa using hq0
        have HF := Lib.hid (fin_p (z := x * 0) (t := 0) (by simp) (by omega) (by omega))
        cases ma <;> cases mb
        all_goals
          go_enter Try.func13, Try.ntmps13
          go_wp2_with (first
            | (go_at_call 17; with_reducible refine (refBound_is _ _ HA).mono ?_; rintro e w' ⟨rfl, rfl⟩)
            | (go_at_call 17; with_reducible refine (refBound_is _ _ HB).mono ?_; rintro e w' ⟨rfl, rfl⟩))
          go_ret2
          exact mul_is HF.out.1 HF.out.2 (by simp)
    · rcases Int.lt_or_le (1099511627776 / x) y with hd | hd
      · have hf := far hp hd
        have d0 := decide_eq_true hd
        have HF := Lib.hid (fin_P (z := x * y) (t := x * y) (rfl) hf)
        cases ma <;> cases mb
        all_goals
          go_enter Try.func13, Try.ntmps13
          go_wp2_with (first
            | (go_at_call 17; with_reducible refine (refBound_is _ _ HA).mono ?_; rintro e w' ⟨rfl, rfl⟩)
            | (go_at_call 17; with_reducible refine (refBound_is _ _ HB).mono ?_; rintro e w' ⟨rfl, rfl⟩))
          go_ret2
          exact mul_is HF.out.1 HF.out.2 (by simp)
      · obtain ⟨n0, n1⟩ := near hp (Int.le_of_lt hq) hd
        have d0 := decide_eq_false (Int.not_lt.2 hd)
        have HF := Lib.hid (fin_p (z := x * y) (t := x * y) (rfl) n0 n1)
        cases ma <;> cases mb
        all_goals
          go_enter Try.func13, Try.ntmps13
          go_wp2_with (first
            | (go_at_call 17; with_reducible refine (refBound_is _ _ HA).mono ?_; rintro e w' ⟨rfl, rfl⟩)
            | (go_at_call 17; with_reducible refine (refBound_is _ _ HB).mono ?_; rintro e w' ⟨rfl, rfl⟩))
          go_ret2
          exact mul_is HF.out.1 HF.out.2 (by simp)
    · rcases Int.lt_or_le (1099511627776 / x) q with hd | hd
      · have hf := far hp hd
        have d0 := decide_eq_true hd
        have HF := Lib.hid (fin_M (z := x * (-q)) (t := x * q) (Int.mul_neg ..) hf)
        cases ma <;> cases mb
        all_goals
          go_enter Try.func13, Try.ntmps13
          go_wp2_with (first
            | (go_at_call 17; with_reducible refine (refBound_is _ _ HA).mono ?_; rintro e w' ⟨rfl, rfl⟩)
            | (go_at_call 17; with_reducible refine (refBound_is _ _ HB).mono ?_; rintro e w' ⟨rfl, rfl⟩))
          go_ret2
          exact mul_is HF.out.1 HF.out.2 (by simp)
      · obtain ⟨n0, n1⟩ := near hp (Int.le_of_lt hq) hd
        have d0 := decide_eq_false (Int.not_lt.2 hd)
        have HF := Lib.hid (fin_m (z := x * (-q)) (t := x * q) (Int.mul_neg ..) n0 n1)
        cases ma <;> cases mb
        all_goals
          go_enter Try.func13, Try.ntmps13
          go_wp2_with (first
            | (go_at_call 17; with_reducible refine (refBound_is _ _ HA).mono ?_; rintro e w' ⟨rfl, rfl⟩)
            | (go_at_call 17; with_reducible refine (refBound_is _ _ HB).mono ?_; rintro e w' ⟨rfl, rfl⟩))
          go_ret2
          exact mul_is HF.out.1 HF.out.2 (by simp)
  · rcases sg y with _ | ⟨_, hq⟩ | ⟨q, hq⟩
    ·   have hq0 : 0 ≤ 1099511627776 / p := Int.ediv_nonneg (by omega) (by omega)
        have d0 : decide (1099511627776 / p < 0) = false := by simpa using hq0
        have HF := Lib.hid (fin_p (z := (-p) * 0) (t := 0) (by simp) (by omega) (by omega))
        cases ma <;> cases mb
        all_goals
          go_enter Try.func13, Try.ntmps13
          go_wp2_with (first
            | (go_at_call 17; with_reducible refine (refBound_is _ _ HA).mono ?_; rintro e w' ⟨rfl, rfl⟩)
            | (go_at_call 17; with_reducible refine (refBound_is _ _ HB).mono ?_; rintro e w' ⟨rfl, rfl⟩))
          go_ret2
          exact mul_is HF.out.1 HF.out.2 (by simp)
    · rcases Int.lt_or_le (1099511627776 / p) y with hd | hd
      · have hf := far hp hd
        have d0 := decide_eq_true hd
        have HF := Lib.hid (fin_M (z := (-p) * y) (t := p * y) (Int.neg_mul ..) hf)
        cases ma <;> cases mb
        all_goals
          go_enter Try.func13, Try.ntmps13
          go_wp2_with (first
            | (go_at_call 17; with_reducible refine (refBound_is _ _ HA).mono ?_; rintro e w' ⟨rfl, rfl⟩)
            | (go_at_call 17; with_reducible refine (refBound_is _ _ HB).mono ?_; rintro e w' ⟨rfl, rfl⟩))
          go_ret2
          exact mul_is HF.out.1 HF.out.2 (by simp)
      · obtain ⟨n0, n1⟩ := near hp (Int.le_of_lt hq) hd
        have d0 := decide_eq_false (Int.not_lt.2 hd)
        have HF := Lib.hid (fin_m (z := (-p) * y) (t := p * y) (Int.neg_mul ..) n0 n1)
        cases ma <;> cases mb
        all_goals
          go_enter Try.func13, Try.ntmps13
          go_wp2_with (first
            | (go_at_call 17; with_reducible refine (refBound_is _ _ HA).mono ?_; rintro e w' ⟨rfl, rfl⟩)
            | (go_at_call 17; with_reducible refine (refBound_is _ _ HB).mono ?_; rintro e w' ⟨rfl, rfl⟩))
          go_ret2
          exact mul_is HF.out.1 HF.out.2 (by simp)
    · rcases Int.lt_or_le (1099511627776 / p) q with hd | hd
      · have hf := far hp hd
        have d0 := decide_eq_true hd
        have HF := Lib.hid (fin_P (z := (-p) * (-q)) (t := p * q) (Int.neg_mul_neg ..) hf)
        cases ma <;> cases mb
        all_goals
          go_enter Try.func13, Try.ntmps13
          go_wp2_with (first
            | (go_at_call 17; with_reducible refine (refBound_is _ _ HA).mono ?_; rintro e w' ⟨rfl, rfl⟩)
            | (go_at_call 17; with_reducible refine (refBound_is _ _ HB).mono ?_; rintro e w' ⟨rfl, rfl⟩))
          go_ret2
          exact mul_is HF.out.1 HF.out.2 (by simp)
      · obtain ⟨n0, n1⟩ := near hp (Int.le_of_lt hq) hd
        have d0 := decide_eq_false (Int.not_lt.2 hd)
        have HF := Lib.hid (fin_p (z := (-p) * (-q)) (t := p * q) (Int.neg_mul_neg ..) n0 n1)
        cases ma <;> cases mb
        all_goals
          go_enter Try.func13, Try.ntmps13
          go_wp2_with (first
            | (go_at_call 17; with_reducible refine (refBound_is _ _ HA).mono ?_; rintro e w' ⟨rfl, rfl⟩)
            | (go_at_call 17; with_reducible refine (refBound_is _ _ HB).mono ?_; rintro e w' ⟨rfl, rfl⟩))
          go_ret2
          exact mul_is HF.out.1 HF.out.2 (by simp)

end Go.Proofs.Ytdfollfbgnigpaa.Sat
