/- Plain mathematics of how a car is driven to a floor: no program is named here. -/
import Derived.Test.YtmdljmlnfihmcaaPlaP
import Derived.Test.YtmdljmlnfihmcaaCarP
namespace Go.Proofs.Ytmdljmlnfihmcaa.DriP
open Go.RowKit Go.Proofs.Ytmdljmlnfihmcaa.CarP
set_option linter.unusedVariables false

/-- a number's sign, and its size -/
def sg (x : Int) : Int := if 0 < x then 1 else if x < 0 then -1 else 0
def sz (x : Int) : Int := if x < 0 then -x else x
theorem sz_0 (x : Int) : 0 ≤ sz x := by unfold sz; split <;> omega
theorem sg_3 (x : Int) : (sg x = 0 ∧ x = 0 ∧ sz x = 0) ∨ (sg x = 1 ∧ 0 < x ∧ sz x = x) ∨ (sg x = -1 ∧ x < 0 ∧ sz x = -x) := by
  unfold sg sz
  by_cases h : 0 < x
  · right; left; rw [if_pos h, if_neg (by omega)]; exact ⟨rfl, h, rfl⟩
  · by_cases k : x < 0
    · right; right; rw [if_neg h, if_pos k, if_pos k]; exact ⟨rfl, k, rfl⟩
    · left; rw [if_neg h, if_neg k, if_neg k]; exact ⟨rfl, by omega, by omega⟩

/-- the way to a floor -/
def wy (c : K) (f : Int) : Int := f * 8 - c.p
/-- how fast it goes next, that way -/
def nn (c : K) (f m : Int) : Int := PlaP.Nx (sz c.v) (sz (wy c f)) m
/-- how it is driven: how fast, is it braked -/
def vl (c : K) (f m : Int) (g : Bool) : Int :=
  if g = false then 0 else if wy c f = 0 then 0 else if sg c.v ≠ 0 ∧ sg c.v ≠ sg (wy c f) then c.v - sg c.v else sg (wy c f) * nn c f m
def br (c : K) (f m : Int) (g : Bool) : Bool :=
  if g = false then true else if wy c f = 0 then true else if sg c.v ≠ 0 ∧ sg c.v ≠ sg (wy c f) then false else decide (nn c f m = 0)
/-- what it does -/
def wt (v x : Int) (b : Bool) : Int := if b = true then 0 else if x = 0 then 0 else if sz v < sz x then 1 else if sz x < sz v then 3 else 2
/-- is it there? -/
def th (c : K) (f : Int) : Bool := decide (wy c f = 0) && decide (c.v = 0)

theorem nn_bd {c : K} {f m : Int} : 0 ≤ nn c f m ∧ nn c f m ≤ 8 := by
  unfold nn PlaP.Nx
  have h := PlaP.nx_facts (v := PlaP.cl (sz c.v) 0 8) (l := PlaP.cl (sz (wy c f)) 0 1000) (m := PlaP.cl m 1 8) PlaP.cl_ge (PlaP.cl_le (by omega)) PlaP.cl_ge PlaP.cl_ge (PlaP.cl_le (by omega))
  have h2 : PlaP.cl m 1 8 ≤ 8 := PlaP.cl_le (by omega)
  exact ⟨h.1, by omega⟩
theorem nn_le {c : K} {f m : Int} (m1 : 1 ≤ m) (m8 : m ≤ 8) : nn c f m ≤ m := by
  unfold nn PlaP.Nx
  have h := PlaP.nx_facts (v := PlaP.cl (sz c.v) 0 8) (l := PlaP.cl (sz (wy c f)) 0 1000) (m := PlaP.cl m 1 8) PlaP.cl_ge (PlaP.cl_le (by omega)) PlaP.cl_ge PlaP.cl_ge (PlaP.cl_le (by omega))
  have h2 : PlaP.cl m 1 8 = m := PlaP.cl_id m1 m8
  rw [h2] at h ⊢
  exact h.2.1

/-- how it is driven, case by case -/
theorem vl_cases (c : K) (f m : Int) : (wy c f = 0 ∧ vl c f m true = 0 ∧ br c f m true = true) ∨
    (0 < wy c f ∧ c.v < 0 ∧ vl c f m true = c.v + 1 ∧ br c f m true = false) ∨
    (wy c f < 0 ∧ 0 < c.v ∧ vl c f m true = c.v - 1 ∧ br c f m true = false) ∨
    (0 < wy c f ∧ 0 ≤ c.v ∧ vl c f m true = nn c f m ∧ br c f m true = decide (nn c f m = 0)) ∨
    (wy c f < 0 ∧ c.v ≤ 0 ∧ vl c f m true = -nn c f m ∧ br c f m true = decide (nn c f m = 0)) := by
  have e1 : vl c f m true = if wy c f = 0 then 0 else if sg c.v ≠ 0 ∧ sg c.v ≠ sg (wy c f) then c.v - sg c.v else sg (wy c f) * nn c f m := rfl
  have e2 : br c f m true = if wy c f = 0 then true else if sg c.v ≠ 0 ∧ sg c.v ≠ sg (wy c f) then false else decide (nn c f m = 0) := rfl
  rw [e1, e2]
  rcases sg_3 (wy c f) with ⟨a1, a2, a3⟩ | ⟨a1, a2, a3⟩ | ⟨a1, a2, a3⟩
  · left; rw [if_pos a2, if_pos a2]; exact ⟨a2, rfl, rfl⟩
  · have hz : ¬ wy c f = 0 := by omega
    rw [if_neg hz, if_neg hz, a1]
    rcases sg_3 c.v with ⟨b1, b2, b3⟩ | ⟨b1, b2, b3⟩ | ⟨b1, b2, b3⟩
    · right; right; right; left; rw [b1, if_neg (by decide), if_neg (by decide), Int.one_mul]; exact ⟨a2, by omega, rfl, rfl⟩
    · right; right; right; left; rw [b1, if_neg (by decide), if_neg (by decide), Int.one_mul]; exact ⟨a2, by omega, rfl, rfl⟩
    · right; left; rw [b1, if_pos (by decide), if_pos (by decide)]; exact ⟨a2, b2, by omega, rfl⟩
  · have hz : ¬ wy c f = 0 := by omega
    rw [if_neg hz, if_neg hz, a1]
    rcases sg_3 c.v with ⟨b1, b2, b3⟩ | ⟨b1, b2, b3⟩ | ⟨b1, b2, b3⟩
    · right; right; right; right; rw [b1, if_neg (by decide), if_neg (by decide)]; exact ⟨a2, by omega, by omega, rfl⟩
    · right; right; left; rw [b1, if_pos (by decide), if_pos (by decide)]; exact ⟨a2, b2, by omega, rfl⟩
    · right; right; right; right; rw [b1, if_neg (by decide), if_neg (by decide)]; exact ⟨a2, by omega, by omega, rfl⟩
theorem vl_no (c : K) (f m : Int) : vl c f m false = 0 ∧ br c f m false = true := ⟨rfl, rfl⟩
theorem vl_bd {c : K} (h0 : -8 ≤ c.v) (h1 : c.v ≤ 8) (f m : Int) (g : Bool) : -8 ≤ vl c f m g ∧ vl c f m g ≤ 8 := by
  cases g
  · rw [(vl_no c f m).1]; omega
  · have := @nn_bd c f m
    rcases vl_cases c f m with h | h | h | h | h <;> omega

/-- the other way round -/
theorem sz_neg (x : Int) : sz (-x) = sz x := by unfold sz; split <;> split <;> omega
theorem sg_neg (x : Int) : sg (-x) = -sg x := by rcases sg_3 x with h | h | h <;> rcases sg_3 (-x) with k | k | k <;> omega
theorem mirror {c d : K} {f g : Int} (hv : d.v = -c.v) (hw : wy d g = -wy c f) (m : Int) : vl c f m true = -vl d g m true ∧ br c f m true = br d g m true ∧ sg (wy c f) = -sg (wy d g) ∧ th c f = th d g := by
  have e : nn d g m = nn c f m := by unfold nn; rw [hv, hw, sz_neg, sz_neg]
  refine ⟨?_, ?_, by rw [hw, sg_neg]; omega, ?_⟩
  · rcases vl_cases c f m with h | h | h | h | h <;> rcases vl_cases d g m with k | k | k | k | k <;> omega
  · rcases vl_cases c f m with ⟨h1, h2, h3⟩ | ⟨h1, h2, h3, h4⟩ | ⟨h1, h2, h3, h4⟩ | ⟨h1, h2, h3, h4⟩ | ⟨h1, h2, h3, h4⟩ <;>
      rcases vl_cases d g m with ⟨k1, k2, k3⟩ | ⟨k1, k2, k3, k4⟩ | ⟨k1, k2, k3, k4⟩ | ⟨k1, k2, k3, k4⟩ | ⟨k1, k2, k3, k4⟩ <;>
      first
        | (exfalso; omega)
        | (rw [h4, k4, e]; done)
        | (rw [h4, k4]; done)
        | (rw [h3, k3]; done)
        | (rw [h4, k4]; exact decide_eq_decide.2 (by omega))
        | (rw [h4, k4]; simp; omega)
  · unfold th
    rw [hv, hw]
    have e1 : decide (-wy c f = 0) = decide (wy c f = 0) := decide_eq_decide.2 (by omega)
    have e2 : decide (-c.v = 0) = decide (c.v = 0) := decide_eq_decide.2 (by omega)
    rw [e1, e2]
theorem wt_neg (v x : Int) (b : Bool) : wt (-v) (-x) b = wt v x b := by
  unfold wt
  rw [sz_neg, sz_neg]
  by_cases h : x = 0
  · subst h; rfl
  · rw [if_neg (c := -x = 0) (by omega), if_neg (c := x = 0) h]

end Go.Proofs.Ytmdljmlnfihmcaa.DriP
