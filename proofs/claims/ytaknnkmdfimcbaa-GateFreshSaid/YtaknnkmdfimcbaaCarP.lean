/- Plain mathematics of a car: no program is named here. -/
import Derived.WalkKit
namespace Go.Proofs.Ytaknnkmdfimcbaa.CarP
open Go.RowKit

/-- a number, or the end of lo to hi that it is beyond -/
def cl (n lo hi : Int) : Int := max lo (min n hi)
theorem cl_ge {n lo hi : Int} : lo ≤ cl n lo hi := by unfold cl; omega
theorem cl_le {n lo hi : Int} (h : lo ≤ hi) : cl n lo hi ≤ hi := by unfold cl; omega
theorem cl_id {n lo hi : Int} (h : lo ≤ n) (k : n ≤ hi) : cl n lo hi = n := by unfold cl; omega

/-- the place of the highest floor -/
def tp (f : Int) : Int := (cl f 2 32 - 1) * 8
theorem tp_bd (f : Int) : 8 ≤ tp f ∧ tp f ≤ 248 := by
  have h1 : 2 ≤ cl f 2 32 := cl_ge
  have h2 : cl f 2 32 ≤ 32 := cl_le (by decide)
  unfold tp; omega

/-- how fast it may go next -/
def mg (v vel : Int) : Int := cl (cl vel (v - 1) (v + 1)) (-8) 8
theorem mg_bd (v vel : Int) : -8 ≤ mg v vel ∧ mg v vel ≤ 8 := ⟨cl_ge, cl_le (by decide)⟩

/-- a car: its place, its speed, what it bears -/
structure K where
  p : Int
  v : Int
  l : Int
/-- may it be one? -/
structure K.May (c : K) : Prop where
  p0 : 0 ≤ c.p
  p1 : c.p ≤ 1000000
  v0 : -8 ≤ c.v
  v1 : c.v ≤ 8
def mayK (c : K) : Bool := decide (0 ≤ c.p) && decide (c.p ≤ 1000000) && decide (-8 ≤ c.v) && decide (c.v ≤ 8)
theorem mayK_iff (c : K) : mayK c = true ↔ c.May := by
  simp only [mayK, Bool.and_eq_true, decide_eq_true_eq]
  exact ⟨fun ⟨⟨⟨a, b⟩, x⟩, d⟩ => ⟨a, b, x, d⟩, fun ⟨a, b, x, d⟩ => ⟨⟨⟨a, b⟩, x⟩, d⟩⟩

/-- a car a tick on, that isn't braked -/
def go (c : K) (vel f : Int) : K :=
  let q := cl (c.p + mg c.v vel) 0 (tp f)
  if q = c.p + mg c.v vel then ⟨q, mg c.v vel, c.l⟩ else ⟨q, 0, c.l⟩
/-- a car a tick on -/
def tick (c : K) (vel : Int) (b : Bool) (f : Int) : K := if b then ⟨c.p, 0, c.l⟩ else go c vel f
theorem go_l (c : K) (vel f : Int) : (go c vel f).l = c.l := by unfold go; simp only; split <;> rfl
theorem tick_l (c : K) (vel : Int) (b : Bool) (f : Int) : (tick c vel b f).l = c.l := by
  unfold tick; split
  · rfl
  · exact go_l c vel f
theorem go_bd (c : K) (vel f : Int) : 0 ≤ (go c vel f).p ∧ (go c vel f).p ≤ tp f ∧ -8 ≤ (go c vel f).v ∧ (go c vel f).v ≤ 8 := by
  have h := tp_bd f
  have m := mg_bd c.v vel
  have a : 0 ≤ cl (c.p + mg c.v vel) 0 (tp f) := cl_ge
  have b : cl (c.p + mg c.v vel) 0 (tp f) ≤ tp f := cl_le (by omega)
  unfold go; simp only; split
  · exact ⟨a, b, m.1, m.2⟩
  · exact ⟨a, b, by simp, by simp⟩
/-- how a car is that goes on -/
theorem go_v (c : K) (vel f : Int) : (go c vel f).v = 0 ∨ ((go c vel f).v = mg c.v vel ∧ (go c vel f).p - c.p = mg c.v vel) := by
  unfold go; simp only; split
  · rename_i h
    exact .inr ⟨rfl, by simp only; omega⟩
  · exact .inl rfl
theorem tick_may {c : K} (h : c.May) (vel : Int) (b : Bool) (f : Int) : (tick c vel b f).May := by
  unfold tick; split
  · exact ⟨h.p0, h.p1, by simp, by simp⟩
  · have g := go_bd c vel f
    have t := tp_bd f
    exact ⟨g.1, by omega, g.2.2.1, g.2.2.2⟩

/-- how far it is to the next floor that way -/
def nr (p dir : Int) : Int := if dir = 0 ∨ p % 8 = 0 then 0 else if 0 < dir then 8 - p % 8 else p % 8
theorem nr_zero (p : Int) : nr p 0 = 0 := by simp [nr]
theorem nr_bd (p dir : Int) : 0 ≤ nr p dir ∧ nr p dir ≤ 8 := by unfold nr; split <;> (try split) <;> omega
/-- which way it goes by itself -/
def lt (l weight : Int) : Int := if weight ≤ l then -1 else 1

end Go.Proofs.Ytaknnkmdfimcbaa.CarP
