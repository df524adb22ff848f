/- Plain mathematics of orders: turned, done car by car. -/
import Derived.Test.YtmacnecjgdjdiaaOrdP
namespace Go.Proofs.Ytmacnecjgdjdiaa.OrdP
set_option linter.unusedVariables false

/-- whether a car may be next -/
def may (d o : Nat) (c : Int) : Bool := inb c && !hb d c && !hb o c
theorem fr_eq (d o : Nat) (l : List Int) : fr d o l = l.filter (may d o) := rfl
theorem may_swap (d o : Nat) (c : Int) : may o d c = may d o c := by
  unfold may; cases inb c <;> cases hb d c <;> cases hb o c <;> rfl
theorem fr_swap (d o : Nat) (l : List Int) : fr o d l = fr d o l := by
  rw [fr_eq, fr_eq, show may o d = may d o from funext (may_swap d o)]
theorem nx_swap (d o : Nat) (l : List Int) : nx o d l = nx d o l := by unfold nx; rw [fr_swap]
theorem lf_swap (d o : Nat) (l : List Int) : lf o d l = lf d o l := by unfold lf; rw [fr_swap]
theorem fr_rev (d o : Nat) (l : List Int) : fr d o l.reverse = (fr d o l).reverse := by rw [fr_eq, fr_eq, List.filter_reverse]
theorem lf_rev (d o : Nat) (l : List Int) : lf d o l.reverse = lf d o l := by unfold lf; rw [fr_rev, List.length_reverse]
theorem fr_may {d o : Nat} {l : List Int} {c : Int} (h : c ∈ fr d o l) : may d o c = true := (List.mem_filter.1 h).2
theorem may_in {d o : Nat} {c : Int} (h : may d o c = true) : 0 ≤ c ∧ c < 64 := by
  unfold may at h
  cases hi : inb c
  · rw [hi] at h; cases h
  · exact inb_iff.1 hi
theorem nx_cases (d o : Nat) (l : List Int) : (nx d o l = -1 ∧ fr d o l = []) ∨ (nx d o l ∈ fr d o l ∧ 0 ≤ nx d o l) := by
  unfold nx
  cases h : fr d o l with
  | nil => exact .inl ⟨rfl, rfl⟩
  | cons x xs =>
    refine .inr ⟨List.mem_cons_self .., ?_⟩
    exact (may_in (fr_may (d := d) (o := o) (l := l) (c := x) (by rw [h]; exact List.mem_cons_self ..))).1
theorem may_wi (d o : Nat) (a c : Int) : may (wi d a) o c = (may d o c && !(inb a && decide (c = a))) := by
  unfold may
  rw [hb_wi]
  cases inb c <;> cases hb d c <;> cases hb o c <;> cases inb a && decide (c = a) <;> rfl
/-- one that is done is left no more -/
theorem fr_wi (d o : Nat) (l : List Int) (a : Int) (ha : inb a = true) : fr (wi d a) o l = (fr d o l).filter fun c => !decide (c = a) := by
  rw [fr_eq, fr_eq, List.filter_filter]
  congr 1
  funext c
  rw [may_wi, ha, Bool.true_and, Bool.and_comm]
theorem lf_wi (d o : Nat) (l : List Int) (a : Int) (ha : a ∈ fr d o l) : lf (wi d a) o l < lf d o l := by
  unfold lf
  rw [fr_wi d o l a (inb_iff.2 (may_in (fr_may ha)))]
  have h1 := List.length_filter_le (fun c => !decide (c = a)) (fr d o l)
  refine Nat.lt_of_le_of_ne h1 fun e => ?_
  have := List.length_filter_eq_length_iff.1 e a ha
  simp at this
theorem lf_one (d o : Nat) (a : Int) (h : may d o a = true) : lf d o [a] = 1 := by
  unfold lf
  rw [fr_eq]
  simp [h]
end Go.Proofs.Ytmacnecjgdjdiaa.OrdP
