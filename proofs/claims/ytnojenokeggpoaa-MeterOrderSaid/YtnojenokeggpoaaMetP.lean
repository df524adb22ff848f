/- Plain: what is drawn, as it is metered. -/
import Derived.Test.YtnojenokeggpoaaSatP
namespace Go.Proofs.Ytnojenokeggpoaa.MetP
open Go.Proofs.Ytnojenokeggpoaa.SatP
set_option linter.unusedVariables false

/-- what is drawn counts, what is given back doesn't -/
def up (l : List Int) : List Int := l.map fun x => max 0 x
/-- what a tick's draws come to -/
def dv (l : List Int) : Int := sumV (up l)
theorem dv_snoc (l : List Int) (x : Int) : dv (l ++ [x]) = bnd (dv l + bnd (max 0 x)) := by
  unfold dv up; rw [List.map_append, List.map_cons, List.map_nil, sumV_snoc]
theorem dv_nil : dv [] = 0 := rfl
theorem up_tot (l : List Int) : 0 ≤ tot (up l) := by
  induction l with
  | nil => simp [up, tot]
  | cons x l ih => simp only [up, tot, List.map_cons, List.foldr_cons] at *; omega
theorem dv_min (l : List Int) : dv l = min (tot (up l)) 1099511627776 := by
  have key : ∀ r : List Int, dv r.reverse = min (tot (up r.reverse)) 1099511627776 := by
    intro r
    induction r with
    | nil => decide
    | cons x r ih =>
      have h := up_tot r.reverse
      rw [List.reverse_cons, dv_snoc, ih]
      have e : tot (up (r.reverse ++ [x])) = tot (up r.reverse) + max 0 x := by
        unfold up; rw [List.map_append, tot_append, List.map_cons, List.map_nil, tot_one]
      rw [e]
      unfold bnd
      split <;> split <;> (try split) <;> (try split) <;> omega
  have := key l.reverse
  rwa [List.reverse_reverse] at this
theorem dv_nonneg (l : List Int) : 0 ≤ dv l := by rw [dv_min]; have := up_tot l; omega
theorem dv_le (l : List Int) : dv l ≤ 1099511627776 := by rw [dv_min]; omega
theorem up_reverse (l : List Int) : tot (up l.reverse) = tot (up l) := by unfold up; rw [List.map_reverse, tot_reverse]
theorem up_back (l : List Int) (h : ∀ x ∈ l, x ≤ 0) : tot (up l) = 0 := by
  induction l with
  | nil => rfl
  | cons x l ih =>
    have h1 := ih fun y hy => h y (List.mem_cons_of_mem _ hy)
    have h2 := h x List.mem_cons_self
    simp only [up, tot, List.map_cons, List.foldr_cons] at *
    omega
/-- in whatever order, with whatever is given back -/
theorem dv_order (l r : List Int) (h : ∀ x ∈ r, x ≤ 0) : dv (l.reverse ++ r) = dv l := by
  rw [dv_min, dv_min]
  have e : tot (up (l.reverse ++ r)) = tot (up l) := by
    have : up (l.reverse ++ r) = up l.reverse ++ up r := by unfold up; rw [List.map_append]
    rw [this, tot_append, up_reverse, up_back r h]; omega
  rw [e]

/-- the most that was told -/
def hi (t : List Int) : Int := t.foldl (fun a b => max a b) 0
theorem hi_snoc (t : List Int) (x : Int) : hi (t ++ [x]) = max (hi t) x := by simp [hi]
theorem hi_nonneg (t : List Int) : 0 ≤ hi t := by
  rcases List.eq_nil_or_concat t with rfl | ⟨l, x, rfl⟩
  · simp [hi]
  · have key : ∀ r : List Int, 0 ≤ hi r.reverse := by
      intro r
      induction r with
      | nil => simp [hi]
      | cons y r ih => rw [List.reverse_cons, hi_snoc]; omega
    have := key (l.concat x).reverse
    rwa [List.reverse_reverse] at this
theorem hi_rev (r : List Int) : (∀ x ∈ r, x ≤ hi r.reverse) ∧ ((∀ x ∈ r, 0 ≤ x) → r ≠ [] → hi r.reverse ∈ r) := by
  induction r with
  | nil => exact ⟨(fun x hx => by cases hx), fun _ h => absurd rfl h⟩
  | cons y r ih =>
    rw [List.reverse_cons, hi_snoc]
    refine ⟨fun x hx => ?_, fun h _ => ?_⟩
    · rcases List.mem_cons.1 hx with rfl | hx
      · omega
      · have := ih.1 x hx; omega
    · have hy := h y List.mem_cons_self
      by_cases hr : r = []
      · subst hr
        have : max (hi [].reverse) y = y := by show max (0 : Int) y = y; omega
        rw [this]; exact List.mem_cons_self
      · have h1 := ih.2 (fun x hx => h x (List.mem_cons_of_mem _ hx)) hr
        by_cases hm : hi r.reverse ≤ y
        · rw [show max (hi r.reverse) y = y by omega]; exact List.mem_cons_self
        · rw [show max (hi r.reverse) y = hi r.reverse by omega]; exact List.mem_cons_of_mem _ h1
theorem hi_le (t : List Int) : ∀ x ∈ t, x ≤ hi t := by
  have := (hi_rev t.reverse).1
  rw [List.reverse_reverse] at this
  exact fun x hx => this x (by simpa using hx)
theorem hi_mem (t : List Int) (h : ∀ x ∈ t, 0 ≤ x) (hn : t ≠ []) : hi t ∈ t := by
  have := (hi_rev t.reverse).2 (fun x hx => h x (by simpa using hx)) (by simpa using hn)
  rw [List.reverse_reverse] at this
  simpa using this

end Go.Proofs.Ytnojenokeggpoaa.MetP
