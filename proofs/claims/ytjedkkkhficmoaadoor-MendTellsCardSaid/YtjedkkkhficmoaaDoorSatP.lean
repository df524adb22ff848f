/- Plain: sums that have bounds. -/
import Derived.Handy
namespace Go.Proofs.YtjedkkkhficmoaaDoor.SatP
set_option linter.unusedVariables false

def bnd (x : Int) : Int := if x > 1099511627776 then 1099511627776 else if x < -1099511627776 then -1099511627776 else x
def metB (x : Int) : Bool := decide (x > 1099511627776) || decide (x < -1099511627776)
theorem bnd_le (x : Int) : bnd x ≤ 1099511627776 := by unfold bnd; split <;> (try split) <;> omega
theorem bnd_ge (x : Int) : -1099511627776 ≤ bnd x := by unfold bnd; split <;> (try split) <;> omega
theorem bnd_id {x : Int} (h1 : -1099511627776 ≤ x) (h2 : x ≤ 1099511627776) : bnd x = x := by unfold bnd; rw [if_neg (by omega), if_neg (by omega)]
theorem metB_id {x : Int} (h1 : -1099511627776 ≤ x) (h2 : x ≤ 1099511627776) : metB x = false := by unfold metB; simp; omega
theorem bnd_hi {x : Int} (h : x > 1099511627776) : bnd x = 1099511627776 := by unfold bnd; rw [if_pos h]
theorem bnd_lo {x : Int} (h : x < -1099511627776) : bnd x = -1099511627776 := by unfold bnd; rw [if_neg (by omega), if_pos h]
theorem metB_hi {x : Int} (h : x > 1099511627776) : metB x = true := by unfold metB; simp; omega
theorem metB_lo {x : Int} (h : x < -1099511627776) : metB x = true := by unfold metB; simp; omega
theorem bnd_bnd (x : Int) : bnd (bnd x) = bnd x := bnd_id (bnd_ge x) (bnd_le x)
theorem metB_bnd (x : Int) : metB (bnd x) = false := metB_id (bnd_ge x) (bnd_le x)
theorem metB_eq (x : Int) : metB x = (bnd x != x) := by
  by_cases h : x > 1099511627776
  · rw [metB_hi h, bnd_hi h]; simp; omega
  · by_cases h2 : x < -1099511627776
    · rw [metB_lo h2, bnd_lo h2]; simp; omega
    · rw [metB_id (by omega) (by omega), bnd_id (by omega) (by omega)]; simp
theorem bnd_neg (x : Int) : bnd (-x) = -bnd x := by unfold bnd; split <;> split <;> (try split) <;> (try split) <;> omega
theorem metB_neg (x : Int) : metB (-x) = metB x := by
  by_cases h : x > 1099511627776
  · rw [metB_hi h, metB_lo (by omega)]
  · by_cases h2 : x < -1099511627776
    · rw [metB_lo h2, metB_hi (by omega)]
    · rw [metB_id (by omega) (by omega), metB_id (by omega) (by omega)]

def addV (a b : Int) : Int := bnd (bnd a + bnd b)
def addM (a b : Int) : Bool := metB a || metB b || metB (bnd a + bnd b)
def mulV (a b : Int) : Int := bnd (bnd a * bnd b)
def mulM (a b : Int) : Bool := metB a || metB b || metB (bnd a * bnd b)
theorem addV_comm (a b : Int) : addV a b = addV b a := by unfold addV; rw [Int.add_comm]
theorem addM_comm (a b : Int) : addM a b = addM b a := by unfold addM; rw [Int.add_comm, Bool.or_comm (metB a)]
theorem mulV_comm (a b : Int) : mulV a b = mulV b a := by unfold mulV; rw [Int.mul_comm]
theorem mulM_comm (a b : Int) : mulM a b = mulM b a := by unfold mulM; rw [Int.mul_comm, Bool.or_comm (metB a)]

/-- the product of two bounded numbers as the code works it out -/
def prodV (a b : Int) : Int := if a * b > 1099511627776 then 1099511627777 else if a * b < -1099511627776 then -1099511627777 else a * b
theorem bnd_prodV (a b : Int) : bnd (prodV a b) = bnd (a * b) := by unfold bnd prodV; split <;> (try split) <;> (try split) <;> (try split) <;> omega
theorem metB_prodV (a b : Int) : metB (prodV a b) = metB (a * b) := by
  unfold prodV
  split
  · rw [metB_hi (by omega), metB_hi (by omega)]
  · split
    · rw [metB_lo (by omega), metB_lo (by omega)]
    · rfl
def dist (n : Int) : Int := if n < 0 then -n else n
theorem dist_nonneg (n : Int) : 0 ≤ dist n := by unfold dist; split <;> omega
theorem dist_le (n : Int) (h1 : -1099511627776 ≤ n) (h2 : n ≤ 1099511627776) : dist n ≤ 1099511627776 := by unfold dist; split <;> omega
theorem dist_pos (n : Int) (h : n ≠ 0) : 0 < dist n := by unfold dist; split <;> omega
theorem dist_of_neg {n : Int} (h : n ≤ 0) : dist n = -n := by unfold dist; split <;> omega
theorem dist_of_pos {n : Int} (h : 0 ≤ n) : dist n = n := by unfold dist; split <;> omega
theorem dist_mul (a b : Int) : dist (a * b) = dist a * dist b := by
  rcases Int.lt_or_le a 0 with ha | ha <;> rcases Int.lt_or_le b 0 with hb | hb
  · rw [dist_of_neg (n := a) (by omega), dist_of_neg (n := b) (by omega), dist_of_pos (by have := Int.mul_pos_of_neg_of_neg ha hb; omega), Int.neg_mul_neg]
  · rw [dist_of_neg (n := a) (by omega), dist_of_pos hb, dist_of_neg (Int.mul_nonpos_of_nonpos_of_nonneg (by omega) hb), Int.neg_mul]
  · rw [dist_of_pos ha, dist_of_neg (n := b) (by omega), dist_of_neg (Int.mul_nonpos_of_nonneg_of_nonpos ha (by omega)), Int.mul_neg]
  · rw [dist_of_pos ha, dist_of_pos hb, dist_of_pos (Int.mul_nonneg ha hb)]
theorem dist_div (a b : Int) (ha : a ≠ 0) : dist b ≤ 1099511627776 / dist a ↔ dist (a * b) ≤ 1099511627776 := by
  rw [dist_mul, Int.le_ediv_iff_mul_le (dist_pos a ha), Int.mul_comm]
theorem dist_bd (x : Int) : dist x ≤ 1099511627776 ↔ -1099511627776 ≤ x ∧ x ≤ 1099511627776 := by unfold dist; split <;> omega
theorem mul_bd (a b : Int) (h1 : -1099511627776 ≤ a) (h2 : a ≤ 1099511627776) (h : a = 0 ∨ dist b ≤ 1099511627776 / dist a) : -1099511627776 ≤ a * b ∧ a * b ≤ 1099511627776 := by
  by_cases h0 : a = 0
  · subst h0; simp
  · exact (dist_bd _).1 ((dist_div a b h0).1 (h.resolve_left h0))
theorem mul_far (a b : Int) (h0 : a ≠ 0) (h : ¬ dist b ≤ 1099511627776 / dist a) : (a * b > 1099511627776 ∧ (a < 0 ↔ b < 0)) ∨ (a * b < -1099511627776 ∧ ¬ (a < 0 ↔ b < 0)) := by
  have hd : ¬ (-1099511627776 ≤ a * b ∧ a * b ≤ 1099511627776) := fun k => h ((dist_div a b h0).2 ((dist_bd _).2 k))
  rcases Int.lt_or_le a 0 with ha | ha <;> rcases Int.lt_or_le b 0 with hb | hb
  · have := Int.mul_pos_of_neg_of_neg ha hb; left; omega
  · have : a * b ≤ 0 := Int.mul_nonpos_of_nonpos_of_nonneg (by omega) hb
    right; omega
  · have : a * b ≤ 0 := Int.mul_nonpos_of_nonneg_of_nonpos ha (by omega)
    right; omega
  · have := Int.mul_nonneg ha hb; left; omega

def sumV (l : List Int) : Int := l.foldl (fun s x => bnd (s + bnd x)) 0
def sumM (l : List Int) : Bool := (l.foldl (fun (p : Int × Bool) x => (bnd (p.1 + bnd x), p.2 || metB x || metB (p.1 + bnd x))) (0, false)).2
theorem sum_fst (l : List Int) : (l.foldl (fun (p : Int × Bool) x => (bnd (p.1 + bnd x), p.2 || metB x || metB (p.1 + bnd x))) (0, false)).1 = sumV l := by
  have h : ∀ (l : List Int) (s : Int) (b : Bool), (l.foldl (fun (p : Int × Bool) x => (bnd (p.1 + bnd x), p.2 || metB x || metB (p.1 + bnd x))) (s, b)).1 = l.foldl (fun s x => bnd (s + bnd x)) s := by
    intro l
    induction l with
    | nil => intro s b; rfl
    | cons x l ih => intro s b; exact ih _ _
  exact h l 0 false
theorem sumV_snoc (l : List Int) (x : Int) : sumV (l ++ [x]) = bnd (sumV l + bnd x) := by simp [sumV]
theorem sumM_snoc (l : List Int) (x : Int) : sumM (l ++ [x]) = (sumM l || metB x || metB (sumV l + bnd x)) := by
  rw [← sum_fst]; simp [sumM]
theorem sumV_nil : sumV [] = 0 := rfl
theorem sumM_nil : sumM [] = false := rfl
theorem sumV_le (l : List Int) : -1099511627776 ≤ sumV l ∧ sumV l ≤ 1099511627776 := by
  rcases List.eq_nil_or_concat l with rfl | ⟨l, x, rfl⟩
  · rw [sumV_nil]; omega
  · rw [List.concat_eq_append, sumV_snoc]; exact ⟨bnd_ge _, bnd_le _⟩

/-- whole numbers' sum -/
def tot (l : List Int) : Int := l.foldr (· + ·) 0
theorem tot_append (l r : List Int) : tot (l ++ r) = tot l + tot r := by
  induction l with
  | nil => simp [tot]
  | cons x l ih => simp only [tot, List.cons_append, List.foldr_cons] at *; omega
theorem tot_one (x : Int) : tot [x] = x := by simp [tot]
theorem tot_reverse (l : List Int) : tot l.reverse = tot l := by
  induction l with
  | nil => rfl
  | cons x l ih => rw [List.reverse_cons, tot_append, ih, tot_one]; simp only [tot, List.foldr_cons]; omega
theorem tot_small (l : List Int) (h : ∀ x ∈ l, -2147483648 ≤ x ∧ x ≤ 2147483647) : -2147483648 * (l.length : Int) ≤ tot l ∧ tot l ≤ 2147483647 * (l.length : Int) := by
  induction l with
  | nil => simp [tot]
  | cons x l ih =>
    have h1 := ih (fun y hy => h y (List.mem_cons_of_mem _ hy))
    have h2 := h x (List.mem_cons_self ..)
    simp only [tot, List.foldr_cons, List.length_cons] at *
    omega
theorem sum_small (l : List Int) (hl : l.length ≤ 200) (h : ∀ x ∈ l, -2147483648 ≤ x ∧ x ≤ 2147483647) : sumV l = tot l ∧ sumM l = false := by
  have key : ∀ r : List Int, r.length ≤ 200 → (∀ x ∈ r, -2147483648 ≤ x ∧ x ≤ 2147483647) → sumV r.reverse = tot r.reverse ∧ sumM r.reverse = false := by
    intro r
    induction r with
    | nil => intro _ _; exact ⟨rfl, rfl⟩
    | cons x r ih =>
      intro hr hx
      obtain ⟨h1, h2⟩ := ih (by simp at hr; omega) (fun y hy => hx y (List.mem_cons_of_mem _ hy))
      have hx0 := hx x (List.mem_cons_self ..)
      have ht := tot_small r (fun y hy => hx y (List.mem_cons_of_mem _ hy))
      have hrl : r.length ≤ 199 := by simp at hr; omega
      rw [List.reverse_cons, sumV_snoc, sumM_snoc, h1, h2, tot_append, tot_one, tot_reverse, bnd_id (x := x) (by omega) (by omega), bnd_id (by omega) (by omega), metB_id (x := x) (by omega) (by omega), metB_id (by omega) (by omega)]
      exact ⟨rfl, rfl⟩
  have := key l.reverse (by simpa using hl) (by simpa using h)
  rwa [List.reverse_reverse] at this

end Go.Proofs.YtjedkkkhficmoaaDoor.SatP
