/- Plain mathematics of orders: all that are to come, each once. -/
import Derived.Test.YtmacnecjgdjdiaaOrdQ
namespace Go.Proofs.Ytmacnecjgdjdiaa.OrdP
set_option linter.unusedVariables false

/-- all that are to come: each once, in order -/
def wd (d o : Nat) (l : List Int) : List Int := (fr d o l).eraseDups
theorem fr_snoc (d o : Nat) (l : List Int) (x : Int) : fr d o (l ++ [x]) = fr d o l ++ if may d o x = true then [x] else [] := by
  rw [fr_eq, fr_eq, List.filter_append]
  cases h : may d o x <;> simp [h]
theorem may_0 (o : Nat) (x : Int) : may 0 o x = (inb x && !hb o x) := by
  unfold may
  have : hb 0 x = false := by unfold hb; rw [Nat.zero_testBit, Bool.and_false]
  rw [this]; simp
theorem wd_snoc (o : Nat) (l : List Int) (x : Int) : wd 0 o (l ++ [x]) = if ((inb x && !hb o x) && !l.contains x) = true then wd 0 o l ++ [x] else wd 0 o l := by
  unfold wd
  rw [fr_snoc, ← may_0]
  cases h : may 0 o x
  · simp
  · have hc : (fr 0 o l).contains x = l.contains x := by
      rw [Bool.eq_iff_iff, List.contains_iff_mem, List.contains_iff_mem, fr_eq, List.mem_filter]
      exact ⟨fun k => k.1, fun k => ⟨k, h⟩⟩
    rw [if_pos rfl, List.eraseDups_append, Bool.true_and]
    cases hl : l.contains x
    · have : [x].removeAll (fr 0 o l) = [x] := by
        rw [hl] at hc
        simp only [List.removeAll, List.filter_cons, List.elem_eq_contains, hc]
        simp
      rw [this]
      simp [List.eraseDups_cons]
    · have : [x].removeAll (fr 0 o l) = [] := by
        rw [hl] at hc
        simp only [List.removeAll, List.filter_cons, List.elem_eq_contains, hc]
        simp
      rw [this]
      simp
theorem wd_len (d o : Nat) (l : List Int) : (wd d o l).length ≤ l.length := by
  have h1 : ∀ xs : List Int, xs.eraseDups.length ≤ xs.length := by
    intro xs
    generalize hn : xs.length = n
    induction n using Nat.strongRecOn generalizing xs with
    | _ n ih =>
      cases xs with
      | nil => simp
      | cons a as =>
        rw [List.eraseDups_cons, List.length_cons]
        have h2 := List.length_filter_le (fun b => !b == a) as
        have h3 := ih _ (by rw [List.length_cons] at hn; omega) (as.filter fun b => !b == a) rfl
        rw [List.length_cons] at hn
        omega
  exact Nat.le_trans (h1 _) (fr_len d o l)
theorem wd_next {d o : Nat} {l : List Int} {c : Int} {cs : List Int} (h : wd d o l = c :: cs) : nx d o l = c ∧ may d o c = true ∧ wd (wi d c) o l = cs := by
  unfold wd at h
  cases hf : fr d o l with
  | nil => rw [hf] at h; cases h
  | cons x xs =>
    rw [hf, List.eraseDups_cons] at h
    injection h with h1 h2
    subst h1
    have hm : may d o x = true := fr_may (l := l) (by rw [hf]; exact List.mem_cons_self ..)
    refine ⟨by unfold nx; rw [hf]; rfl, hm, ?_⟩
    unfold wd
    rw [fr_wi d o l x (inb_iff.2 (may_in hm)), hf, ← h2]
    congr 1
    rw [List.filter_cons]
    simp
    rfl
theorem wd_end {d o : Nat} {l : List Int} (h : wd d o l = []) : nx d o l = -1 ∧ lf d o l = 0 := by
  unfold wd at h
  cases hf : fr d o l with
  | nil => exact ⟨by unfold nx; rw [hf]; rfl, by unfold lf; rw [hf]; rfl⟩
  | cons x xs => rw [hf, List.eraseDups_cons] at h; cases h
theorem contains_snoc (l : List Int) (x y : Int) : (l ++ [y]).contains x = (l.contains x || (y == x)) := by
  rw [Bool.eq_iff_iff]
  simp only [List.contains_iff_mem, List.mem_append, List.mem_singleton, Bool.or_eq_true, beq_iff_eq]
  exact ⟨fun h => h.imp id Eq.symm, fun h => h.imp id Eq.symm⟩
end Go.Proofs.Ytmacnecjgdjdiaa.OrdP
