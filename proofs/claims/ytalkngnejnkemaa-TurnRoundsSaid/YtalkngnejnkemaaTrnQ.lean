/- Plain mathematics of turns: rounds of the same cars that are ready. -/
import Derived.Test.YtalkngnejnkemaaTrnP
namespace Go.Proofs.Ytalkngnejnkemaa.TrnP
open Go.Proofs.Ytalkngnejnkemaa.OrdP
set_option linter.unusedVariables false

/-- the turn in tick i: i cars, each for p ticks -/
def tr (r p : Nat) : Nat → T
  | 0 => no
  | i + 1 => ⟨(cs r 64)[i / p % (cs r 64).length]?.getD 0, p - (i % p : Nat)⟩
theorem cs_some {r : Nat} (hr : r < 18446744073709551616) (h : r ≠ 0) : 0 < (cs r 64).length := by
  obtain ⟨y, hy⟩ := hb_some hr h
  obtain ⟨i, hi⟩ := cs_all hy
  obtain ⟨h1, _⟩ := List.getElem?_eq_some_iff.1 hi
  omega
theorem tr_at {r p i : Nat} (hl : 0 < (cs r 64).length) : ∃ x, (cs r 64)[i / p % (cs r 64).length]? = some x ∧ tr r p (i + 1) = ⟨x, p - (i % p : Nat)⟩ := by
  have h := Nat.mod_lt (i / p) hl
  refine ⟨_, List.getElem?_eq_getElem h, ?_⟩
  show (⟨(cs r 64)[i / p % (cs r 64).length]?.getD 0, _⟩ : T) = _
  rw [List.getElem?_eq_getElem h]; rfl
theorem tr_le (r p i : Nat) : (tr r p i).l ≤ p := by
  cases i with
  | zero => show (0 : Int) ≤ p; omega
  | succ j => show (p : Int) - (j % p : Nat) ≤ p; omega
theorem div_more {p i : Nat} (hp : 0 < p) (h : i % p + 1 < p) : (i + 1) / p = i / p ∧ (i + 1) % p = i % p + 1 := by
  have e : i + 1 = p * (i / p) + (i % p + 1) := by have := Nat.div_add_mod i p; omega
  constructor
  · rw [e, Nat.mul_add_div hp, Nat.div_eq_of_lt h, Nat.add_zero]
  · rw [e, Nat.mul_add_mod, Nat.mod_eq_of_lt h]
theorem div_next {p i : Nat} (hp : 0 < p) (h : i % p + 1 = p) : (i + 1) / p = i / p + 1 ∧ (i + 1) % p = 0 := by
  have e : i + 1 = p * (i / p + 1) := by rw [Nat.mul_add, Nat.mul_one]; have := Nat.div_add_mod i p; omega
  constructor
  · rw [e, Nat.mul_div_cancel_left _ hp]
  · rw [e, Nat.mul_mod_right]
theorem tr_next {r p : Nat} (hl : 0 < (cs r 64).length) (hp : 0 < p) (i : Nat) : st (tr r p i) r false p = tr r p (i + 1) := by
  obtain ⟨x, hx, e⟩ := tr_at (p := p) (i := i) hl
  have hhx := cs_has hx
  have hgx := bg_pos (p : Int) (hb_ge hhx)
  rw [show max 1 (p : Int) = p by omega] at hgx
  cases i with
  | zero =>
    rw [Nat.zero_div, Nat.zero_mod] at hx
    have e0 : hb r no.c = false := hb_out (inb_no.2 (by show ¬ (0 ≤ (-1 : Int) ∧ _); omega))
    show st no r false p = _
    unfold st
    rw [if_pos e0, e, show nb r no.c = x from nb_first hx, hgx]
    simp
  | succ j =>
    obtain ⟨y, hy, e2⟩ := tr_at (p := p) (i := j) hl
    have hm := Nat.mod_lt j hp
    rw [e, e2]
    unfold st
    simp only
    rw [if_neg (by rw [cs_has hy]; decide), if_neg (by decide)]
    by_cases h : j % p + 1 = p
    · obtain ⟨d1, d2⟩ := div_next hp h
      rw [if_pos (by omega)]
      rw [d1] at hx
      have hx2 : (cs r 64)[(j / p % (cs r 64).length + 1) % (cs r 64).length]? = some x := by rw [Nat.mod_add_mod]; exact hx
      rw [nb_next hy hx2, hgx, d2]
      simp
    · obtain ⟨d1, d2⟩ := div_more hp (by omega : j % p + 1 < p)
      rw [if_neg (by omega)]
      rw [d1, hy] at hx
      injection hx with hx
      rw [hx, d2]
      exact T.ext2 rfl (by simp only; omega)
end Go.Proofs.Ytalkngnejnkemaa.TrnP
