/- Plain mathematics of what is taken to be so: no program is named here. -/
import Derived.WalkKit
namespace Go.Proofs.Ythgaacdgffpeaaa.SenP
open Go.RowKit

/-- what is taken to be so, and for how many ticks it wasn't -/
structure S where
  g : Bool
  c : Int
/-- a tick on -/
def st (s : S) (x : Bool) (m : Int) : S := if x = s.g then ⟨x, 0⟩ else if s.c + 1 < m then ⟨s.g, s.c + 1⟩ else ⟨x, 0⟩
/-- whether it came to another mind -/
def tn (s : S) (x : Bool) (m : Int) : Bool := if x = s.g then false else if s.c + 1 < m then false else true
/-- behind all of that -/
def rn (m : Int) (g : Bool) (l : List Bool) : S × Bool := l.foldl (fun p x => (st p.1 x m, tn p.1 x m)) (⟨g, 0⟩, false)
theorem rn_nil (m : Int) (g : Bool) : rn m g [] = (⟨g, 0⟩, false) := rfl
theorem rn_snoc (m : Int) (g : Bool) (l : List Bool) (x : Bool) : rn m g (l ++ [x]) = (st (rn m g l).1 x m, tn (rn m g l).1 x m) := by simp [rn, List.foldl_append]
theorem st_may {s : S} (x : Bool) {m : Int} (hm : 1 ≤ m) (h0 : 0 ≤ s.c) (h1 : s.c < m) : 0 ≤ (st s x m).c ∧ (st s x m).c < m := by
  unfold st; split
  · exact ⟨Int.le_refl _, by simp only; omega⟩
  · split <;> simp only <;> omega
theorem rn_may (m : Int) (g : Bool) (hm : 1 ≤ m) (l : List Bool) : 0 ≤ (rn m g l).1.c ∧ (rn m g l).1.c < m := by
  have : ∀ (l : List Bool) (p : S × Bool), 0 ≤ p.1.c → p.1.c < m → 0 ≤ (l.foldl (fun p x => (st p.1 x m, tn p.1 x m)) p).1.c ∧ (l.foldl (fun p x => (st p.1 x m, tn p.1 x m)) p).1.c < m := by
    intro l
    induction l with
    | nil => intro p h0 h1; exact ⟨h0, h1⟩
    | cons x l ih => intro p h0 h1; exact ih _ (st_may x hm h0 h1).1 (st_may x hm h0 h1).2
  exact this l _ (Int.le_refl _) (show (0 : Int) < m by omega)
/-- the other one, that is told the other thing -/
theorem st_other (g : Bool) (c : Int) (x : Bool) (m : Int) : st ⟨!g, c⟩ (!x) m = ⟨!(st ⟨g, c⟩ x m).g, (st ⟨g, c⟩ x m).c⟩ := by
  cases g <;> cases x <;> simp [st] <;> split <;> simp
theorem tn_other (g : Bool) (c : Int) (x : Bool) (m : Int) : tn ⟨!g, c⟩ (!x) m = tn ⟨g, c⟩ x m := by
  cases g <;> cases x <;> simp [tn]
theorem tn_says {s : S} {x : Bool} {m : Int} (h : tn s x m = true) : (st s x m).g = x := by
  unfold tn at h; unfold st
  by_cases k : x = s.g
  · rw [if_pos k]
  · rw [if_neg k] at h ⊢
    by_cases k1 : s.c + 1 < m
    · rw [if_pos k1] at h; cases h
    · rw [if_neg k1]
theorem one_says {s : S} {x : Bool} (h0 : 0 ≤ s.c) : (st s x 1).g = x := by
  unfold st
  by_cases k : x = s.g
  · rw [if_pos k]
  · rw [if_neg k, if_neg (by omega)]

end Go.Proofs.Ythgaacdgffpeaaa.SenP
