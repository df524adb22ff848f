/- Plain mathematics of one who looks on: the first place at which something is so. -/
import Derived.Test.YthgfjikhbgippaaDoorFedQ
import Derived.Test.YthgfjikhbgippaaDoorPhaP
namespace Go.Proofs.YthgfjikhbgippaaDoor.WatP
open Go.RowKit Go.Proofs.YthgfjikhbgippaaDoor.PhaP
set_option linter.unusedVariables false

/-- v is the first place from k on, below n, at which p is so; -1: there is none -/
def Fi (p : Nat → Bool) (k n : Nat) (v : Int) : Prop := (v = -1 ∧ ∀ t, k ≤ t → t < n → p t = false) ∨ ∃ i : Nat, v = i ∧ k ≤ i ∧ i < n ∧ p i = true ∧ ∀ t, k ≤ t → t < i → p t = false
theorem Fi.one {p : Nat → Bool} {k n : Nat} {v u : Int} (h : Fi p k n v) (h' : Fi p k n u) : v = u := by
  rcases h with ⟨rfl, h⟩ | ⟨i, rfl, h1, h2, h3, h4⟩
  · rcases h' with ⟨rfl, h'⟩ | ⟨j, rfl, g1, g2, g3, g4⟩
    · rfl
    · rw [h j g1 g2] at g3; cases g3
  · rcases h' with ⟨rfl, h'⟩ | ⟨j, rfl, g1, g2, g3, g4⟩
    · rw [h' i h1 h2] at h3; cases h3
    · rcases Nat.lt_trichotomy i j with e | e | e
      · rw [g4 i h1 e] at h3; cases h3
      · rw [e]
      · rw [h4 j g1 e] at g3; cases g3
theorem Fi.none (p : Nat → Bool) {k n : Nat} (h : n ≤ k) : Fi p k n (-1) := .inl ⟨rfl, fun t h1 h2 => by omega⟩
/-- one place more ahead of it -/
theorem Fi.here {p : Nat → Bool} {k n : Nat} (h : k < n) (hp : p k = true) : Fi p k n k := .inr ⟨k, rfl, Nat.le_refl _, h, hp, fun t h1 h2 => by omega⟩
theorem Fi.on {p : Nat → Bool} {k n : Nat} {v : Int} (h : Fi p (k + 1) n v) (hp : p k = false) : Fi p k n v := by
  rcases h with ⟨rfl, h⟩ | ⟨i, rfl, h1, h2, h3, h4⟩
  · refine .inl ⟨rfl, fun t a b => ?_⟩
    by_cases e : t = k
    · subst e; exact hp
    · exact h t (by omega) b
  · refine .inr ⟨i, rfl, by omega, h2, h3, fun t a b => ?_⟩
    by_cases e : t = k
    · subst e; exact hp
    · exact h4 t (by omega) b
/-- from k on, where all ahead of m aren't so -/
theorem Fi.from {p : Nat → Bool} {k m n : Nat} {v : Int} (h : Fi p m n v) (hk : k ≤ m) (hp : ∀ t, k ≤ t → t < m → p t = false) : Fi p k n v := by
  rcases h with ⟨rfl, h⟩ | ⟨i, rfl, h1, h2, h3, h4⟩
  · refine .inl ⟨rfl, fun t a b => ?_⟩
    by_cases e : t < m
    · exact hp t a e
    · exact h t (by omega) b
  · refine .inr ⟨i, rfl, by omega, h2, h3, fun t a b => ?_⟩
    by_cases e : t < m
    · exact hp t a e
    · exact h4 t (by omega) b
theorem Fi.lt {p : Nat → Bool} {k n : Nat} {v : Int} (h : Fi p k n v) : v = -1 ∨ ((k : Int) ≤ v ∧ v < n) := by
  rcases h with ⟨rfl, h⟩ | ⟨i, rfl, h1, h2, h3, h4⟩
  · exact .inl rfl
  · exact .inr ⟨by omega, by omega⟩
theorem Fi.ex (p : Nat → Bool) (k n : Nat) : ∃ v, Fi p k n v := by
  by_cases h : n ≤ k
  · exact ⟨_, Fi.none p h⟩
  · obtain ⟨d, hd⟩ : ∃ d, n - k = d := ⟨_, rfl⟩
    induction d generalizing k with
    | zero => omega
    | succ d ih =>
      cases hp : p k
      · by_cases h' : n ≤ k + 1
        · exact ⟨_, (Fi.none p h').on hp⟩
        · obtain ⟨v, hv⟩ := ih (k + 1) h' (by omega)
          exact ⟨v, hv.on hp⟩
      · exact ⟨_, Fi.here (by omega) hp⟩
/-- is it -1 as far as n + 1? -/
theorem Fi.snoc {p : Nat → Bool} {n : Nat} {v : Int} (h : Fi p 0 n v) {u : Int} (h' : Fi p 0 (n + 1) u) : decide (u = -1) = (decide (v = -1) && !p n) := by
  rcases h with ⟨rfl, h⟩ | ⟨i, rfl, h1, h2, h3, h4⟩
  · cases hp : p n
    · have e := h'.one (.inl ⟨rfl, fun t a b => by
        by_cases e : t = n
        · subst e; exact hp
        · exact h t a (by omega)⟩)
      rw [e]; rfl
    · have e := h'.one (.inr ⟨n, rfl, Nat.zero_le _, by omega, hp, fun t a b => h t a b⟩)
      rw [e]
      have : ¬ ((n : Int) = -1) := by omega
      simp [this]
  · have e := h'.one (.inr ⟨i, rfl, h1, by omega, h3, h4⟩)
    rw [e]
    have : ¬ ((i : Int) = -1) := by omega
    simp [this]
/-- phases that don't follow, by the rows accepted -/
theorem fi_ac {rs : List (List Int)} {k : Nat} (h : Ac rs k) : Fi (fun j => !gd rs j) 0 rs.length (if k < rs.length then (k : Int) else -1) := by
  obtain ⟨h1, h2, h3⟩ := h
  by_cases hk : k < rs.length
  · rw [if_pos hk]
    exact .inr ⟨k, rfl, Nat.zero_le _, hk, by show (!gd rs k) = true; rw [h3 hk]; rfl, fun t _ b => by show (!gd rs t) = false; rw [h2 t b]; rfl⟩
  · rw [if_neg hk]
    exact .inl ⟨rfl, fun t _ b => by show (!gd rs t) = false; rw [h2 t (by omega)]; rfl⟩
end Go.Proofs.YthgfjikhbgippaaDoor.WatP
