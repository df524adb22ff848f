/- A statement 'x.f = append(x.f, one element)' whose region draws its order: how far it is. -/
import Derived.Test.YtkicijgempccfaaInv2
import Derived.Test.YtkicijgempccfaaTwoRows
import Derived.Deep.AppendLies
namespace Go.Proofs.Ytkicijgempccfaa.Inv
open Go Go.RowKit
set_option linter.unusedVariables false

def ApG (W1 : World) (base : Nat) (e : TypeId) (size n H : Nat) (old : Value) (xs : List Value) (g cap : Nat) (w' : World) : Prop :=
  w'.ownsRow base e size (.slice (some ⟨g, 0, none⟩) (n + 1) cap) (n + 1) xs ∧ W1.grownBy w' old.ownBlock ∧ (old.ownBlock = some g ∨ g = H) ∧ g < w'.heap.size
/-- i1: the element laid; i2: append; i3: the store -/
def ApT (W0 : World) (p : Addr) (base : Nat) (e : TypeId) (size n : Nat) (old : Value) (xs : List Value) (new : Obj) (i1 i2 i3 : Nat) (L : Array Bool) (x : Nat → Value) (w' : World) : Prop :=
  if L.getD i3 false = true then ∃ g cap w1, ApG (W0.alloc new) base e size n (W0.heap.size + 1) old xs g cap w1 ∧ w' = w1.setCell p (.slice (some ⟨g, 0, none⟩) (n + 1) cap)
  else if L.getD i2 false = true then ∃ g cap, x i2 = .slice (some ⟨g, 0, none⟩) (n + 1) cap ∧ ApG (W0.alloc new) base e size n (W0.heap.size + 1) old xs g cap w'
  else if L.getD i1 false = true then w' = W0.alloc new
  else w' = W0
section
variable {W0 : World} {p : Addr} {base : Nat} {e : TypeId} {size n : Nat} {old : Value} {xs : List Value} {new : Obj} {i1 i2 i3 : Nat} {L : Array Bool} {x : Nat → Value} {w' : World}
theorem rep_no (n i : Nat) : ¬ (Array.replicate n false).getD i false = true := by
  rcases Nat.lt_or_ge i n with h | h <;> simp [h]
theorem no_of {b : Bool} (h : b = false) : ¬ b = true := by rw [h]; decide
theorem ApT.start (m : Nat) : ApT W0 p base e size n old xs new i1 i2 i3 (Array.replicate m false) x W0 := by
  unfold ApT
  rw [if_neg (rep_no m i3), if_neg (rep_no m i2), if_neg (rep_no m i1)]
theorem ApT.same {i : Nat} {v : Value} (h1 : i ≠ i1) (h2 : i ≠ i2) (h3 : i ≠ i3) (h : ApT W0 p base e size n old xs new i1 i2 i3 L x w') : ApT W0 p base e size n old xs new i1 i2 i3 (L.setIfInBounds i true) (upd x i v) w' := by
  have e : upd x i v i2 = x i2 := by simp only [upd]; rw [if_neg (Ne.symm h2)]
  unfold ApT at *
  rw [getD_set_far h3, getD_set_far h2, getD_set_far h1, e]
  exact h
theorem ApT.at0 (h : ApT W0 p base e size n old xs new i1 i2 i3 L x w') (h3 : L.getD i3 false = false) (h2 : L.getD i2 false = false) (h1 : L.getD i1 false = false) : w' = W0 := by
  unfold ApT at h
  rwa [if_neg (no_of h3), if_neg (no_of h2), if_neg (no_of h1)] at h
theorem ApT.at1 (h : ApT W0 p base e size n old xs new i1 i2 i3 L x w') (h3 : L.getD i3 false = false) (h2 : L.getD i2 false = false) (h1 : L.getD i1 false = true) : w' = W0.alloc new := by
  unfold ApT at h
  rwa [if_neg (no_of h3), if_neg (no_of h2), if_pos h1] at h
theorem ApT.at2 (h : ApT W0 p base e size n old xs new i1 i2 i3 L x w') (h3 : L.getD i3 false = false) (h2 : L.getD i2 false = true) : ∃ g cap, x i2 = .slice (some ⟨g, 0, none⟩) (n + 1) cap ∧ ApG (W0.alloc new) base e size n (W0.heap.size + 1) old xs g cap w' := by
  unfold ApT at h
  rwa [if_neg (no_of h3), if_pos h2] at h
theorem ApT.at3 (h : ApT W0 p base e size n old xs new i1 i2 i3 L x w') (h3 : L.getD i3 false = true) : ∃ g cap w1, ApG (W0.alloc new) base e size n (W0.heap.size + 1) old xs g cap w1 ∧ w' = w1.setCell p (.slice (some ⟨g, 0, none⟩) (n + 1) cap) := by
  unfold ApT at h
  rwa [if_pos h3] at h
theorem ApT.mk1 {v : Value} (hs : i1 < L.size) (h13 : i1 ≠ i3) (h12 : i1 ≠ i2) (h3 : L.getD i3 false = false) (h2 : L.getD i2 false = false) : ApT W0 p base e size n old xs new i1 i2 i3 (L.setIfInBounds i1 true) (upd x i1 v) (W0.alloc new) := by
  unfold ApT
  rw [getD_set_far h13, getD_set_far h12, getD_set_here hs, if_neg (no_of h3), if_neg (no_of h2), if_pos rfl]
theorem ApT.mk2 {g cap : Nat} (hs : i2 < L.size) (h23 : i2 ≠ i3) (h3 : L.getD i3 false = false) (h : ApG (W0.alloc new) base e size n (W0.heap.size + 1) old xs g cap w') : ApT W0 p base e size n old xs new i1 i2 i3 (L.setIfInBounds i2 true) (upd x i2 (.slice (some ⟨g, 0, none⟩) (n + 1) cap)) w' := by
  unfold ApT
  rw [getD_set_far h23, getD_set_here hs, if_neg (no_of h3), if_pos rfl]
  exact ⟨g, cap, by simp [upd], h⟩
theorem ApT.mk3 {g cap : Nat} {v : Value} (hs : i3 < L.size) (h : ApG (W0.alloc new) base e size n (W0.heap.size + 1) old xs g cap w') : ApT W0 p base e size n old xs new i1 i2 i3 (L.setIfInBounds i3 true) (upd x i3 v) (w'.setCell p (.slice (some ⟨g, 0, none⟩) (n + 1) cap)) := by
  unfold ApT
  rw [getD_set_here hs, if_pos rfl]
  exact ⟨g, cap, w', h, rfl⟩
/-- what lies elsewhere is as it was, ahead of the store -/
theorem ApT.keep (h : ApT W0 p base e size n old xs new i1 i2 i3 L x w') (h3 : L.getD i3 false = false) (Y : Nat) (hY : Y < W0.heap.size) (hne : some Y ≠ old.ownBlock) : w'.heap[Y]? = W0.heap[Y]? := by
  have h1 : (W0.alloc new).heap[Y]? = W0.heap[Y]? := ((Below.refl W0.heap.size W0).alloc (Nat.le_refl _) new).block Y hY
  cases h2 : L.getD i2 false
  · cases h1' : L.getD i1 false
    · rw [h.at0 h3 h2 h1']
    · rw [h.at1 h3 h2 h1']; exact h1
  · obtain ⟨g, cap, _, _, hg, _, _⟩ := h.at2 h3 h2
    exact (hg.block Y (by simp; omega) hne).trans h1
end

end Go.Proofs.Ytkicijgempccfaa.Inv
