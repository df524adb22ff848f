/- Two rows of the call's own, side by side. -/
import Derived.Test.YtdmihhjbbodjoaaDoorSees
namespace Go.Proofs.YtdmihhjbbodjoaaDoor.Sees
open Go.RowKit
set_option linter.unusedVariables false

/-- the blocks of two rows of the call's own are not one -/
def Apart (u v : Value) : Prop := ∀ g, u.ownBlock = some g → v.ownBlock ≠ some g
theorem Apart.symm {u v : Value} (h : Apart u v) : Apart v u := fun g hg hu => h g hu hg
/-- the other row is as it was behind an append -/
theorem own_apart {w w' : World} {base : Nat} {e : TypeId} {size : Nat} {u v : Value} {n : Nat} {xs : List Value} (h : w.ownsRow base e size v n xs) (hg : w.grownBy w' u.ownBlock) (ha : Apart u v) : w'.ownsRow base e size v n xs := by
  refine h.kept hg ?_
  cases hv : v.ownBlock with
  | none => exact .inl rfl
  | some g => exact .inr fun e => ha g e.symm hv
/-- and what the append handed back lies apart from it again -/
theorem Apart.grown {w : World} {base : Nat} {e : TypeId} {size : Nat} {u u' v : Value} {n : Nat} {xs : List Value} (h : w.ownsRow base e size v n xs) (ha : Apart u v) (hat : u'.ownBlock = u.ownBlock ∨ u'.ownBlock = some w.heap.size) : Apart u' v := by
  intro g hg hv
  rcases hat with e | e
  · exact ha g (e ▸ hg) hv
  · have := (h.lt g hv).2
    rw [e] at hg
    injection hg with hg
    omega
end Go.Proofs.YtdmihhjbbodjoaaDoor.Sees
