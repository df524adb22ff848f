/- A region that draws its order, with operations behind that wait for all, its frame a letter. -/
import Derived.Test.YtgbgbodhpahceaaDoorSlot
namespace Go.Proofs.YtgbgbodhpahceaaDoor.Slot
open Go Go.RowKit Go.Proofs.YtgbgbodhpahceaaDoor.Inv Go.Proofs.YtgbgbodhpahceaaDoor.Held
set_option linter.unusedVariables false

section
variable {P : Program} {Q : Exit → Act → World → Prop} {l : List Oper}
/-- the same, ahead of operations that wait for all -/
theorem wp_region_slotst {id : Nat} {a : Act} {w : World} (m : Nat) (F : Nat → Value → World → Prop) (hm : P.follows .mixedOrders = true) (hB : headB l 0 m a.tmps.size = true) (hA : apartB (l.take m) = true) (hI : inB (l.take m) a.tmps.size = true)
    (hF : ∀ k v w' w'', F k v w' → Below w'.heap.size w' w'' → F k v w'')
    (hstep : ∀ (i : Nat) (o : Oper) (x : Nat → Value) (w' : World) (K : Act → World → Prop) (A : Act), i < m → l[i]? = some o → Below w.heap.size w w' → (∀ e ∈ o.after, Region.binds .any e = true → F e.on (x e.on) w') →
      (∀ k p d, (l.take m)[k]? = some p → p.dst = some d → A.tmps[d]? = some (x k)) → (∀ d, (∀ p ∈ l.take m, p.dst ≠ some d) → A.tmps[d]? = a.tmps[d]?) →
      (∀ v w'', Below w'.heap.size w' w'' → F i v w'' → K (A.put o.dst v) w'') → wpOp P l.toArray Q i K A w')
    (hend : ∀ (x : Nat → Value) (w' : World), Below w.heap.size w w' → (∀ k, k < m → F k (x k) w') → wpList P l.toArray Q (l.drop m) (fill (l.take m) 0 x a) w') :
    (Code.region id l.toArray true).wp P Q a w :=
  Held.wp_region_invt m F hm hB hF (fun i o x w' K hi ho hB2 hd hK => hstep i o x w' K _ hi ho hB2 hd
    (fun k p d hk hp => by have := fill_at (l.take m) 0 x a k p hA hk hp (in_of hI hk hp); rwa [Nat.zero_add] at this) (fun d h => fill_other (l.take m) 0 x a h) hK) hend

end
end Go.Proofs.YtgbgbodhpahceaaDoor.Slot
