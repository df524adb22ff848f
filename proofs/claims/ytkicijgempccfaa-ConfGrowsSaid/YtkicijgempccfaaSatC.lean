/- The contract of Mul's closure. -/
import Derived.Test.YtkicijgempccfaaSatB
namespace Go.Proofs.Ytkicijgempccfaa.Sat
open Go.RowKit Go.Proofs.Ytkicijgempccfaa.SatP
set_option linter.unusedVariables false

set_option maxHeartbeats 1600000 in
theorem mul1_any (a b : Int) (ga gb g : Nat) (m : Bool) (w : World) (hg : Met w g m) (ha : w.cell? ⟨ga, 0, none⟩ = some (.int .i64 a)) (hb : w.cell? ⟨gb, 0, none⟩ = some (.int .i64 b)) (na : ga ≠ g) (nb : gb ≠ g) :
    Calls Try.prog 69 #[.func (.func 71) #[] #[.pointer (some ⟨g, 0, none⟩)], .pointer (some ⟨ga, 0, none⟩), .pointer (some ⟨gb, 0, none⟩)] w (WorkPost w g m (mulV a b) (mulM a b)) := by
  have h1 := bnd_ge a
  have h2 := bnd_le a
  have h3 := bnd_ge b
  have h4 := bnd_le b
  have HJ : Hid (J w w.drew g m ga gb a b) := Lib.hid ⟨hg, ha, hb, ⟨rfl, rfl, rfl, Nat.le_refl _, fun _ _ _ => rfl⟩, na, nb⟩
  clear hg na nb
  go_enter Try.func69, Try.ntmps69
  go_wp2
  go_region_with (first
    | (go_at_call 71; refine (bounded_j _ ‹Hid (J _ _ _ _ _ _ _ _)›).mono ?_; rintro e w' ⟨rfl, hj⟩; have ca := hj.out.ca; have cb := hj.out.cb)
    | (go_at_call 70; refine (product_any _ _ _ h1 h2 h3 h4).mono ?_; rintro e w' ⟨rfl, rfl⟩))
  all_goals
    go_wp2
    go_ret
    have hj := ‹Hid (J _ _ _ _ _ _ _ _)›.out
    refine ⟨ret_int (bnd_prodV _ _), met_as hj.met ?_, hj.grown⟩
    unfold mulM
    rw [metB_prodV]
    cases m <;> cases metB a <;> cases metB b <;> rfl

end Go.Proofs.Ytkicijgempccfaa.Sat
