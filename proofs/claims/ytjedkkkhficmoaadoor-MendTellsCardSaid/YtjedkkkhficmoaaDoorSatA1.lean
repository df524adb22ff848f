/- Contracts of sat's inner functions: what bounds a number. -/
import Derived.Test.YtjedkkkhficmoaaDoorRows
import Derived.Test.YtjedkkkhficmoaaDoorSatP
import Derived.Test.YtjedkkkhficmoaaDoorSees
import Derived.WalkKit
import Derived.ProofKit
import Derived.Lib.Hide
namespace Go.Proofs.YtjedkkkhficmoaaDoor.Sat
open Go.RowKit Go.Proofs.YtjedkkkhficmoaaDoor.SatP
set_option linter.unusedVariables false

/-- block g is one cell that holds a bool -/
def Met (w : World) (g : Nat) (m : Bool) : Prop := w.heap[g]? = some (.cells #[.bool m] 4 (0, 0))
theorem Met.cell {w : World} {g : Nat} {m : Bool} (h : Met w g m) : w.cell? ⟨g, 0, none⟩ = some (.bool m) := cell_of_one h
theorem Met.free {w : World} {g : Nat} {m : Bool} (h : Met w g m) : w.frozen? ⟨g, 0, none⟩ = false := free_of_one h

/-- the closure that bounds a number -/
theorem bounded_any (n : Int) (g : Nat) (m : Bool) (w : World) (hg : Met w g m) :
    Calls Tryd.prog 56 #[.int .i64 n, .pointer (some ⟨g, 0, none⟩)] w fun e w' => e = .returned (.int .i64 (bnd n)) ∧ w.setCell ⟨g, 0, none⟩ (.bool (m || metB n)) = w' := by
  have hc := hg.cell
  have hf := hg.free
  have HG := Lib.hid hg
  clear hg
  have fin : ∀ x : Int, ∀ b : Bool, x = bnd n → b = metB n → ∀ q : Bool, q = (m || b) → Ending.returned (Value.int .i64 x) = Ending.returned (.int .i64 (bnd n)) ∧ w.setCell ⟨g, 0, none⟩ (.bool (m || metB n)) = w.setCell ⟨g, 0, none⟩ (.bool q) := by
    rintro x b rfl rfl q rfl; exact ⟨rfl, rfl⟩
  have FIN := Lib.hid fin
  clear fin
  cases m
  all_goals
    rcases Int.lt_or_le 1099511627776 n with h1 | h1
    · have e1 : ((1099511627776 : Int) != n) = true := by simp; omega
      go_enter Tryd.func56, Tryd.ntmps56
      go_wp2
      go_ret
      exact FIN.out _ true (bnd_hi h1).symm (metB_hi h1).symm _ rfl
    · rcases Int.lt_or_le n (-1099511627776) with h2 | h2
      · have e1 : ((-1099511627776 : Int) != n) = true := by simp; omega
        go_enter Tryd.func56, Tryd.ntmps56
        go_wp2
        go_ret
        exact FIN.out _ true (bnd_lo h2).symm (metB_lo h2).symm _ rfl
      · by_cases h3 : n = -1099511627776
        · subst h3
          go_enter Tryd.func56, Tryd.ntmps56
          go_wp2
          go_ret
          exact FIN.out _ false (bnd_id h2 h1).symm (metB_id h2 h1).symm _ rfl
        · have h4 : -1099511627776 < n := by omega
          have h5 : ¬ n ≤ -1099511627776 := by omega
          have e1 : (n != n) = false := by simp
          clear h3
          go_enter Tryd.func56, Tryd.ntmps56
          go_wp2
          go_ret
          exact FIN.out _ false (bnd_id h2 h1).symm (metB_id h2 h1).symm _ rfl

end Go.Proofs.YtjedkkkhficmoaaDoor.Sat
