/- Contracts of the reference of layer 3. -/
import Derived.Test.YtnojenokeggpoaaRows
import Derived.Test.YtnojenokeggpoaaSatP
import Derived.WalkKit
import Derived.ProofKit
import Derived.Lib.Hide
import Derived.IntWalk
namespace Go.Proofs.Ytnojenokeggpoaa.Sat
open Go.RowKit Go.Proofs.Ytnojenokeggpoaa.SatP
set_option linter.unusedVariables false

theorem ret_pair {k : IntKind} {a b : Int} {c d : Bool} (h : a = b) (h2 : c = d) : Ending.returned (.tuple #[.int k a, .bool c]) = .returned (.tuple #[.int k b, .bool d]) := by rw [h, h2]

theorem refBound_any (n : Int) (w : World) : Calls Try.prog 18 #[.int .i64 n] w fun e w' => e = .returned (.tuple #[.int .i64 (bnd n), .bool (metB n)]) ∧ w = w' := by
  rcases Int.lt_or_le 1099511627776 n with h1 | h1
  · have H := Lib.hid (And.intro (bnd_hi h1) (metB_hi h1))
    go_enter Try.func18, Try.ntmps18
    go_wp2
    go_ret2
    exact ⟨by rw [H.out.1, H.out.2]; rfl, rfl⟩
  · rcases Int.lt_or_le n (-1099511627776) with h2 | h2
    · have H := Lib.hid (And.intro (bnd_lo h2) (metB_lo h2))
      go_enter Try.func18, Try.ntmps18
      go_wp2
      go_ret2
      exact ⟨by rw [H.out.1, H.out.2]; rfl, rfl⟩
    · have H := Lib.hid (And.intro (bnd_id h2 h1) (metB_id h2 h1))
      go_enter Try.func18, Try.ntmps18
      go_wp2
      go_ret2
      exact ⟨by rw [H.out.1, H.out.2]; rfl, rfl⟩
theorem refBound_is {x : Int} {m : Bool} (n : Int) (w : World) (h : Hid (bnd n = x ∧ metB n = m)) : Calls Try.prog 18 #[.int .i64 n] w fun e w' => e = .returned (.tuple #[.int .i64 x, .bool m]) ∧ w = w' := by
  obtain ⟨h1, h2⟩ := h.out
  subst h1 h2
  exact refBound_any n w

theorem refAdd_any (a b : Int) (w : World) : Calls Try.prog 13 #[.int .i64 a, .int .i64 b] w fun e w' => e = .returned (.tuple #[.int .i64 (addV a b), .bool (addM a b)]) ∧ w = w' := by
  have h1 := bnd_ge a
  have h2 := bnd_le a
  have h3 := bnd_ge b
  have h4 := bnd_le b
  unfold addV addM
  generalize hx : bnd a = x at *
  generalize hm : metB a = ma at *
  generalize hy : bnd b = y at *
  generalize hn : metB b = mb at *
  generalize hz : bnd (x + y) = z at *
  generalize hk : metB (x + y) = mc at *
  have HA := Lib.hid (And.intro hx hm)
  have HB := Lib.hid (And.intro hy hn)
  have HC := Lib.hid (And.intro hz hk)
  clear hx hm hy hn hz hk
  cases ma <;> cases mb
  all_goals
    go_enter Try.func13, Try.ntmps13
    go_wp2_with (first
      | (go_at_call 18; with_reducible refine (refBound_is _ _ HA).mono ?_; rintro e w' ⟨rfl, rfl⟩)
      | (go_at_call 18; with_reducible refine (refBound_is _ _ HB).mono ?_; rintro e w' ⟨rfl, rfl⟩)
      | (go_at_call 18; refine (refBound_is _ _ HC).mono ?_; rintro e w' ⟨rfl, rfl⟩))
    go_ret2
    exact ⟨rfl, rfl⟩

end Go.Proofs.Ytnojenokeggpoaa.Sat
