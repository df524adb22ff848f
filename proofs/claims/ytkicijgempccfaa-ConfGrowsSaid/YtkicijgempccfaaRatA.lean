/- Contracts of rates' inner functions. -/
import Derived.Test.YtkicijgempccfaaRows
import Derived.Test.YtkicijgempccfaaRatP
import Derived.Test.YtkicijgempccfaaSees
import Derived.WalkKit
import Derived.ProofKit
import Derived.Lib.Hide
import Derived.IntWalk
import Derived.BigQuiet
import Derived.Deep.QuietTactic
namespace Go.Proofs.Ytkicijgempccfaa.Rat
open Go.RowKit Go.Proofs.Ytkicijgempccfaa.RatP
set_option linter.unusedVariables false

theorem ret_int {k : IntKind} {a b : Int} (h : a = b) : Ending.returned (.int k a) = .returned (.int k b) := by rw [h]

theorem isNaN_any (n : Int) (w : World) : Calls Try.prog 104 #[.int .i64 n] w fun e w' => e = .returned (.bool false) ∧ w = w' := by
  have e1 : (n != n) = false := by simp
  go_enter Try.func104, Try.ntmps104
  go_wp2
  go_ret
  exact ⟨rfl, rfl⟩

theorem cmp_any (n : Int) (w : World) : Calls Try.prog 103 #[.int .i64 n, .int .i64 0] w fun e w' => e = .returned (.int .i64 (sg n)) ∧ w = w' := by
  rcases sg_cases n with ⟨h, e⟩ | ⟨h, e⟩ | ⟨h, e⟩
  · have h2 : ¬ n < 0 := by omega
    have E := Lib.hid e
    clear e
    go_enter Try.func103, Try.ntmps103
    go_wp2_with (go_at_call 104; refine (isNaN_any _ _).mono ?_; rintro e w' ⟨rfl, rfl⟩)
    go_ret
    exact ⟨by rw [E.out]; rfl, rfl⟩
  · have E := Lib.hid e
    clear e
    go_enter Try.func103, Try.ntmps103
    go_wp2_with (go_at_call 104; refine (isNaN_any _ _).mono ?_; rintro e w' ⟨rfl, rfl⟩)
    go_ret
    exact ⟨by rw [E.out]; rfl, rfl⟩
  · subst h
    clear e
    go_enter Try.func103, Try.ntmps103
    go_wp2_with (go_at_call 104; refine (isNaN_any _ _).mono ?_; rintro e w' ⟨rfl, rfl⟩)
    go_ret
    exact ⟨rfl, rfl⟩

theorem sign_any (n : Int) (w : World) : Calls Try.prog 101 #[.int .i64 n] w fun e w' => e = .returned (.int .i64 (sg n)) ∧ w = w' := by
  go_enter Try.func101, Try.ntmps101
  go_wp2_with (go_at_call 103; refine (cmp_any _ _).mono ?_; rintro e w' ⟨rfl, rfl⟩)
  go_ret
  exact ⟨rfl, rfl⟩

theorem bounded_any (n : Int) (w : World) : Calls Try.prog 102 #[.int .i64 n] w fun e w' => e = .returned (.int .i64 (bd n)) ∧ w = w' := by
  have m1 : ∀ W, (Builtin.min_ #[3, 3] 3 #[.int .i64 n, .int .i64 64]).run Try.prog W = .ok (.int .i64 (min n 64)) W := fun W => by
    rw [run_min_int2]; congr 2; split <;> omega
  have m2 : ∀ W, (Builtin.max_ #[3, 3] 3 #[.int .i64 0, .int .i64 (min n 64)]).run Try.prog W = .ok (.int .i64 (bd n)) W := fun W => by
    rw [run_max_int2]; congr 2; unfold bd; split <;> (try split) <;> (try split) <;> omega
  generalize min n 64 = k at *
  generalize bd n = b at *
  go_enter Try.func102, Try.ntmps102
  go_wp2
  go_ret
  exact ⟨rfl, rfl⟩

/-- a record of rates as a value -/
def val (r : R) : Value := .agg #[.int .i64 r.idle, .int .i64 r.move, .int .i64 r.gain, .int .i64 r.pull, .int .i64 r.door, .int .i64 r.weight]
/-- what a call that only makes memory answers -/
def Says (w : World) (v : Value) (e : Ending) (w' : World) : Prop := e = .returned v ∧ Below w.heap.size w w'
theorem below_drewN {B : Nat} {a w : World} (h : Below B a w) (n : Nat) : Below B a (w.drewN n) := ⟨h.os, h.tape, h.output, h.size, h.block⟩

theorem heavy_any (r : R) (hr : r.May) (l d : Int) (w : World) : Calls Try.prog 93 #[val r, .int .i64 l, .int .i64 d] w (Says w (.int .i64 (hv r l d))) := by
  obtain ⟨i, m, g, p, dd, wt⟩ := r
  have b0 := bd_ge l
  have b1 := bd_le l
  have w0 : 0 ≤ wt := hr.w0
  have w1 : wt ≤ 64 := hr.w1
  have s0 : -1 ≤ sg d ∧ sg d ≤ 1 := by rcases sg_cases d with ⟨_, h⟩ | ⟨_, h⟩ | ⟨_, h⟩ <;> omega
  have hb := hv_bds hr l d
  have e1 : IntKind.i64.wrap (bd l - wt) = bd l - wt := IntWalk.i64_in _ (by omega)
  have e2 : IntKind.i64.wrap (sg d * (bd l - wt)) = sg d * (bd l - wt) := IntWalk.i64_in _ (by have : hv ⟨i, m, g, p, dd, wt⟩ l d = sg d * (bd l - wt) := rfl; omega)
  have E1 := Lib.hid e1
  have E2 := Lib.hid e2
  clear e1 e2 hb hr b0 b1 w0 w1 s0
  unfold val
  go_enter Try.func93, Try.ntmps93
  go_wp2
  go_quiet ((first | (go_at_call 101; exact Calls.quiet_of_same ((sign_any _ _).mono fun e w' ⟨h, k⟩ => ⟨h, k.symm⟩)) | (go_at_call 102; exact Calls.quiet_of_same ((bounded_any _ _).mono fun e w' ⟨h, k⟩ => ⟨h, k.symm⟩))))
  go_wp2
  go_ret
  refine ⟨?_, below_drewN ((Below.refl _ _).alloc (Nat.le_refl _) _) _⟩
  exact ret_int (by rw [← IntWalk.i64_left, ← IntWalk.i64_left, E1.out, E2.out]; rfl)

end Go.Proofs.Ytkicijgempccfaa.Rat
