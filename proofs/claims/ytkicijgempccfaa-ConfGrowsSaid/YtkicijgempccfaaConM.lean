/- Contracts at a law's box: what the laws of layer 5 call. -/
import Derived.Test.YtkicijgempccfaaConL
import Derived.Test.YtkicijgempccfaaConO
import Derived.Test.YtkicijgempccfaaConT
namespace Go.Proofs.Ytkicijgempccfaa.Con
open Go.RowKit Go.Proofs.Ytkicijgempccfaa.RatP Go.Proofs.Ytkicijgempccfaa.SatP Go.Proofs.Ytkicijgempccfaa.ConP Go.Proofs.Ytkicijgempccfaa.Rat
set_option linter.unusedVariables false

theorem lj_awake {w W : World} {X : Nat} {v : V} (h : Hid (LJ w W X v)) : Calls Try.prog 9 #[] W fun e W' => e = .returned (.bool true) ∧ Hid (LJ w W' X v) := lj_of h (awake5_any W)
theorem lj_small {w W : World} {X : Nat} {v : V} {b : Bool} (hb : Hid (smB v = b)) (h : Hid (LJ w W X v)) : Calls Try.prog 10 #[v.val] W fun e W' => e = .returned (.bool b) ∧ Hid (LJ w W' X v) := by
  have := lj_of h (small_any v W); rw [hb.out] at this; exact this
theorem lj_check {w W : World} {X : Nat} {v : V} {b : Bool} (hs : Hid (smB v = true)) (hb : Hid (mayC v.c = b)) (h : Hid (LJ w W X v)) : Calls Try.prog 11 #[v.val] W fun e W' => e = .returned (.bool b) ∧ Hid (LJ w W' X v) := by
  have h2 := (smB_iff v).1 hs.out
  have := lj_of h (Check_conf v (by omega) (by omega) W h.out.inn); rw [hb.out] at this; exact this
/-- a group beside, that is known by its slices alone -/
theorem lj2_of {w W : World} {X : Nat} {v u : V} {f : FuncId} {args : Array Value} {r : Value} (h : Hid (LJ w W X v)) (k : Hid (V.In W u)) (hc : Calls Try.prog f args W (Says W r)) : Calls Try.prog f args W fun e W' => e = .returned r ∧ Hid (LJ w W' X v) ∧ Hid (V.In W' u) :=
  hc.mono fun e W' ⟨h1, h2⟩ => ⟨h1, Lib.hid (h.out.next h2), Lib.hid (k.out.next h2)⟩
theorem lj2_check {w W : World} {X : Nat} {v u : V} {b : Bool} (hs : Hid (smB v = true)) (hb : Hid (mayC v.c = b)) (h : Hid (LJ w W X v)) (k : Hid (V.In W u)) : Calls Try.prog 11 #[v.val] W fun e W' => e = .returned (.bool b) ∧ Hid (LJ w W' X v) ∧ Hid (V.In W' u) := by
  have h2 := (smB_iff v).1 hs.out
  have := lj2_of h k (Check_conf v (by omega) (by omega) W h.out.inn); rw [hb.out] at this; exact this
/-- the group that 'of' answers -/
def vOf (v : V) (A : Option Addr) (cb : Nat) : V := ⟨A, cb, v.O, v.co, v.c⟩
def OfGot (w : World) (X : Nat) (v : V) (e : Ending) (W' : World) : Prop := ∃ A cb, e = .returned (.agg #[.slice A v.c.banks.length cb, .int .i64 v.c.floors, .int .i64 v.c.home, .slice v.O v.c.order.length v.co, .int .i64 v.c.speed, .int .i64 v.c.width, .int .i64 v.c.dwell, .int .i64 v.c.good, .int .i64 v.c.dead, .int .i64 v.c.lag, .int .i64 v.c.turn, .int .i64 v.c.cost, .int .i64 v.c.full]) ∧ Hid (LJ w W' X v) ∧ Hid (V.In W' (vOf v A cb))
theorem lj_ofc {w W : World} {X : Nat} {v : V} (hs : Hid (smB v = true)) (h : Hid (LJ w W X v)) : Calls Try.prog 13 #[v.val] W (OfGot w X v) := by
  have h2 := (smB_iff v).1 hs.out
  exact (of_conf v (by omega) W h.out.inn).mono fun e W' ⟨A, cb, h1, h3, h4⟩ => ⟨A, cb, h1, Lib.hid (h.out.next h4), Lib.hid h3⟩

end Go.Proofs.Ytkicijgempccfaa.Con
