/- Contracts of order's bits: whether a car has one. -/
import Derived.Test.YthgfjikhbgippaaDoorRows
import Derived.Test.YthgfjikhbgippaaDoorOrdP
import Derived.Lib.Hide
import Derived.ProofKit
import Derived.IntWalk
import Derived.Laws.BitsAllLaws
import Derived.Laws.ShiftsVarLaws
namespace Go.Proofs.YthgfjikhbgippaaDoor.Ord
open Go.RowKit Go.Proofs.YthgfjikhbgippaaDoor.OrdP
set_option linter.unusedVariables false

theorem bt_wrap {c : Int} (h : inb c = true) : IntKind.u64.wrap (2 ^ c.toNat) = ((bt c : Nat) : Int) := by
  have := bt_lt c
  rw [bt_in h] at this ⊢
  rw [show ((2 : Int) ^ c.toNat) = ((2 ^ c.toNat : Nat) : Int) by simp]
  generalize 2 ^ c.toNat = x at *
  exact IntWalk.u64_in _ (by omega)
theorem bit_any (c : Int) (w : World) : Calls Tryd.prog 38 #[.int .i64 c] w fun e w' => e = .returned (.int .u64 (bt c : Nat)) ∧ w = w' := by
  by_cases h0 : c < 0
  · rw [bt_out (inb_no.2 (by omega))]
    go_enter Tryd.func38, Tryd.ntmps38
    go_wp2
    go_ret
    exact ⟨rfl, rfl⟩
  · by_cases h1 : 64 ≤ c
    · rw [bt_out (inb_no.2 (by omega))]
      go_enter Tryd.func38, Tryd.ntmps38
      go_wp2
      go_ret
      exact ⟨rfl, rfl⟩
    · have hb := bt_wrap (inb_iff.2 (by omega) : inb c = true)
      generalize bt c = b at *
      go_enter Tryd.func38, Tryd.ntmps38
      go_wp2
      go_ret
      exact ⟨rfl, rfl⟩

theorem Has_any (b : Nat) (c : Int) (w : World) (hl : b < 18446744073709551616) : Calls Tryd.prog 27 #[.int .u64 b, .int .i64 c] w fun e w' => e = .returned (.bool (hb b c)) ∧ w = w' := by
  have HB := Lib.hid (fun W => bit_any c W)
  have h1 : bits .and .u64 b (bt c : Nat) = ((b &&& bt c : Nat) : Int) := u64_and_nat _ _ hl (bt_lt c)
  have h2 : ((((b &&& bt c : Nat) : Int)) != 0) = hb b c := by
    have h3 := and_bt b c
    cases hh : hb b c
    · rw [hh] at h3
      have h4 : b &&& bt c = 0 := of_decide_eq_true h3
      rw [h4]; rfl
    · rw [hh] at h3
      have h4 : ¬ b &&& bt c = 0 := of_decide_eq_false h3
      generalize b &&& bt c = x at *
      simp [h4]
  generalize bt c = d at *
  generalize b &&& d = x at *
  have H2 := Lib.hid h2
  clear h2
  go_enter Tryd.func27, Tryd.ntmps27
  go_wp2_with (go_at_call 38; refine (HB.out _).mono ?_; rintro e w' ⟨rfl, rfl⟩)
  go_ret
  exact ⟨congrArg (fun t => Ending.returned (.bool t)) H2.out, rfl⟩

end Go.Proofs.YthgfjikhbgippaaDoor.Ord
