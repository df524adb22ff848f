/- The reference of layer 19: whether a car has a bit. -/
import Derived.Test.YthgfjikhbgippaaDoorOrdA00
import Derived.Test.YthgfjikhbgippaaDoorPlain
import Derived.Test.YthgfjikhbgippaaDoorSees
import Derived.LoopN
namespace Go.Proofs.YthgfjikhbgippaaDoor.Ord
open Go.RowKit Go.Proofs.YthgfjikhbgippaaDoor.Plain Go.Proofs.YthgfjikhbgippaaDoor.OrdP Go.Proofs.YthgfjikhbgippaaDoor.Sees
set_option linter.unusedVariables false

theorem half (b k : Nat) : b / 2 ^ k / 2 = b / 2 ^ (k + 1) := by rw [Nat.div_div_eq_div_mul, Nat.pow_succ]

theorem roHas_any (b : Nat) (c : Int) (w : World) (hl : b < 18446744073709551616) : Calls Tryd.prog 28 #[.int .u64 b, .int .i64 c] w fun e w' => e = .returned (.bool (hb b c)) ∧ w = w' := by
  by_cases h0 : c < 0
  · rw [hb_out (inb_no.2 (by omega))]
    go_enter Tryd.func28, Tryd.ntmps28
    go_wp2
    go_ret
    exact ⟨rfl, rfl⟩
  · by_cases h1 : 63 < c
    · rw [hb_out (inb_no.2 (by omega))]
      go_enter Tryd.func28, Tryd.ntmps28
      go_wp2
      go_ret
      exact ⟨rfl, rfl⟩
    · obtain ⟨m, rfl⟩ : ∃ m : Nat, c = m := ⟨c.toNat, by omega⟩
      have hend : Hid ((((b / 2 ^ m : Nat) : Int) % 2 == 1) = hb b m) := Lib.hid (by
        unfold hb
        rw [inb_iff.2 (by omega), Bool.true_and, Int.toNat_natCast, Nat.testBit_eq_decide_div_mod_eq]
        generalize b / 2 ^ m = x
        by_cases hx : x % 2 = 1
        · rw [decide_eq_true hx]; simp; omega
        · rw [decide_eq_false hx]; simp; omega)
      go_enter Tryd.func28, Tryd.ntmps28
      go_wp2
      go_loop [0, 5] (fun x i => ∃ k d : Nat, i = .int .i64 k ∧ k ≤ m ∧ x = .int .u64 d ∧ Hid (d = b / 2 ^ k)) (fun _ i => m - (intOf i).toNat)
      case atStart => exact ⟨0, b, rfl, Nat.zero_le _, rfl, Lib.hid (by simp)⟩
      case round =>
        obtain ⟨k, d, rfl, hk, rfl, hd⟩ := hrel
        by_cases hlt : k < m
        · have i1 : (k : Int) < (m : Int) := by omega
          have hdl : d < 18446744073709551616 := by have := hd.out; have h2 := Nat.div_le_self b (2 ^ k); omega
          have e1 : IntKind.u64.wrap ((d : Int) / 2) = ((d / 2 : Nat) : Int) := by rw [IntWalk.u64_in _ (by omega)]; omega
          go_wp2
          go_round
          case rel => exact ⟨k + 1, d / 2, rfl, by omega, congrArg _ (by omega), Lib.hid (by rw [hd.out, half])⟩
          case measure => simp [intOf]; omega
        · obtain rfl : k = m := by omega
          rw [← hd.out] at hend
          go_wp2
          go_ret
          exact ⟨congrArg (fun t => Ending.returned (.bool t)) hend.out, rfl⟩

end Go.Proofs.YthgfjikhbgippaaDoor.Ord
