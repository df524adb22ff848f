/- Shifts and masks of rows, as the walk meets them. -/
import Derived.Test.YtojioadonbiiaaaCalK
import Derived.Test.YtojioadonbiiaaaCalT
namespace Go.Proofs.Ytojioadonbiiaaa.Cal
open Go.RowKit Go.Proofs.Ytojioadonbiiaaa.CalP
set_option linter.unusedVariables false

theorem bits_one {x f : Nat} (hx : x < 4294967296) (hf : f < 32) : bits .and .u32 ((x : Int) / 2 ^ f) 1 = if hb x f = true then 1 else 0 := by
  have e : ((x : Int) / 2 ^ f) = ((x / 2 ^ f : Nat) : Int) := by simp
  have hlt : x / 2 ^ f < 4294967296 := Nat.lt_of_le_of_lt (Nat.div_le_self _ _) hx
  have h1 := u32_and_nat (x / 2 ^ f) 1 hlt (by decide)
  rw [e, show (1 : Int) = ((1 : Nat) : Int) from rfl, h1, Nat.and_one_is_mod, bit_div hf]
  split <;> rfl
theorem bits_yes {x f : Nat} (hx : x < 4294967296) (hf : f < 32) (h : hb x f = true) : bits .and .u32 ((x : Int) / 2 ^ f) 1 = 1 := by rw [bits_one hx hf, if_pos h]
theorem bits_no {x f : Nat} (hx : x < 4294967296) (hf : f < 32) (h : hb x f = false) : bits .and .u32 ((x : Int) / 2 ^ f) 1 = 0 := by rw [bits_one hx hf, if_neg (by rw [h]; decide)]
theorem run_wy (f p : Int) : ∀ W, (Builtin.max_ #[3, 3] 3 #[.int .i64 (8 * f - p), .int .i64 (p - 8 * f)]).run Try.prog W = .ok (.int .i64 (wy f p)) W := fun W => by
  rw [run_max_int2]; unfold wy; congr 2; split <;> omega
end Go.Proofs.Ytojioadonbiiaaa.Cal
