/- The contract of the reference's Num of layer 1. -/
import Derived.Test.YtgbgbodhpahceaaDoorStr
namespace Go.Proofs.YtgbgbodhpahceaaDoor.Oct
open Go.RowKit Go.Proofs.YtgbgbodhpahceaaDoor.Plain Go.Proofs.YtgbgbodhpahceaaDoor.Sees
set_option linter.unusedVariables false

def StrPost (w : World) (bs : List Int) (e : Ending) (w' : World) : Prop := e = .returned (.string (strOfNums bs)) ∧ Below w.heap.size w w'

theorem num_none (size : Int) (x : Int) (w : World) (h : size < 1 ∨ 8 < size) (hx0 : 0 ≤ x) (hx1 : x ≤ 18446744073709551615) : Calls Tryd.prog 37 #[.int .i64 size, .int .u64 x] w (StrPost w []) := by
  rcases (show ¬ 0 < size ∨ 0 < size ∧ ¬ size ≤ 8 by omega) with h | ⟨h, h'⟩
  all_goals
    go_enter Tryd.func37, Tryd.ntmps37
    go_wp2
    refine wp_loop_rounds 1 ?_
    repeat any_goals (rw [rounds_succ]; go_wp2)
    go_ret
    exact ⟨rfl, Below.refl _ _⟩

set_option maxHeartbeats 800000 in
theorem num_any (n : Nat) (x : Int) (w : World) (h8 : n ≤ 8) (hx0 : 0 ≤ x) (hx1 : x ≤ 18446744073709551615) : Calls Tryd.prog 37 #[.int .i64 n, .int .u64 x] w (StrPost w (lowB n x)) := by
  have kc := conv_one
  go_enter Tryd.func37, Tryd.ntmps37
  go_wp2
  go_loopw [1, 5, 6] (fun y s i wr => ∃ k : Nat, k ≤ n ∧ i = .int .i64 k ∧ s = .string (strOfNums (lowB k x)) ∧ y = .int .u64 (x / 256 ^ k) ∧ Below w.heap.size w wr)
    (fun _ _ i _ => n - (intOf i).toNat)
  case atStart => exact ⟨0, Nat.zero_le _, rfl, rfl, by simp, Below.refl _ _⟩
  case round =>
    obtain ⟨k, hk, rfl, rfl, rfl, hbel⟩ := hrel
    have hsz := hbel.size
    have hy0 : 0 ≤ x / 256 ^ k := Int.ediv_nonneg hx0 (Int.le_of_lt (Int.pow_pos (by decide)))
    have hy1 : x / 256 ^ k ≤ 18446744073709551615 := Int.le_trans (Int.ediv_le_self _ hx0) hx1
    have hyn : x / 256 ^ k / 256 = x / 256 ^ (k + 1) := by
      rw [Int.ediv_ediv_of_nonneg (Int.le_of_lt (Int.pow_pos (by decide))), Int.pow_succ]
    have hadd : ∀ W, (Op.stringOp .add (strOfNums (lowB k x)) (strOfNums [x / 256 ^ k % 256])).run Tryd.prog W = .ok (.string (strOfNums (lowB (k + 1) x))) W := fun W => by
      rw [run_str_add W _ _ (by rw [lowB_length]; simp; omega), lowB_snoc]
    have HY := Lib.hid hyn
    clear hyn
    generalize x / 256 ^ k = y at *
    by_cases hlt : k < n
    · go_wp2
      go_roundw
      case rel => exact ⟨k + 1, by omega, by go_num, rfl, by rw [← HY.out], hbel.alloc hsz _⟩
      case measure => simp [intOf]; omega
    · go_wp2
      go_ret
      obtain rfl : k = n := by omega
      exact ⟨rfl, hbel⟩

end Go.Proofs.YtgbgbodhpahceaaDoor.Oct
