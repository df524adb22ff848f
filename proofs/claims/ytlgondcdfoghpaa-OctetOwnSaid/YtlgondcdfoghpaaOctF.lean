/- Contracts of the reference of layer 1: Num and Row. -/
import Derived.Test.YtlgondcdfoghpaaOctE
namespace Go.Proofs.Ytlgondcdfoghpaa.Oct
open Go.RowKit Go.Proofs.Ytlgondcdfoghpaa.Plain Go.Proofs.Ytlgondcdfoghpaa.Sees
set_option linter.unusedVariables false

theorem str_append (a b : List Int) : strOfNums a ++ strOfNums b = strOfNums (a ++ b) := by
  unfold strOfNums
  rw [ByteArray.mk_append_mk, List.map_append]
theorem run_str_add (w : World) (a b : List Int) (h : a.length + b.length ≤ 1000000000) : (Op.stringOp .add (strOfNums a) (strOfNums b)).run Try.prog w = .ok (.string (strOfNums (a ++ b))) w := by
  rw [run_string_add_sum w _ _ (by rw [strOfNums_size, strOfNums_size]; omega), str_append]
theorem str_nil : strOfNums [] = ⟨#[]⟩ := rfl
theorem conv_one (W : World) (z : Int) : (convert 26 9 (.slice (some ⟨W.heap.size, 0, none⟩) 1 1)).run Try.prog (W.alloc (.cells #[.int .u8 z] 5)) = .ok (.string (strOfNums [z])) (W.alloc (.cells #[.int .u8 z] 5)) :=
  conv_sees (bs := [z]) (sees_new W .u8 5 [z]) rfl
theorem conv_two (W : World) (y z : Int) : (convert 26 9 (.slice (some ⟨W.heap.size, 0, none⟩) 2 2)).run Try.prog (W.alloc (.cells #[.int .u8 y, .int .u8 z] 5)) = .ok (.string (strOfNums [y, z])) (W.alloc (.cells #[.int .u8 y, .int .u8 z] 5)) :=
  conv_sees (bs := [y, z]) (sees_new W .u8 5 [y, z]) rfl

def StrPost (w : World) (bs : List Int) (e : Ending) (w' : World) : Prop := e = .returned (.string (strOfNums bs)) ∧ Below w.heap.size w w'

theorem num_none (size : Int) (x : Int) (w : World) (h : size < 1 ∨ 8 < size) (hx0 : 0 ≤ x) (hx1 : x ≤ 18446744073709551615) : Calls Try.prog 13 #[.int .i64 size, .int .u64 x] w (StrPost w []) := by
  rcases (show ¬ 0 < size ∨ 0 < size ∧ ¬ size ≤ 8 by omega) with h | ⟨h, h'⟩
  all_goals
    go_enter Try.func13, Try.ntmps13
    go_wp2
    refine wp_loop_rounds 1 ?_
    repeat any_goals (rw [rounds_succ]; go_wp2)
    go_ret
    exact ⟨rfl, Below.refl _ _⟩

set_option maxHeartbeats 800000 in
theorem num_any (n : Nat) (x : Int) (w : World) (h8 : n ≤ 8) (hx0 : 0 ≤ x) (hx1 : x ≤ 18446744073709551615) : Calls Try.prog 13 #[.int .i64 n, .int .u64 x] w (StrPost w (lowB n x)) := by
  have kc := conv_one
  go_enter Try.func13, Try.ntmps13
  go_wp2
  go_loopw [1, 5, 6] (fun y s i wr => ∃ k : Nat, k ≤ n ∧ i = .int .i64 k ∧ s = .string (strOfNums (lowB k x)) ∧ y = .int .u64 (x / 256 ^ k) ∧ Below w.heap.size w wr)
    (fun _ _ i _ => n - (intOf i).toNat)
  case atStart => exact ⟨0, Nat.zero_le _, rfl, rfl, by simp, Below.refl _ _⟩
  case round =>
    obtain ⟨k, hk, rfl, rfl, rfl, hbel⟩ := hrel
    have hsz := hbel.size
    have hy0 : 0 ≤ x / 256 ^ k := Int.ediv_nonneg hx0 (Int.le_of_lt (Int.pow_pos (by decide)))
    have hy1 : x / 256 ^ k ≤ 18446744073709551615 := Int.le_trans (Int.ediv_le_self _ hx0) hx1
    have hyn : x / 256 ^ k / 256 = x / 256 ^ (k + 1) := by
      rw [Int.ediv_ediv_of_nonneg (Int.le_of_lt (Int.pow_pos (by decide))), Int.pow_succ]
    have hadd : ∀ W, (Op.stringOp .add (strOfNums (lowB k x)) (strOfNums [x / 256 ^ k % 256])).run Try.prog W = .ok (.string (strOfNums (lowB (k + 1) x))) W := fun W => by
      rw [run_str_add W _ _ (by rw [lowB_length]; simp; omega), lowB_snoc]
    have HY := Lib.hid hyn
    clear hyn
    generalize x / 256 ^ k = y at *
    by_cases hlt : k < n
    · go_wp2
      go_roundw
      case rel => exact ⟨k + 1, by omega, by go_num, rfl, by rw [← HY.out], hbel.alloc hsz _⟩
      case measure => simp [intOf]; omega
    · go_wp2
      go_ret
      obtain rfl : k = n := by omega
      exact ⟨rfl, hbel⟩

theorem row_any (bs : List Int) (w : World) (h : bs.length ≤ 65535) : Calls Try.prog 17 #[.string (strOfNums bs)] w (StrPost w (lowB 2 bs.length ++ bs)) := by
  have kc := conv_two
  have hsz : (strOfNums bs).size = bs.length := strOfNums_size bs
  have hadd : ∀ W, (Op.stringOp .add (strOfNums [(bs.length : Int) % 256, (bs.length : Int) / 256]) (strOfNums bs)).run Try.prog W = .ok (.string (strOfNums ([(bs.length : Int) % 256, (bs.length : Int) / 256] ++ bs))) W := fun W =>
    run_str_add W _ _ (by simp; omega)
  have hlow : lowB 2 bs.length = [(bs.length : Int) % 256, (bs.length : Int) / 256] := by
    simp only [lowB]
    rw [Int.emod_eq_of_lt (by omega) (by omega : (bs.length : Int) / 256 < 256)]
  rw [hlow]
  clear hlow
  generalize hL : bs.length = L at *
  have HL := Lib.hid hL
  clear hL
  go_enter Try.func17, Try.ntmps17
  go_wp2
  go_ret
  exact ⟨rfl, (Below.refl _ _).alloc (Nat.le_refl _) _⟩

end Go.Proofs.Ytlgondcdfoghpaa.Oct
