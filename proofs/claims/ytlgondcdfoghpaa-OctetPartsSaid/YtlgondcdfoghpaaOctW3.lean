/- Walk of OctetParts. -/
import Derived.Test.YtlgondcdfoghpaaOctW2
namespace Go.Proofs.Ytlgondcdfoghpaa.Walk
open Go.RowKit Go.Proofs.Ytlgondcdfoghpaa.Plain Go.Proofs.Ytlgondcdfoghpaa.Sees Go.Proofs.Ytlgondcdfoghpaa.Oct
set_option linter.unusedVariables false

theorem lowB_add (n m : Nat) : ∀ x, lowB (n + m) x = lowB n x ++ lowB m (x / 256 ^ n) := by
  induction n with
  | zero => intro x; simp [lowB]
  | succ n ih =>
    intro x
    rw [Nat.succ_add, lowB, ih (x / 256), ediv_pow_succ, lowB]
    rfl

theorem Put_sum (n m g : Nat) (x : Int) (w : World) (h1 : 1 ≤ n) (h8 : n + m ≤ 8) (hg : g < w.heap.size) (hx : 0 ≤ x ∧ x ≤ 18446744073709551615) (hc : w.cell? ⟨g, 0, none⟩ = some (.int .u64 x)) :
    Calls Try.prog 14 #[.int .i64 ((n : Int) + (m : Int)), .slice (some ⟨g, 0, none⟩) 1 1] w (PutSees w (n + m) (lowB (n + m) x)) := by
  rw [← Int.natCast_add]
  exact Put_one (n + m) g x w (by omega) h8 hg hx hc

set_option maxHeartbeats 1600000 in
theorem octetParts_walk (w : World) (a0 a1 a2 : Int) (w0 : (Lit.int .u64 a0).wf = true) (w1 : (Lit.int .u8 a1).wf = true) (w2 : (Lit.int .u8 a2).wf = true) :
    Calls Try.prog 8 #[.int .u64 a0, .int .u8 a1, .int .u8 a2] w fun e w' => e = .returned (.bool true) ∧ Below w.heap.size w w' := by
  have hb0 := bounds_u64 w0
  have hb1 := bounds_u8 w1
  have hb2 := bounds_u8 w2
  clear w0 w1 w2
  obtain ⟨n, hn, hn1, hn4⟩ : ∃ n : Nat, a1 % 4 + 1 = (n : Int) ∧ 1 ≤ n ∧ n ≤ 4 := ⟨(a1 % 4 + 1).toNat, by omega, by omega, by omega⟩
  obtain ⟨m, hm, hm1, hm4⟩ : ∃ m : Nat, a2 % 4 + 1 = (m : Int) ∧ 1 ≤ m ∧ m ≤ 4 := ⟨(a2 % 4 + 1).toNat, by omega, by omega, by omega⟩
  have q1 : 0 ≤ a1 % 4 := by omega
  have q2 : a1 % 4 ≤ 3 := by omega
  have q3 : 0 ≤ a2 % 4 := by omega
  have q4 : a2 % 4 ≤ 3 := by omega
  have hz0 : 0 ≤ a0 / 2 ^ (8 * n) := Int.ediv_nonneg hb0.1 (Int.le_of_lt (Int.pow_pos (by decide)))
  have hz1 : a0 / 2 ^ (8 * n) ≤ 18446744073709551615 := Int.le_trans (Int.ediv_le_self _ hb0.1) hb0.2
  have hcat : lowB (n + m) a0 = lowB n a0 ++ lowB m (a0 / 2 ^ (8 * n)) := by rw [lowB_add, pow256]
  have hadd : ∀ W, (Op.stringOp .add (strOfNums (lowB n a0)) (strOfNums (lowB m (a0 / 2 ^ (8 * n))))).run Try.prog W = .ok (.string (strOfNums (lowB n a0 ++ lowB m (a0 / 2 ^ (8 * n))))) W := fun W =>
    run_str_add W _ _ (by rw [lowB_length, lowB_length]; omega)
  have HC := Lib.hid hcat
  clear hcat
  have hnm : ((n : Int) + (m : Int)) = ((n + m : Nat) : Int) := by simp
  have HNM := Lib.hid hnm
  clear hnm
  go_enter Try.func8, Try.ntmps8
  go_wp2_with (go_at_call 12; refine (awake_any _).mono ?_; rintro e w1 ⟨rfl, hd1⟩)
  go_wp2_with (go_at_call 14
               with_reducible refine (Put_sum n m _ a0 _ hn1 (by omega) (by simp) hb0 (by go_cell)).mono ?_
               rintro e w2 ⟨A2, C2, rfl, hC2, hs2, hd2⟩)
  have g2 : Below w.heap.size w w2 := (hd1.alloc hd1.size _).trans (hd2.mono (by have := hd1.size; simp; omega))
  go_wp2_with (go_at_call 14
               with_reducible refine (Put_one n _ a0 _ hn1 (by omega) (by simp) hb0 (by go_cell)).mono ?_
               rintro e w3 ⟨A3, C3, rfl, hC3, hs3, hd3⟩)
  have g3 : Below w2.heap.size w2 w3 := ((Below.refl _ _).alloc (Nat.le_refl _) _).trans (hd3.mono (by simp))
  have t2 := (hs2.below g3 (Nat.le_refl _)).more g3.size
  go_wp2_with (go_at_call 14
               with_reducible refine (Put_one m _ (a0 / 2 ^ (8 * n)) _ hm1 (by omega) (by simp) ⟨hz0, hz1⟩ (by go_cell)).mono ?_
               rintro e w4 ⟨A4, C4, rfl, hC4, hs4, hd4⟩
               have g4 : Below w3.heap.size w3 w4 := ((Below.refl _ _).alloc (Nat.le_refl _) _).trans (hd4.mono (by simp))
               have k2 := conv_sees (c := C2) (t2.below g4 (Nat.le_refl _)) (lowB_length (n + m) a0)
               have k3 := conv_sees (c := C3) (hs3.below g4 (Nat.le_refl _)) (lowB_length n a0)
               have k4 := conv_sees (c := C4) hs4 (lowB_length m _)
               rw [HC.out] at k2)
  go_ret
  exact ⟨rfl, (g2.trans (g3.mono g2.size)).trans (g4.mono (Nat.le_trans g2.size g3.size))⟩

end Go.Proofs.Ytlgondcdfoghpaa.Walk
