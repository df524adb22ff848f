/- Walks of the laws of octet that call Put and Get alone. -/
import Derived.Test.YtlgondcdfoghpaaOctE
import Derived.OpenShut
namespace Go.Proofs.Ytlgondcdfoghpaa.Walk
open Go.RowKit Go.Proofs.Ytlgondcdfoghpaa.Plain Go.Proofs.Ytlgondcdfoghpaa.Sees Go.Proofs.Ytlgondcdfoghpaa.Oct
set_option linter.unusedVariables false

theorem Get_m (size q m c : Nat) (a : Option Addr) (bs : List Int) (w : World) (h1 : 1 ≤ size) (h8 : size ≤ 8) (hm : size * q = m) (hlen : bs.length = m) (hq : q ≤ 300) (hc : m ≤ c)
    (hsee : Sees w w.heap.size a (nums .u8 bs)) (hb : ∀ b ∈ bs, 0 ≤ b ∧ b ≤ 255) :
    Calls Try.prog 15 #[.int .i64 size, .slice a m c] w (NumsPost w q (grp q size bs)) := by
  subst hm
  exact Get_any size q c a bs w h1 h8 hlen (by omega) hc hsee hb

set_option maxHeartbeats 1600000 in
theorem octetSizes_walk (w : World) (a0 : Int) (a1 : Option Addr) (len1 cap1 : Nat) (z1 : List Int) (a2 : Option Addr) (len2 cap2 : Nat) (z2 : List Int) (w0 : (Lit.int .i64 a0).wf = true)
    (hl1 : z1.length = len1) (hc1 : len1 ≤ cap1) (hx1 : cap1 ≤ maxLen) (hs1 : Sees w w.heap.size a1 (nums .u64 z1)) (hw1 : ∀ n ∈ z1, (Lit.int .u64 n).wf = true)
    (hl2 : z2.length = len2) (hc2 : len2 ≤ cap2) (hx2 : cap2 ≤ maxLen) (hs2 : Sees w w.heap.size a2 (nums .u8 z2)) (hw2 : ∀ n ∈ z2, (Lit.int .u8 n).wf = true) :
    Calls Try.prog 9 #[.int .i64 a0, .slice a1 len1 cap1, .slice a2 len2 cap2] w fun e w' => e = .returned (.bool true) ∧ Below w.heap.size w w' := by
  unfold maxLen at hx1 hx2
  have hb0 := bounds_i64 w0
  have HL1 := Lib.hid hl1
  have HL2 := Lib.hid hl2
  have HW1 := Lib.hid hw1
  have HW2 := Lib.hid hw2
  clear hl1 hl2 hw1 hw2 w0
  by_cases hbig : 60 < len1 ∨ 300 < len2
  · have hbig2 : 60 < len1 ∨ ¬ 60 < len1 ∧ 300 < len2 := by omega
    rcases hbig2 with h | ⟨h, h2⟩
    all_goals
      go_enter Try.func9, Try.ntmps9
      go_wp2_with (go_at_call 12; refine (awake_any _).mono ?_; rintro e w1 ⟨rfl, hd1⟩)
      go_ret
      exact ⟨rfl, hd1⟩
  · have h1 : len1 ≤ 60 := by omega
    have h2 : len2 ≤ 300 := by omega
    clear hbig
    by_cases hno : a0 < 1 ∨ 8 < a0
    · rcases (show a0 < 1 ∨ ¬ a0 < 1 ∧ 8 < a0 by omega) with h | ⟨h, h'⟩
      all_goals
        go_enter Try.func9, Try.ntmps9
        go_wp2_with (first
          | (go_at_call 12; refine (awake_any _).mono ?_; rintro e w1 ⟨rfl, hd1⟩)
          | (go_at_call 14; refine (Put_no _ _ _ (by omega)).mono ?_; rintro e w2 ⟨rfl, rfl⟩)
          | (go_at_call 15; refine (Get_arg _ _ _ (by omega)).mono ?_; rintro e w3 ⟨rfl, rfl⟩))
        go_ret
        exact ⟨rfl, hd1⟩
    · obtain ⟨n, rfl⟩ := Int.eq_ofNat_of_zero_le (show 0 ≤ a0 by omega)
      have hn1 : 1 ≤ n := by omega
      have hn8 : n ≤ 8 := by omega
      have hsee2 : Sees w w.heap.size a2 (nums .u8 z2) := hs2
      have hmul : n * len1 ≤ 8 * 60 := Nat.mul_le_mul hn8 h1
      have hmi : (n : Int) * (len1 : Int) ≤ 480 := by
        have : ((n * len1 : Nat) : Int) ≤ 480 := by omega
        rwa [Int.natCast_mul] at this
      have hmi0 : 0 ≤ (n : Int) * (len1 : Int) := Int.mul_nonneg (by omega) (by omega)
      have hmeq : (((n * len1 : Nat) : Int) == (n : Int) * (len1 : Int)) = true := by simp
      have hx1' : ∀ x ∈ z1, 0 ≤ x ∧ x ≤ 18446744073709551615 := fun x hx => bounds_u64 (HW1.out x hx)
      have hx2' : ∀ x ∈ z2, 0 ≤ x ∧ x ≤ 255 := fun x hx => bounds_u8 (HW2.out x hx)
      by_cases hr : len2 % n = 0
      · obtain ⟨q, hq⟩ : ∃ q, len2 = n * q := ⟨len2 / n, by have := Nat.div_add_mod len2 n; omega⟩
        subst hq
        have hqle : q ≤ 300 := Nat.le_trans (Nat.le_mul_of_pos_left q (by omega)) h2
        have hqn : ((q : Int) * (n : Int)) ≤ 300 := by
          have : ((n * q : Nat) : Int) ≤ 300 := by omega
          rw [Int.natCast_mul] at this
          rw [Int.mul_comm]
          exact this
        have hqn0 : 0 ≤ (q : Int) * (n : Int) := Int.mul_nonneg (by omega) (by omega)
        have hle : (q : Int) * (n : Int) ≤ ((n * q : Nat) : Int) := by rw [Int.natCast_mul, Int.mul_comm]; omega
        clear hr
        generalize hm : n * q = m at *
        have hrem : ((m : Int) % (n : Int) == 0) = true := by rw [← hm]; simp
        have HM := Lib.hid hm
        have HQ := Lib.hid hqle
        clear hm hqle
        go_enter Try.func9, Try.ntmps9
        go_wp2_with (first
          | (go_at_call 12; refine (awake_any _).mono ?_; rintro e w1 ⟨rfl, hd1⟩)
          | (go_at_call 14; go_loud (refine (Put_any n len1 cap1 a1 z1 _ hn1 hn8 HL1.out (by omega) ((hs1.below hd1 (Nat.le_refl _)).more hd1.size) hx1').mono ?_); rintro e w2 ⟨v2, rfl, ho2, hd2⟩; obtain ⟨A2, C2, rfl, hC2, _, _⟩ := own_form ho2)
          | (go_at_call 15; go_loud (refine (Get_m n q m cap2 a2 z2 _ hn1 hn8 HM.out HL2.out HQ.out hc2 ((hs2.below (hd1.trans (hd2.mono hd1.size)) (Nat.le_refl _)).more (Nat.le_trans hd1.size hd2.size)) hx2').mono ?_); rintro e w3 ⟨v3, rfl, ho3, hd3⟩; obtain ⟨A3, C3, rfl, hC3, _, _⟩ := own_form ho3))
        go_ret
        exact ⟨rfl, (hd1.trans (hd2.mono hd1.size)).trans (hd3.mono (Nat.le_trans hd1.size hd2.size))⟩
      · have hrem : ((len2 : Int) % (n : Int) == 0) = false := by simp; omega
        have HR := Lib.hid hr
        clear hr
        go_enter Try.func9, Try.ntmps9
        go_wp2_with (first
          | (go_at_call 12; refine (awake_any _).mono ?_; rintro e w1 ⟨rfl, hd1⟩)
          | (go_at_call 14; go_loud (refine (Put_any n len1 cap1 a1 z1 _ hn1 hn8 HL1.out (by omega) ((hs1.below hd1 (Nat.le_refl _)).more hd1.size) hx1').mono ?_); rintro e w2 ⟨v2, rfl, ho2, hd2⟩; obtain ⟨A2, C2, rfl, hC2, _, _⟩ := own_form ho2)
          | (go_at_call 15; go_loud (refine (Get_short n len2 cap2 a2 _ hn1 hn8 (by unfold maxLen; omega) HR.out).mono ?_); rintro e w3 ⟨rfl, rfl⟩))
        go_ret
        exact ⟨rfl, hd1.trans (hd2.mono hd1.size)⟩

end Go.Proofs.Ytlgondcdfoghpaa.Walk
