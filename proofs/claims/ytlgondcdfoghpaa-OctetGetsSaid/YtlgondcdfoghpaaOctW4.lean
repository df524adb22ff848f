/- Walk of OctetGets. -/
import Derived.Test.YtlgondcdfoghpaaOctG
import Derived.Test.YtlgondcdfoghpaaOctW1
namespace Go.Proofs.Ytlgondcdfoghpaa.Walk
open Go.RowKit Go.Proofs.Ytlgondcdfoghpaa.Plain Go.Proofs.Ytlgondcdfoghpaa.Sees Go.Proofs.Ytlgondcdfoghpaa.Oct
set_option linter.unusedVariables false

theorem rget_m (size q m : Nat) (bs : List Int) (w : World) (h1 : 1 ≤ size) (h8 : size ≤ 8) (hm : size * q = m) (hlen : bs.length = m) (hq : q ≤ 300) (hb : ∀ b ∈ bs, 0 ≤ b ∧ b ≤ 255) :
    Calls Try.prog 16 #[.int .i64 size, .string (strOfNums bs)] w (NumsPost w q (grp q size bs)) := by
  subst hm
  exact rget_any size q bs w h1 h8 hlen (by omega) hb

set_option maxHeartbeats 1600000 in
theorem octetGets_walk (w : World) (a0 : Int) (a1 : Option Addr) (len1 cap1 : Nat) (z1 : List Int) (w0 : (Lit.int .i64 a0).wf = true)
    (hl1 : z1.length = len1) (hc1 : len1 ≤ cap1) (hx1 : cap1 ≤ maxLen) (hs1 : Sees w w.heap.size a1 (nums .u8 z1)) (hw1 : ∀ n ∈ z1, (Lit.int .u8 n).wf = true) :
    Calls Try.prog 4 #[.int .i64 a0, .slice a1 len1 cap1] w fun e w' => e = .returned (.bool true) ∧ Below w.heap.size w w' := by
  unfold maxLen at hx1
  have hb0 := bounds_i64 w0
  have HL1 := Lib.hid hl1
  have hz : ∀ x ∈ z1, 0 ≤ x ∧ x ≤ 255 := fun x hx => bounds_u8 (hw1 x hx)
  clear hl1 hw1 w0
  have HZ := Lib.hid hz
  clear hz
  by_cases hbig : 300 < len1
  · go_enter Try.func4, Try.ntmps4
    go_wp2_with (go_at_call 12; refine (awake_any _).mono ?_; rintro e w1 ⟨rfl, hd1⟩)
    go_ret
    exact ⟨rfl, hd1⟩
  · have h300 : len1 ≤ 300 := by omega
    clear hbig
    by_cases hno : a0 < 1 ∨ 8 < a0
    · have HNO := Lib.hid hno
      clear hno
      go_enter Try.func4, Try.ntmps4
      go_wp2_with (first
        | (go_at_call 12; refine (awake_any _).mono ?_; rintro e w1 ⟨rfl, hd1⟩
           have kc := conv_sees (c := cap1) (hs1.below hd1 (Nat.le_refl _)) HL1.out)
        | (go_at_call 15; refine (Get_arg _ _ _ HNO.out).mono ?_; rintro e w2 ⟨rfl, rfl⟩)
        | (go_at_call 16; refine (rget_arg _ _ _ HNO.out).mono ?_; rintro e w3 ⟨rfl, rfl⟩))
      refine wp_loop_rounds 1 ?_
      repeat any_goals (rw [rounds_succ]; go_wp2)
      go_ret
      exact ⟨rfl, hd1⟩
    · obtain ⟨n, rfl⟩ := Int.eq_ofNat_of_zero_le (show 0 ≤ a0 by omega)
      have hn1 : 1 ≤ n := by omega
      have hn8 : n ≤ 8 := by omega
      by_cases hr : len1 % n = 0
      · obtain ⟨q, hq⟩ : ∃ q, n * q = len1 := ⟨len1 / n, by have := Nat.div_add_mod len1 n; omega⟩
        have hqle : q ≤ 300 := by
          have h := Nat.le_mul_of_pos_left q (show 0 < n by omega)
          omega
        have HQ := Lib.hid hq
        have HZL := Lib.hid (by rw [HL1.out] : z1.length = len1)
        clear hq hr hno
        go_enter Try.func4, Try.ntmps4
        go_wp2_with (first
          | (go_at_call 12; refine (awake_any _).mono ?_; rintro e w1 ⟨rfl, hd1⟩)
          | (go_at_call 15; go_loud (refine (Get_m n q len1 cap1 a1 z1 _ hn1 hn8 HQ.out HL1.out hqle hc1 ((hs1.below hd1 (Nat.le_refl _)).more hd1.size) HZ.out).mono ?_); rintro e w2 ⟨v2, rfl, ho2, hd2⟩; obtain ⟨A2, C2, rfl, hC2, hs2, _⟩ := own_form ho2
             have kc := conv_sees (c := cap1) ((hs1.below hd1 (Nat.le_refl _)).below hd2 hd1.size) HL1.out)
          | (go_at_call 16; go_loud (refine (rget_m n q len1 z1 _ hn1 hn8 HQ.out HL1.out hqle HZ.out).mono ?_); rintro e w3 ⟨v3, rfl, ho3, hd3⟩; obtain ⟨A3, C3, rfl, hC3, hs3, _⟩ := own_form ho3))
        have s2 : Sees w3 w3.heap.size A2 (nums .u64 (grp q n z1)) := (hs2.below hd3 (Nat.le_refl _)).more hd3.size
        have hd : Below w.heap.size w w3 := (hd1.trans (hd2.mono hd1.size)).trans (hd3.mono (Nat.le_trans hd1.size hd2.size))
        have hgl := grp_length q n z1
        generalize grp q n z1 = G at *
        have HGL := Lib.hid hgl
        clear hgl
        go_loopw [10] (fun i wr => ∃ k d : Nat, k ≤ q ∧ i = .int .i64 k ∧ wr = w3.drewN d) (fun i _ => q - (intOf i).toNat)
        case atStart => exact ⟨0, 0, Nat.zero_le _, rfl, rfl⟩
        case round =>
          obtain ⟨k, d, hk, rfl, rfl⟩ := hrel
          by_cases hlt : k < q
          · obtain ⟨b2, o2, rfl, _, hc2⟩ := s2.at_ (nums_at .u64 G k (by rw [HGL.out]; exact hlt))
            obtain ⟨b3, o3, rfl, _, hc3⟩ := hs3.at_ (nums_at .u64 G k (by rw [HGL.out]; exact hlt))
            generalize G[k]?.getD 0 = x at hc2 hc3
            go_wp2
            go_quiet (fail)
            go_wp2
            go_roundw
            case rel => exact ⟨k + 1, d + nq, by omega, by go_num, rfl⟩
            case measure => simp [intOf]; omega
          · go_wp2
            go_ret
            exact ⟨rfl, hd.trans ⟨rfl, rfl, rfl, Nat.le_refl _, fun _ _ => rfl⟩⟩
      · have HR := Lib.hid hr
        clear hr hno
        go_enter Try.func4, Try.ntmps4
        go_wp2_with (first
          | (go_at_call 12; refine (awake_any _).mono ?_; rintro e w1 ⟨rfl, hd1⟩
             have kc := conv_sees (c := cap1) (hs1.below hd1 (Nat.le_refl _)) HL1.out)
          | (go_at_call 15; refine (Get_short n len1 cap1 a1 _ hn1 hn8 (by unfold maxLen; omega) HR.out).mono ?_; rintro e w2 ⟨rfl, rfl⟩)
          | (go_at_call 16; refine (rget_short n z1 _ hn1 hn8 (by rw [HL1.out]; omega) (by rw [HL1.out]; exact HR.out)).mono ?_; rintro e w3 ⟨rfl, rfl⟩))
        refine wp_loop_rounds 1 ?_
        repeat any_goals (rw [rounds_succ]; go_wp2)
        go_ret
        exact ⟨rfl, hd1⟩

end Go.Proofs.Ytlgondcdfoghpaa.Walk
