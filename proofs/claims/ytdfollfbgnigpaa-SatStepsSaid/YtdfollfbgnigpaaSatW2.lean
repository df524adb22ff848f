/- The walks of SatSums, SatSteps. -/
import Derived.Test.YtdfollfbgnigpaaSatW1
namespace Go.Proofs.Ytdfollfbgnigpaa.Walk
open Go.RowKit Go.ChangeShapes Go.Proofs.Ytdfollfbgnigpaa.Sees Go.Proofs.Ytdfollfbgnigpaa.SatP Go.Proofs.Ytdfollfbgnigpaa.Sat Go.Proofs.Ytdfollfbgnigpaa.Plain
set_option linter.unusedVariables false

theorem add_sumV (l : List Int) (x : Int) : addV (sumV l) x = sumV (l ++ [x]) := by
  have := sumV_le l
  rw [sumV_snoc]; unfold addV; rw [bnd_id this.1 this.2]
theorem add_sumM (l : List Int) (x : Int) : (sumM l || addM (sumV l) x) = sumM (l ++ [x]) := by
  have := sumV_le l
  rw [sumM_snoc]; unfold addM; rw [bnd_id this.1 this.2, metB_id this.1 this.2]; simp [Bool.or_assoc]

set_option maxRecDepth 100000 in
set_option maxHeartbeats 1600000 in
theorem satSums_walk (w : World) (a0 : Option Addr) (len0 cap0 : Nat) (z0 : List Int)
    (hl0 : z0.length = len0) (hc0 : len0 ≤ cap0) (hx0 : cap0 ≤ maxLen) (hs0 : Sees w w.heap.size a0 (nums .i64 z0)) (hw0 : ∀ n ∈ z0, (Lit.int .i64 n).wf = true) :
    Calls Try.prog 4 #[.slice a0 len0 cap0] w fun e w' => e = .returned (.bool true) ∧ Below w.heap.size w w' := by
  unfold maxLen at hx0
  have HL0 := Lib.hid hl0
  clear hl0 hw0
  by_cases hbig : 200 < len0
  · go_enter Try.func4, Try.ntmps4
    go_wp2_with (go_at_call 9; refine (awake_any _).mono ?_; rintro e w1 ⟨rfl, hd1⟩)
    go_ret
    exact ⟨rfl, hd1⟩
  · have h1 : len0 ≤ 200 := by omega
    clear hbig
    go_enter Try.func4, Try.ntmps4
    go_wp2_with (go_at_call 9; refine (awake_any _).mono ?_; rintro e w1 ⟨rfl, hd1⟩)
    go_loop [4, 5, 6] (fun s m i => ∃ k : Nat, k ≤ len0 ∧ i = .int .i64 k ∧ s = .int .i64 (sumV (z0.take k)) ∧ m = .bool (sumM (z0.take k))) (fun _ _ i => len0 - (intOf i).toNat)
    case atStart => exact ⟨0, Nat.zero_le _, rfl, rfl, rfl⟩
    case round =>
      obtain ⟨k, hk, rfl, rfl, rfl⟩ := hrel
      by_cases hlt : k < len0
      · obtain ⟨b, o, rfl, hbB, hc⟩ := hs0.at_ (nums_at .i64 z0 k (by rw [HL0.out]; exact hlt))
        have hc' := (bcell hd1 b (o + k) hbB).trans hc
        have HT := Lib.hid (take_snoc z0 k (by rw [HL0.out]; exact hlt) 0)
        have HC := Lib.hid hc
        clear hc
        generalize z0[k]?.getD 0 = x at *
        have hV := add_sumV (z0.take k) x
        have hM := add_sumM (z0.take k) x
        rw [← HT.out] at hV hM
        generalize sumV (z0.take k) = s at *
        generalize sumM (z0.take k) = m at *
        have HA := radd_says s x rfl rfl
        generalize addV s x = v at *
        generalize addM s x = q at *
        have HV := Lib.hid hV
        have HM := Lib.hid hM
        clear hV hM
        cases m
        all_goals
          go_wp2_with (go_at_call 11; refine (HA.out _).mono ?_; rintro e w' ⟨rfl, rfl⟩)
          go_round
          case rel => exact ⟨k + 1, by omega, by go_num, by rw [HV.out], by rw [← HM.out]; simp⟩
          case measure => simp [intOf]; omega
      · obtain rfl : k = len0 := by omega
        have hT : z0.take k = z0 := List.take_of_length_le (by rw [HL0.out]; exact Nat.le_refl _)
        rw [hT]
        clear hT
        have hS : ∀ W, Below w.heap.size w W → Calls Try.prog 14 #[.slice a0 k cap0] W (Pair W (sumV z0) (sumM z0)) := fun W hW => Sum_any z0 a0 k cap0 W HL0.out (by unfold maxLen; omega) ((hs0.below hW (Nat.le_refl _)).more hW.size)
        generalize sumV z0 = s at *
        generalize sumM z0 = m at *
        have HS := Lib.hid hS
        clear hS
        have e1 : (m == m) = true := by simp
        go_wp2_with (go_at_call 14; refine (HS.out _ hd1).mono ?_; rintro e w2 ⟨rfl, hd2⟩)
        go_ret
        exact ⟨rfl, below3 hd1 hd2⟩

theorem info_i64 : (Try.prog.info? 2).map (fun i => (i.zero, i.size, i.bytes)) = some (some (.int .i64 0), 1, 8) := by kernel_rfl

set_option maxRecDepth 100000 in
set_option maxHeartbeats 1600000 in
theorem satSteps_walk (w : World) (a0 : Option Addr) (len0 cap0 : Nat) (z0 : List Int) (x : Int)
    (hl0 : z0.length = len0) (hc0 : len0 ≤ cap0) (hx0 : cap0 ≤ maxLen) (hs0 : Sees w w.heap.size a0 (nums .i64 z0)) (hw0 : ∀ n ∈ z0, (Lit.int .i64 n).wf = true) (hx : (Lit.int .i64 x).wf = true) :
    Calls Try.prog 7 #[.slice a0 len0 cap0, .int .i64 x] w fun e w' => e = .returned (.bool true) ∧ Below w.heap.size w w' := by
  unfold maxLen at hx0
  have HL0 := Lib.hid hl0
  clear hl0 hw0 hx
  by_cases hbig : 100 < len0
  · go_enter Try.func7, Try.ntmps7
    go_wp2_with (go_at_call 9; refine (awake_any _).mono ?_; rintro e w1 ⟨rfl, hd1⟩)
    go_ret
    exact ⟨rfl, hd1⟩
  · have h1 : len0 ≤ 100 := by omega
    clear hbig
    obtain ⟨i0, hi, hz0, hz1, hz2⟩ := info_parts info_i64
    have hS : ∀ W, Below w.heap.size w W → Calls Try.prog 14 #[.slice a0 len0 cap0] W (Pair W (sumV z0) (sumM z0)) := fun W hW => Sum_any z0 a0 len0 cap0 W HL0.out (by unfold maxLen; omega) ((hs0.below hW (Nat.le_refl _)).more hW.size)
    have hS2 : ∀ W A C, Sees W W.heap.size A (nums .i64 (z0 ++ [x])) → Calls Try.prog 14 #[.slice A (len0 + 1) C] W (Pair W (addV (sumV z0) x) (sumM z0 || addM (sumV z0) x)) := fun W A C hs => by
      rw [add_sumV, add_sumM]
      exact Sum_any (z0 ++ [x]) A (len0 + 1) C W (by rw [List.length_append, HL0.out]; simp) (by unfold maxLen; omega) hs
    generalize sumV z0 = s at *
    generalize sumM z0 = m at *
    have HA := add_says s x rfl rfl
    generalize addV s x = v at *
    generalize addM s x = q at *
    have HS := Lib.hid hS
    have HS2 := Lib.hid hS2
    clear hS hS2
    have e1 : ((m || q) == (m || q)) = true := by simp
    cases m
    all_goals
      go_enter Try.func7, Try.ntmps7
      go_wp2_with (first
        | (go_at_call 9; refine (awake_any _).mono ?_; rintro e w1 ⟨rfl, hd1⟩)
        | (at_builtin
           refine wpList_append_sees _ rfl (.tmp 19) (.tmp 20) 26 rfl w1.heap.size 2 i0 (.int .i64 0) 8 Try.underlying26 hi hz0 hz1 hz2 rfl (.slice none 0 0) 0 [] rfl ⟨by simp, .inl ⟨rfl, rfl⟩⟩ w.heap.size a0 len0 cap0 (nums .i64 z0) rfl (by rw [nums_length]; exact HL0.out) (hs0.below hd1 (Nat.le_refl _)) (nums_one .i64 z0) (by unfold maxLen; omega) (by omega) (Nat.le_refl _) ?_
           intro v2 w2 hown2 hg2
           have hb2 : Below w1.heap.size w1 w2 := hg2.below (Nat.le_refl _) (fun g hg => by cases hg))
        | (at_builtin
           refine wpList_append_own_at _ rfl (.tmp 22) (.tmp 24) 26 rfl w1.heap.size 2 i0 (.int .i64 0) 1 8 Try.underlying26 hi hz0 hz1 hz2 rfl (by omega) v2 (0 + len0) _ rfl (hown2.alloc _) ⟨w2.heap.size, 0, none⟩ 1 1 [.int .i64 x] rfl rfl (new_cell _ _ _) (one_cell _ _) (by unfold maxLen; omega) (by omega) (by have := hb2.size; simp; omega) ?_
           intro v3 w3 hown3 hg3 _ hat3
           have hb3 : Below w1.heap.size w1 w3 := (hb2.alloc hb2.size _).grown hg3 (by have := hb2.size; simp; omega) (fun g hg => (hown2.lt g hg).1)
           obtain ⟨A3, C3, rfl, hC3, hs3, hlt3⟩ := own_form hown3
           have HQ3 : Hid (Sees w3 w3.heap.size A3 (nums .i64 (z0 ++ [x]))) := Lib.hid (by simpa [nums] using hs3)
           clear hs3)
        | (go_at_call 14; (with_reducible refine (HS.out _ (hd1.trans (hb3.mono hd1.size))).mono ?_); rintro e w4 ⟨rfl, hd4⟩)
        | (go_at_call 10; refine (HA.out _).mono ?_; rintro e w5 ⟨rfl, hd5⟩)
        | (go_at_call 14; refine (HS2.out _ A3 C3 ((HQ3.out.below (below3 hd4 hd5) (Nat.le_refl _)).more (below3 hd4 hd5).size)).mono ?_; rintro e w6 ⟨rfl, hd6⟩))
      go_ret
      exact ⟨rfl, (hd1.trans (hb3.mono hd1.size)).trans ((below3 hd4 (below3 hd5 hd6)).mono (Nat.le_trans hd1.size hb3.size))⟩

end Go.Proofs.Ytdfollfbgnigpaa.Walk
