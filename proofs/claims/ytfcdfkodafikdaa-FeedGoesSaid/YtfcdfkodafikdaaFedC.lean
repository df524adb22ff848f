/- Contracts of layer 10's reference for what is known, awake. -/
import Derived.Test.YtfcdfkodafikdaaFedT
import Derived.Test.YtfcdfkodafikdaaFedB
import Derived.Test.YtfcdfkodafikdaaSees
namespace Go.Proofs.Ytfcdfkodafikdaa.Fed
open Go.RowKit Go.Proofs.Ytfcdfkodafikdaa.FedP Go.Proofs.Ytfcdfkodafikdaa.Box Go.Proofs.Ytfcdfkodafikdaa.Held Go.Proofs.Ytfcdfkodafikdaa.Sees
set_option linter.unusedVariables false

/-- what is known of the first m of these -/
def kn (n m : Nat) (z : List Int) : Int := if m ≤ n then 0 else bo (z[m - 1 - n]?.getD 0) 0 1048576

set_option maxHeartbeats 1600000 in
theorem refKnown_any (lag : Int) (n : Nat) (hn : bo lag 0 8 = n) (z : List Int) (a : Option Addr) (m cap : Nat) (hm : m ≤ z.length) (h1 : m ≤ 1000) (w : World) (hs : Sees w w.heap.size a (nums .i64 z)) :
    Calls Try.prog 17 #[.int .i64 lag, .slice a m cap] w fun e w' => e = .returned (.int .i64 (kn n m z)) ∧ w = w' := by
  have hlag : (lag < 0 ∧ n = 0) ∨ (8 < lag ∧ n = 8) ∨ (¬ lag < 0 ∧ ¬ 8 < lag ∧ lag = n) := by unfold bo at hn; omega
  have hn8 : n ≤ 8 := by omega
  have e1 : IntKind.i64.wrap ((m : Int) - 1) = (m : Int) - 1 := IntWalk.i64_in _ (by omega)
  clear hn
  by_cases hk : m ≤ n
  · have e2 : IntKind.i64.wrap ((m : Int) - 1 - n) = (m : Int) - 1 - n := IntWalk.i64_in _ (by omega)
    have e3 : (m : Int) - 1 - n < 0 := by omega
    have ek : kn n m z = 0 := by unfold kn; rw [if_pos hk]
    rw [ek]
    clear ek hs hm
    rcases hlag with ⟨g1, rfl⟩ | ⟨g1, rfl⟩ | ⟨g1, g2, rfl⟩
    · simp only [Int.natCast_zero, Int.sub_zero] at e2 e3
      go_enter Try.func17, Try.ntmps17
      go_wp2
      go_ret
      exact ⟨rfl, rfl⟩
    · have g2 : ¬ lag < 0 := by omega
      go_enter Try.func17, Try.ntmps17
      go_wp2
      go_ret
      exact ⟨rfl, rfl⟩
    · go_enter Try.func17, Try.ntmps17
      go_wp2
      go_ret
      exact ⟨rfl, rfl⟩
  · have e2 : IntKind.i64.wrap ((m : Int) - 1 - n) = (m : Int) - 1 - n := IntWalk.i64_in _ (by omega)
    have e4 : ¬ (m : Int) - 1 - n < 0 := by omega
    have e5 : (m : Int) - 1 - n < m := by omega
    have hlt : m - 1 - n < z.length := by omega
    obtain ⟨b, o, rfl, hb, hc⟩ := hs.at_ (nums_at .i64 z (m - 1 - n) hlt)
    obtain ⟨v, hv⟩ : ∃ v, z[m - 1 - n]?.getD 0 = v := ⟨_, rfl⟩
    have ek : kn n m z = bo v 0 1048576 := by unfold kn; rw [if_neg hk, hv]
    rw [hv] at hc
    rw [ek]
    clear ek hs hm hv hlt hb hk
    by_cases v0 : v < 0
    · rw [show bo v 0 1048576 = 0 by unfold bo; omega]
      rcases hlag with ⟨g1, rfl⟩ | ⟨g1, rfl⟩ | ⟨g1, g2, rfl⟩
      · simp only [Int.natCast_zero, Int.sub_zero, Nat.sub_zero] at e2 e4 e5 hc
        go_enter Try.func17, Try.ntmps17
        go_wp2
        go_ret
        exact ⟨rfl, rfl⟩
      · have g2 : ¬ lag < 0 := by omega
        go_enter Try.func17, Try.ntmps17
        go_wp2
        go_ret
        exact ⟨rfl, rfl⟩
      · go_enter Try.func17, Try.ntmps17
        go_wp2
        go_ret
        exact ⟨rfl, rfl⟩
    · by_cases v1 : 1048576 < v
      · rw [show bo v 0 1048576 = 1048576 by unfold bo; omega]
        rcases hlag with ⟨g1, rfl⟩ | ⟨g1, rfl⟩ | ⟨g1, g2, rfl⟩
        · simp only [Int.natCast_zero, Int.sub_zero, Nat.sub_zero] at e2 e4 e5 hc
          go_enter Try.func17, Try.ntmps17
          go_wp2
          go_ret
          exact ⟨rfl, rfl⟩
        · have g2 : ¬ lag < 0 := by omega
          go_enter Try.func17, Try.ntmps17
          go_wp2
          go_ret
          exact ⟨rfl, rfl⟩
        · go_enter Try.func17, Try.ntmps17
          go_wp2
          go_ret
          exact ⟨rfl, rfl⟩
      · rw [show bo v 0 1048576 = v by unfold bo; omega]
        rcases hlag with ⟨g1, rfl⟩ | ⟨g1, rfl⟩ | ⟨g1, g2, rfl⟩
        · simp only [Int.natCast_zero, Int.sub_zero, Nat.sub_zero] at e2 e4 e5 hc
          go_enter Try.func17, Try.ntmps17
          go_wp2
          go_ret
          exact ⟨rfl, rfl⟩
        · have g2 : ¬ lag < 0 := by omega
          go_enter Try.func17, Try.ntmps17
          go_wp2
          go_ret
          exact ⟨rfl, rfl⟩
        · go_enter Try.func17, Try.ntmps17
          go_wp2
          go_ret
          exact ⟨rfl, rfl⟩

set_option maxRecDepth 100000 in
set_option maxHeartbeats 1600000 in
theorem awake_any (w : World) : Calls Try.prog 9 #[] w (Says w (.bool true)) := by
  have H1 : Hid (∀ W, Calls Try.prog 10 #[.agg #[.int .i64 1, .int .i64 0, .int .i64 0], .int .i64 2, .bool true, .int .i64 2] W (Says W (.agg #[.int .i64 0, .int .i64 2, .int .i64 2]))) := Lib.hid fun W => Step_any ⟨1, 0, 0⟩ (by decide) 2 true 2 W
  have H2 : Hid (∀ W, Calls Try.prog 10 #[.agg #[.int .i64 0, .int .i64 2, .int .i64 2], .int .i64 1, .bool false, .int .i64 9] W (Says W (.agg #[.int .i64 0, .int .i64 2, .int .i64 1]))) := Lib.hid fun W => Step_any ⟨0, 2, 2⟩ (by decide) 1 false 9 W
  have H3 : Hid (∀ W, Calls Try.prog 10 #[.agg #[.int .i64 0, .int .i64 2, .int .i64 1], .int .i64 2, .bool true, .int .i64 2] W (Says W (.agg #[.int .i64 2, .int .i64 0, .int .i64 0]))) := Lib.hid fun W => Step_any ⟨0, 2, 1⟩ (by decide) 2 true 2 W
  have H4 : Hid (∀ W, Calls Try.prog 15 #[.int .i64 1] W (Says W (.agg #[.int .i64 1, .int .i64 0, .int .i64 0, .int .i64 0, .int .i64 0, .int .i64 0, .int .i64 0, .int .i64 0, .int .i64 0]))) := Lib.hid fun W => New_any 1 1 (by decide) W
  have H5 : Hid (∀ W, Calls Try.prog 16 #[.agg #[.int .i64 1, .int .i64 0, .int .i64 0, .int .i64 0, .int .i64 0, .int .i64 0, .int .i64 0, .int .i64 0, .int .i64 0], .int .i64 7] W (Says W (.tuple #[.agg #[.int .i64 1, .int .i64 7, .int .i64 0, .int .i64 0, .int .i64 0, .int .i64 0, .int .i64 0, .int .i64 0, .int .i64 0], .int .i64 0]))) := Lib.hid fun W => Tell_any 1 (by decide) [] 7 W
  have H6 : Hid (∀ W, Calls Try.prog 16 #[.agg #[.int .i64 1, .int .i64 7, .int .i64 0, .int .i64 0, .int .i64 0, .int .i64 0, .int .i64 0, .int .i64 0, .int .i64 0], .int .i64 9] W (Says W (.tuple #[.agg #[.int .i64 1, .int .i64 9, .int .i64 0, .int .i64 0, .int .i64 0, .int .i64 0, .int .i64 0, .int .i64 0, .int .i64 0], .int .i64 7]))) := Lib.hid fun W => Tell_any 1 (by decide) [7] 9 W
  have H7 : Hid (∀ W, Calls Try.prog 13 #[.agg #[.int .i64 2, .int .i64 0, .int .i64 0], .bool false, .bool true] W (Says W (.int .i64 2))) := Lib.hid fun W => Power_any ⟨2, 0, 0⟩ false true W
  have hj0 := Lib.hid (J.one w #[.int .i64 1, .int .i64 0, .int .i64 0] 23)
  go_enter Try.func9, Try.ntmps9
  go_wp2_with (first
    | (go_at_call 10; (with_reducible refine (H1.out _).mono ?_); clear H1; rintro e w1 ⟨rfl, h1⟩; have hj1 := Lib.hid ((hj0.out.next h1).push #[.int .i64 0, .int .i64 2, .int .i64 2] 23); clear h1 hj0)
    | (go_at_call 10; (with_reducible refine (H2.out _).mono ?_); clear H2; rintro e w2 ⟨rfl, h2⟩; have hj2 := Lib.hid ((hj1.out.next h2).push #[.int .i64 0, .int .i64 2, .int .i64 1] 23); clear h2 hj1)
    | (go_at_call 10; (with_reducible refine (H3.out _).mono ?_); clear H3; rintro e w3 ⟨rfl, h3⟩; have hj3 := Lib.hid ((hj2.out.next h3).push #[.int .i64 2, .int .i64 0, .int .i64 0] 23); clear h3 hj2)
    | (go_at_call 15; (with_reducible refine (H4.out _).mono ?_); clear H4; rintro e w4 ⟨rfl, h4⟩; have hj4 := Lib.hid (hj3.out.next h4); clear h4 hj3)
    | (go_at_call 16; (with_reducible refine (H5.out _).mono ?_); clear H5; rintro e w5 ⟨rfl, h5⟩; have hj5 := Lib.hid ((hj4.out.next h5).push #[.int .i64 1, .int .i64 7, .int .i64 0, .int .i64 0, .int .i64 0, .int .i64 0, .int .i64 0, .int .i64 0, .int .i64 0] 37); clear h5 hj4)
    | (go_at_call 16; (with_reducible refine (H6.out _).mono ?_); clear H6; rintro e w6 ⟨rfl, h6⟩; have hj6 := Lib.hid ((hj5.out.next h6).push #[.int .i64 1, .int .i64 9, .int .i64 0, .int .i64 0, .int .i64 0, .int .i64 0, .int .i64 0, .int .i64 0, .int .i64 0] 37); clear h6 hj5; obtain ⟨a0, a1, a2⟩ := (hj6.out.bx 2 rfl).c3; obtain ⟨b0, b1, b2⟩ := (hj6.out.bx 3 rfl).c3; obtain ⟨c0, c1, c2⟩ := (hj6.out.bx 4 rfl).c3)
    | (go_at_call 13; (with_reducible refine (H7.out _).mono ?_); clear H7; rintro e w7 ⟨rfl, h7⟩; have hj7 := Lib.hid (hj6.out.next h7)))
  go_ret
  exact ⟨rfl, hj7.out.below⟩

end Go.Proofs.Ytfcdfkodafikdaa.Fed
