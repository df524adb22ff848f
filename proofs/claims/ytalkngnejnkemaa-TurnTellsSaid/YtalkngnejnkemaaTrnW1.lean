/- The walk of TurnTells. -/
import Derived.Test.YtalkngnejnkemaaTrnE
import Derived.Test.YtalkngnejnkemaaTrnR
import Derived.Test.YtalkngnejnkemaaTrnO
import Derived.OpenShut
namespace Go.Proofs.Ytalkngnejnkemaa.Walk
open Go.RowKit Go.ChangeShapes Go.Proofs.Ytalkngnejnkemaa.Plain Go.Proofs.Ytalkngnejnkemaa.OrdP Go.Proofs.Ytalkngnejnkemaa.Ord Go.Proofs.Ytalkngnejnkemaa.TrnP Go.Proofs.Ytalkngnejnkemaa.Box Go.Proofs.Ytalkngnejnkemaa.Held Go.Proofs.Ytalkngnejnkemaa.Sees Go.Proofs.Ytalkngnejnkemaa.Open
set_option linter.unusedVariables false

set_option maxRecDepth 100000 in
set_option maxHeartbeats 6400000 in
theorem turnTells_walk (w : World) (t : Tn) (a : Ac) (p : Int) (wa : a.wf) (wp : (Lit.int .i64 p).wf = true) :
    Calls Try.prog 3 #[t.val, a.val, .int .i64 p] w fun e w' => e = .returned (.bool true) ∧ Below w.heap.size w w' := by
  obtain ⟨c, l⟩ := t
  obtain ⟨r', b, h, k⟩ := a
  have br := bounds_u64 wa.1
  simp only at br
  obtain ⟨r, rfl⟩ : ∃ r : Nat, r' = r := ⟨r'.toNat, by omega⟩
  have hr : r < 18446744073709551616 := by omega
  clear wa wp br
  unfold Tn.val Ac.val
  simp only
  have HA : Hid (∀ W, Calls Try.prog 7 #[] W (Says W (.bool true))) := Lib.hid fun W => Trn.awake_any W
  have hj := Lib.hid (J.two w #[.int .i64 c, .int .i64 l] #[.int .u64 r, .bool b, .bool h, .int .i64 k] 23 26)
  have ways : decide (63 < c) = true ∨ (decide (63 < c) = false ∧ decide (c < -1000) = true) ∨ (decide (63 < c) = false ∧ decide (c < -1000) = false ∧ decide (l < 0) = true) ∨
      (decide (63 < c) = false ∧ decide (c < -1000) = false ∧ decide (l < 0) = false ∧ decide (1000 < l) = true) ∨ (decide (63 < c) = false ∧ decide (c < -1000) = false ∧ decide (l < 0) = false ∧ decide (1000 < l) = false ∧ decide (200 < p) = true) ∨
      (decide (63 < c) = false ∧ decide (c < -1000) = false ∧ decide (l < 0) = false ∧ decide (1000 < l) = false ∧ decide (200 < p) = false ∧ Hid (c ≤ 63 ∧ -1000 ≤ c ∧ 0 ≤ l ∧ l ≤ 1000)) := by
    by_cases h0 : 63 < c
    · exact .inl (decide_eq_true h0)
    refine .inr ?_
    by_cases h1 : c < -1000
    · exact .inl ⟨decide_eq_false h0, decide_eq_true h1⟩
    refine .inr ?_
    by_cases h2 : l < 0
    · exact .inl ⟨decide_eq_false h0, decide_eq_false h1, decide_eq_true h2⟩
    refine .inr ?_
    by_cases h3 : 1000 < l
    · exact .inl ⟨decide_eq_false h0, decide_eq_false h1, decide_eq_false h2, decide_eq_true h3⟩
    refine .inr ?_
    by_cases h4 : 200 < p
    · exact .inl ⟨decide_eq_false h0, decide_eq_false h1, decide_eq_false h2, decide_eq_false h3, decide_eq_true h4⟩
    exact .inr ⟨decide_eq_false h0, decide_eq_false h1, decide_eq_false h2, decide_eq_false h3, decide_eq_false h4, Lib.hid ⟨by omega, by omega, by omega, by omega⟩⟩
  rcases ways with d0 | ⟨d0, d1⟩ | ⟨d0, d1, d2⟩ | ⟨d0, d1, d2, d3⟩ | ⟨d0, d1, d2, d3, d4⟩ | ⟨d0, d1, d2, d3, d4, hin⟩
  iterate 5
    · clear hr
      go_enter Try.func3, Try.ntmps3
      go_wp2_with (go_at_call 7; refine (HA.out _).mono ?_; rintro e w1 ⟨rfl, h1⟩; have hj1 := Lib.hid (hj.out.next h1); clear h1 hj; obtain ⟨a0, a1⟩ := (hj1.out.bx 1 rfl).c2)
      go_ret
      exact ⟨rfl, hj1.out.below⟩
  have H1 : Hid (∀ W, Calls Try.prog 8 #[.agg #[.int .i64 c, .int .i64 l], .int .u64 r, .bool b, .int .i64 p] W (Says W (.agg #[.int .i64 (st ⟨c, l⟩ r b p).c, .int .i64 (st ⟨c, l⟩ r b p).l]))) := Lib.hid fun W => Trn.Step_any ⟨c, l⟩ r b p hr (by have := hin.out; simp only; omega) W
  have H2 : Hid (∀ W, Calls Try.prog 9 #[.agg #[.int .i64 c, .int .i64 l], .int .u64 r, .bool b, .int .i64 p] W (Says W (.agg #[.int .i64 (st ⟨c, l⟩ r b p).c, .int .i64 (st ⟨c, l⟩ r b p).l]))) := Lib.hid fun W => by
    obtain ⟨q0, q1, q2, q3⟩ := hin.out
    exact Trn.ruStep_any ⟨c, l⟩ r b p hr q1 q0 q2 q3 W
  have H3 : Hid (∀ W, Calls Try.prog 10 #[.agg #[.int .i64 c, .int .i64 l], .int .i64 k, .int .u64 r, .bool b, .int .i64 p] W (Says W (.tuple #[.agg #[.int .i64 (pk ⟨c, l⟩ k r b p).c, .int .i64 (pk ⟨c, l⟩ k r b p).l], .bool (!b && hb r k)]))) := Lib.hid fun W => Trn.Pick_any ⟨c, l⟩ k r b p hr W
  have H4 : Hid (∀ W, Calls Try.prog 11 #[.agg #[.int .i64 c, .int .i64 l], .int .i64 k, .int .u64 r, .bool b, .int .i64 p] W (Says W (.tuple #[.agg #[.int .i64 (pk ⟨c, l⟩ k r b p).c, .int .i64 (pk ⟨c, l⟩ k r b p).l], .bool (!b && hb r k)]))) := Lib.hid fun W => Trn.ruPick_any ⟨c, l⟩ k r b p hr W
  generalize (st ⟨c, l⟩ r b p).c = uc at *
  generalize (st ⟨c, l⟩ r b p).l = ul at *
  generalize (pk ⟨c, l⟩ k r b p).c = vc at *
  generalize (pk ⟨c, l⟩ k r b p).l = vl at *
  generalize (!b && hb r k) = is at *
  clear hin hr
  go_enter Try.func3, Try.ntmps3
  go_wp2_with (first
    | (go_at_call 7; refine (HA.out _).mono ?_; rintro e w1 ⟨rfl, h1⟩; have hj1 := Lib.hid (hj.out.next h1); clear h1 hj; obtain ⟨a0, a1⟩ := (hj1.out.bx 1 rfl).c2; have hj2 := Lib.hid (hj1.out.push #[.int .i64 c, .int .i64 l] 28); obtain ⟨b0, b1⟩ := (hj2.out.bx 2 rfl).c2; obtain ⟨b2, b3, b4, b5⟩ := (hj2.out.bx 1 rfl).c4)
    | (go_at_call 8; refine (H1.out _).mono ?_; rintro e w2 ⟨rfl, h2⟩; have hj3 := Lib.hid ((hj2.out.next h2).push #[.int .i64 uc, .int .i64 ul] 23); clear h2 hj1 hj2 a0 a1 b0 b1 b2 b3 b4 b5; obtain ⟨a0, a1⟩ := (hj3.out.bx 1 rfl).c2; obtain ⟨b0, b1⟩ := (hj3.out.bx 3 rfl).c2; obtain ⟨b2, b3, b4, b5⟩ := (hj3.out.bx 2 rfl).c4)
    | (go_at_call 9; refine (H2.out _).mono ?_; rintro e w3 ⟨rfl, h3⟩; have hj4 := Lib.hid ((hj3.out.next h3).push #[.int .i64 uc, .int .i64 ul] 28); clear h3 hj3 a0 a1 b0 b1 b2 b3 b4 b5; obtain ⟨a0, a1⟩ := (hj4.out.bx 2 rfl).c2; obtain ⟨b0, b1⟩ := (hj4.out.bx 4 rfl).c2; obtain ⟨b2, b3, b4, b5⟩ := (hj4.out.bx 3 rfl).c4)
    | (go_at_call 10; refine (H3.out _).mono ?_; rintro e w4 ⟨rfl, h4⟩; have hj5 := Lib.hid ((hj4.out.next h4).push #[.int .i64 vc, .int .i64 vl] 23); clear h4 hj4 a0 a1 b0 b1 b2 b3 b4 b5; obtain ⟨a0, a1⟩ := (hj5.out.bx 3 rfl).c2; obtain ⟨b2, b3, b4, b5⟩ := (hj5.out.bx 4 rfl).c4)
    | (go_at_call 11; refine (H4.out _).mono ?_; rintro e w5 ⟨rfl, h5⟩; have hj6 := Lib.hid ((hj5.out.next h5).push #[.int .i64 vc, .int .i64 vl] 28); clear h5 hj5 a0 a1 b2 b3 b4 b5; obtain ⟨a0, a1⟩ := (hj6.out.bx 0 rfl).c2; obtain ⟨b0, b1⟩ := (hj6.out.bx 1 rfl).c2; obtain ⟨b2, b3⟩ := (hj6.out.bx 2 rfl).c2; obtain ⟨b4, b5⟩ := (hj6.out.bx 3 rfl).c2))
  go_ret
  exact ⟨rfl, hj6.out.below⟩
end Go.Proofs.Ytalkngnejnkemaa.Walk
