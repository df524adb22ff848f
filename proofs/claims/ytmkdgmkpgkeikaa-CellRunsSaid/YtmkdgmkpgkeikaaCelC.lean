/- Contracts of layer 9's reference, awake. -/
import Derived.Test.YtmkdgmkpgkeikaaCelB
import Derived.Laws.StructEq
namespace Go.Proofs.Ytmkdgmkpgkeikaa.Cel
open Go.RowKit Go.Proofs.Ytmkdgmkpgkeikaa.CelP Go.Proofs.Ytmkdgmkpgkeikaa.SatP Go.Proofs.Ytmkdgmkpgkeikaa.Box Go.Proofs.Ytmkdgmkpgkeikaa.Held
set_option linter.unusedVariables false

theorem ret_pair {a x : Int} {b c : Bool} (h : a = x ∧ b = c) : Ending.returned (.tuple #[.int .i64 a, .bool b]) = .returned (.tuple #[.int .i64 x, .bool c]) := by rw [h.1, h.2]

theorem refSpend_any (h f n : Int) (h0 : 0 ≤ h) (h1 : h ≤ 1048576) (w : World) : Calls Try.prog 9 #[.int .i64 h, .int .i64 n] w (Says w (.tuple #[.int .i64 (sp ⟨h, f⟩ n).h, .bool (decide (am n ≤ h))])) := by
  obtain ⟨x, hx⟩ : ∃ x, (sp ⟨h, f⟩ n).h = x := ⟨_, rfl⟩
  obtain ⟨b, hb⟩ : ∃ b, decide (am n ≤ h) = b := ⟨_, rfl⟩
  rw [hx, hb]
  by_cases k : h < n
  · have H : Hid (h = x ∧ false = b) := Lib.hid (by
      have ha := am_id (n := n) (by omega)
      unfold sp at hx; simp only at hx; rw [if_neg (by omega)] at hx; refine ⟨hx, ?_⟩; rw [← hb]; symm; rw [decide_eq_false_iff_not]; omega)
    clear hx hb
    go_enter Try.func9, Try.ntmps9
    go_wp2
    go_ret2
    exact ⟨ret_pair H.out, Below.refl _ _⟩
  · by_cases k2 : n < 0
    · have H : Hid (h = x ∧ true = b) := Lib.hid (by
        have ha := am_no (n := n) (by omega)
        unfold sp at hx; simp only at hx; rw [if_pos (by omega)] at hx; simp only at hx; refine ⟨by omega, ?_⟩; rw [← hb]; symm; rw [decide_eq_true_eq]; omega)
      clear hx hb
      go_enter Try.func9, Try.ntmps9
      go_wp2
      go_ret2
      exact ⟨ret_pair H.out, Below.refl _ _⟩
    · have H : Hid (h - n = x ∧ true = b) := Lib.hid (by
        have ha := am_id (n := n) (by omega)
        unfold sp at hx; simp only at hx; rw [if_pos (by omega)] at hx; simp only at hx; refine ⟨by omega, ?_⟩; rw [← hb]; symm; rw [decide_eq_true_eq]; omega)
      have e1 : IntKind.i64.wrap (h - n) = h - n := IntWalk.i64_in _ (by omega)
      clear hx hb
      go_enter Try.func9, Try.ntmps9
      go_wp2
      go_ret2
      exact ⟨ret_pair H.out, Below.refl _ _⟩

theorem refFill_any (h f n : Int) (h0 : 0 ≤ h) (h1 : h ≤ f) (h2 : f ≤ 1048576) (w : World) : Calls Try.prog 11 #[.int .i64 h, .int .i64 f, .int .i64 n] w (Says w (.int .i64 (fi h f n))) := by
  obtain ⟨x, hx⟩ : ∃ x, fi h f n = x := ⟨_, rfl⟩
  rw [hx]
  unfold fi at hx
  have e1 : IntKind.i64.wrap (f - h) = f - h := IntWalk.i64_in _ (by omega)
  by_cases k : n ≤ 0
  · have H : Hid (h = x) := Lib.hid (by have ha := am_no k; omega)
    clear hx
    go_enter Try.func11, Try.ntmps11
    go_wp2
    go_ret
    exact ⟨ret_int H.out, Below.refl _ _⟩
  · have ha := am_id (n := n) (by omega)
    by_cases k2 : f - h < n
    · have H : Hid (f = x) := Lib.hid (by omega)
      clear hx ha
      go_enter Try.func11, Try.ntmps11
      go_wp2
      go_ret
      exact ⟨ret_int H.out, Below.refl _ _⟩
    · have H : Hid (h + n = x) := Lib.hid (by omega)
      have e2 : IntKind.i64.wrap (h + n) = h + n := IntWalk.i64_in _ (by omega)
      clear hx ha
      go_enter Try.func11, Try.ntmps11
      go_wp2
      go_ret
      exact ⟨ret_int H.out, Below.refl _ _⟩

/-- a call's result's first field -/
theorem fld0 (a b : Int) (W : World) : (Instr.field 25 (.agg #[.int .i64 a, .int .i64 b]) 0).run Try.prog W = .ok (.int .i64 a) W := by kernel_rfl

set_option maxHeartbeats 1600000 in
theorem awake_any (w : World) : Calls Try.prog 7 #[] w (Says w (.bool true)) := by
  have hm : K.May ⟨3, 5⟩ := ⟨by decide, by decide, by decide⟩
  have HS : Hid (∀ W, Calls Try.prog 8 #[.agg #[.int .i64 3, .int .i64 5], .int .i64 4] W (Says W (.tuple #[.agg #[.int .i64 3, .int .i64 5], .bool false]))) := Lib.hid fun W => Spend_any ⟨3, 5⟩ hm 4 W
  have HF : Hid (∀ W, Calls Try.prog 10 #[.agg #[.int .i64 3, .int .i64 5], .int .i64 4] W (Says W (.agg #[.int .i64 5, .int .i64 5]))) := Lib.hid fun W => Fill_any ⟨3, 5⟩ hm 4 W
  have HC3 : Hid (∀ W, Calls Try.prog 12 #[.agg #[.int .i64 3, .int .i64 5], .int .i64 3] W (Says W (.bool true))) := Lib.hid fun W => Can_any ⟨3, 5⟩ 3 W
  have HC4 : Hid (∀ W, Calls Try.prog 12 #[.agg #[.int .i64 3, .int .i64 5], .int .i64 4] W (Says W (.bool false))) := Lib.hid fun W => Can_any ⟨3, 5⟩ 4 W
  clear hm
  have hj0 := Lib.hid (J.one w #[.int .i64 3, .int .i64 5] 25)
  have hfd := fld0
  have e3 : ((3 : Int) == 3) = true := rfl
  have e5 : ((5 : Int) == 5) = true := rfl
  go_enter Try.func7, Try.ntmps7
  go_wp2_with (first
    | (go_at_call 8; (with_reducible refine (HS.out _).mono ?_); clear HS; rintro e w1 ⟨rfl, h1⟩; have hj1 := Lib.hid ((hj0.out.next h1).push #[.int .i64 3, .int .i64 5] 25); clear h1 hj0; obtain ⟨a0, a1⟩ := (hj1.out.bx 1 rfl).c2)
    | (go_at_call 10; (with_reducible refine (HF.out _).mono ?_); clear HF a0 a1; rintro e w2 ⟨rfl, h2⟩; have hj2 := Lib.hid (hj1.out.next h2); clear h2; obtain ⟨a0, a1⟩ := (hj2.out.bx 1 rfl).c2)
    | (go_at_call 12; (with_reducible refine (HC3.out _).mono ?_); clear HC3 a0 a1; rintro e w3 ⟨rfl, h3⟩; have hj3 := Lib.hid (hj2.out.next h3); clear h3; obtain ⟨a0, a1⟩ := (hj3.out.bx 1 rfl).c2)
    | (go_at_call 12; (with_reducible refine (HC4.out _).mono ?_); clear HC4; rintro e w4 ⟨rfl, h4⟩; have hj4 := Lib.hid (hj3.out.next h4)))
  go_ret
  exact ⟨rfl, hj4.out.below⟩

end Go.Proofs.Ytmkdgmkpgkeikaa.Cel
