/- Contracts of the document's own answers: how heavy, Draw, Gives. -/
import Derived.Test.YtkicijgempccfaaRatA
namespace Go.Proofs.Ytkicijgempccfaa.Rat
open Go.RowKit Go.Proofs.Ytkicijgempccfaa.RatP
set_option linter.unusedVariables false

theorem bcellF {W w1 : World} (hb : Below W.heap.size W w1) : (∀ b o, b < W.heap.size → w1.cell? ⟨b, o, none⟩ = W.cell? ⟨b, o, none⟩) ∧ (∀ b o, b < W.heap.size → w1.frozen? ⟨b, o, none⟩ = W.frozen? ⟨b, o, none⟩) :=
  ⟨fun b o h => hb.cell (p := ⟨b, o, none⟩) h, fun b o h => hb.frozen (p := ⟨b, o, none⟩) h⟩
theorem says_box {w : World} {o : Obj} : Below w.heap.size w (w.alloc o) := (Below.refl _ _).alloc (Nat.le_refl _) o
theorem says_more {w w' : World} {o : Obj} (h : Below (w.alloc o).heap.size (w.alloc o) w') : Below w.heap.size w w' := says_box.trans (h.mono (by simp))

set_option maxHeartbeats 1600000 in
theorem refHeavy_any (r : R) (hr : r.May) (l d : Int) (w : World) : Calls Try.prog 78 #[val r, .int .i64 l, .int .i64 d] w (Says w (.int .i64 (hv r l d))) := by
  have w0 := hr.w0
  have w1 := hr.w1
  clear hr
  unfold val
  rcases hv_cases r l d with ⟨hd, e⟩ | ⟨hd, e⟩ | ⟨hd, e⟩
  case' inr.inr => subst hd
  case' inl => have hd2 : ¬ d < 0 := by omega
  case' inr.inl => have hd2 : ¬ 0 < d := by omega
  all_goals
    rcases (show (l < 0 ∧ bd l = 0) ∨ (64 < l ∧ bd l = 64) ∨ (0 ≤ l ∧ l ≤ 64 ∧ bd l = l) by unfold bd; split <;> (try split) <;> omega) with ⟨hl, e2⟩ | ⟨hl, e2⟩ | ⟨hl, hl2, e2⟩
    all_goals
      have E := Lib.hid e
      have E2 := Lib.hid e2
      clear e e2
      go_enter Try.func78, Try.ntmps78
      go_wp2
      go_ret
      exact ⟨ret_int (by have := E.out; have := E2.out; omega), says_box⟩

set_option maxHeartbeats 1600000 in
theorem refDraw_any (r : R) (hr : r.May) (what l d : Int) (w : World) : Calls Try.prog 68 #[val r, .int .i64 what, .int .i64 l, .int .i64 d] w (Says w (.int .i64 (dr r what l d))) := by
  by_cases h4 : what = 4
  · subst h4
    have E := Lib.hid (dr_4 r l d)
    unfold val
    go_enter Try.func68, Try.ntmps68
    go_wp2
    go_ret
    exact ⟨by rw [E.out]; rfl, says_box⟩
  have t4 : (what == 4) = false := by simpa using h4
  by_cases ho : what < 1 ∨ 3 < what
  · have E := Lib.hid (dr_else r l d h4 (by omega) (by omega) (by omega))
    unfold val
    rcases ho with ho | ho
    case' inr => have ho2 : ¬ what < 1 := by omega
    all_goals
      clear h4
      go_enter Try.func68, Try.ntmps68
      go_wp2
      go_ret
      exact ⟨by rw [E.out]; rfl, says_box⟩
  have a1 : 1 ≤ what := by omega
  have a3 : what ≤ 3 := by omega
  clear ho
  by_cases hd : d = 0
  · subst hd
    have E := Lib.hid (dr_still r l h4)
    clear h4
    unfold val
    go_enter Try.func68, Try.ntmps68
    go_wp2
    go_ret
    exact ⟨by rw [E.out]; rfl, says_box⟩
  have td : (d == 0) = false := by simpa using hd
  have HM := Lib.hid (fun W => refHeavy_any r hr l d W)
  have i0 := hr.i0
  have i1 := hr.i1
  have m0 := hr.m0
  have m1 := hr.m1
  have g0 := hr.g0
  have g1 := hr.g1
  have hb := pl_ge hr (hv r l d)
  have hb2 := pl_le hr (hv_bds hr l d).2
  have hmv : mv r l d = r.idle + r.move + pl r (hv r l d) := rfl
  have key : (what = 1 ∧ dr r what l d = mv r l d + r.gain) ∨ ((what == 1) = false ∧ dr r what l d = mv r l d) := by
    rcases (show what = 1 ∨ what = 2 ∨ what = 3 by omega) with rfl | rfl | rfl
    · exact .inl ⟨rfl, dr_1 r l hd⟩
    · exact .inr ⟨rfl, dr_2 r l hd⟩
    · exact .inr ⟨rfl, dr_3 r l hd⟩
  clear hd
  by_cases hp : 0 < hv r l d
  · have e1 : pl r (hv r l d) = r.pull * hv r l d := pl_pos (by omega)
    rw [e1] at hb hb2 hmv
    clear e1 hr
    unfold val at HM ⊢
    generalize hv r l d = h at *
    have hw : IntKind.i64.wrap (r.pull * h) = r.pull * h := IntWalk.i64_in _ (by omega)
    have hw2 : IntKind.i64.wrap (r.idle + r.move + r.pull * h) = mv r l d := by rw [IntWalk.i64_in _ (by omega)]; exact hmv.symm
    have hw3 : IntKind.i64.wrap (mv r l d + r.gain) = mv r l d + r.gain := IntWalk.i64_in _ (by omega)
    have HW := Lib.hid hw
    have HW2 := Lib.hid hw2
    have HW3 := Lib.hid hw3
    clear hw hw2 hw3 hb hb2 hmv
    generalize mv r l d = m at *
    rcases key with ⟨rfl, e⟩ | ⟨tw, e⟩
    all_goals
      have E := Lib.hid e
      clear e
      go_enter Try.func68, Try.ntmps68
      go_wp2_with (go_at_call 78; refine (HM.out _).mono ?_; rintro e w' ⟨rfl, hb⟩; obtain ⟨hc, hf⟩ := bcellF hb)
      go_ret
      exact ⟨ret_int (by simp only [← IntWalk.i64_left, HW.out, HW2.out, HW3.out, E.out]), says_more hb⟩
  · have e1 : pl r (hv r l d) = 0 := pl_zero (by omega)
    rw [e1] at hmv
    clear e1 hr hb hb2
    unfold val at HM ⊢
    rcases key with ⟨rfl, e⟩ | ⟨tw, e⟩
    all_goals
      rw [hmv] at e
      have E := Lib.hid e
      clear e hmv
      go_enter Try.func68, Try.ntmps68
      go_wp2_with (go_at_call 78; refine (HM.out _).mono ?_; rintro e w' ⟨rfl, hb⟩; obtain ⟨hc, hf⟩ := bcellF hb)
      go_ret
      exact ⟨ret_int (by have := E.out; omega), says_more hb⟩

end Go.Proofs.Ytkicijgempccfaa.Rat
