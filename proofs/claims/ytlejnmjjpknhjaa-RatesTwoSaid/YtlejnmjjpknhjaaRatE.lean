/- Contracts of the document's own answers: Gives, Peak, Most; and of the law's 'of'. -/
import Derived.Test.YtlejnmjjpknhjaaRatD
namespace Go.Proofs.Ytlejnmjjpknhjaa.Rat
open Go.RowKit Go.Proofs.Ytlejnmjjpknhjaa.RatP
set_option linter.unusedVariables false

set_option maxHeartbeats 1600000 in
theorem refGives_any (r : R) (hr : r.May) (what l d : Int) (w : World) : Calls Try.prog 21 #[val r, .int .i64 what, .int .i64 l, .int .i64 d] w (Says w (.int .i64 (gv r what l d))) := by
  have HM := Lib.hid (fun W => refHeavy_any r hr l d W)
  have hv0 := hv_bds hr l d
  have hb := pl_ge hr (-hv r l d)
  have hb2 := pl_le hr (x := -hv r l d) (by omega)
  unfold val at HM ⊢
  by_cases ho : what = 2 ∨ what = 3
  · by_cases hp : 0 < hv r l d
    · have e : gv r what l d = 0 := by unfold gv; rw [if_pos ho, pl_zero (by omega)]
      have E := Lib.hid e
      clear e hr hb hb2
      generalize hv r l d = h at *
      rcases ho with rfl | rfl
      all_goals
        go_enter Try.func21, Try.ntmps21
        go_wp2_with (go_at_call 31; refine (HM.out _).mono ?_; rintro e w' ⟨rfl, hb⟩; obtain ⟨hc, hf⟩ := bcellF hb)
        go_ret
        exact ⟨ret_int (by have := E.out; omega), says_more hb⟩
    · have e1 : pl r (-hv r l d) = r.pull * -hv r l d := pl_pos (by omega)
      have e : IntKind.i64.wrap (-hv r l d * r.pull) = gv r what l d := by
        rw [IntWalk.i64_in _ (by rw [Int.mul_comm]; omega), Int.mul_comm, ← e1]; unfold gv; rw [if_pos ho]
      have E := Lib.hid e
      clear e e1 hr hb hb2
      generalize hv r l d = h at *
      rcases ho with rfl | rfl
      all_goals
        go_enter Try.func21, Try.ntmps21
        go_wp2_with (go_at_call 31; refine (HM.out _).mono ?_; rintro e w' ⟨rfl, hb⟩; obtain ⟨hc, hf⟩ := bcellF hb)
        go_ret
        exact ⟨ret_int (by rw [← E.out]; simp only [← IntWalk.i64_left]), says_more hb⟩
  · have h2 : ¬ what = 2 := by omega
    have h3 : ¬ what = 3 := by omega
    have t2 : (what != 2) = true := by simpa using h2
    have t3 : (what != 3) = true := by simpa using h3
    have e : gv r what l d = 0 := by unfold gv; rw [if_neg ho]
    have E := Lib.hid e
    clear e hr hb hb2 ho h2 h3
    generalize hv r l d = h at *
    go_enter Try.func21, Try.ntmps21
    go_wp2_with (go_at_call 31; refine (HM.out _).mono ?_; rintro e w' ⟨rfl, hb⟩; obtain ⟨hc, hf⟩ := bcellF hb)
    go_ret
    exact ⟨ret_int (by have := E.out; omega), says_more hb⟩

theorem of_any (r : R) (w : World) : Calls Try.prog 19 #[val r] w (Says w (val r)) := by
  unfold val
  go_enter Try.func19, Try.ntmps19
  go_wp2
  refine bodyPost_ret (v := .agg #[.int .i64 r.idle, .int .i64 r.move, .int .i64 r.gain, .int .i64 r.pull, .int .i64 r.door, .int .i64 r.weight]) (by simp [results, Try.results19, go_sem]) rfl ⟨rfl, ?_⟩
  exact ((Below.refl _ _).alloc (Nat.le_refl _) _).alloc (by simp) _

end Go.Proofs.Ytlejnmjjpknhjaa.Rat
