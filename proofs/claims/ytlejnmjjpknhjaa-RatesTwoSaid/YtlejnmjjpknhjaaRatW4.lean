/- The walk of RatesLoads. -/
import Derived.Test.YtlejnmjjpknhjaaRatM
namespace Go.Proofs.Ytlejnmjjpknhjaa.Walk
open Go.RowKit Go.ChangeShapes Go.Proofs.Ytlejnmjjpknhjaa.RatP Go.Proofs.Ytlejnmjjpknhjaa.Rat
set_option linter.unusedVariables false

/-- while a region runs in a law of layer 4 -/
def HoldsT (w W : World) (X B : Nat) (r : R) : Prop := Hid (J w W X B r)
theorem J.drew {w W : World} {X B : Nat} {r : R} (h : Hid (J w W X B r)) : Hid (J w W.drew X B r) :=
  Lib.hid (h.out.next ((Below.refl _ _).drew))

set_option maxRecDepth 100000 in
set_option maxHeartbeats 12800000 in
theorem ratesLoads_walk (w : World) (r : R) (what load dir : Int) (_w1 : (Lit.int .i64 what).wf = true) (_w2 : (Lit.int .i64 load).wf = true) (_w3 : (Lit.int .i64 dir).wf = true) :
    Calls Try.prog 7 #[val r, .int .i64 what, .int .i64 load, .int .i64 dir] w fun e w' => e = .returned (.bool true) ∧ Below w.heap.size w w' := by
  have H0 := J0.new w r
  clear _w1 _w2 _w3
  unfold val
  by_cases hm : mayB r = false
  · have HR := Lib.hid hm
    clear hm
    go_enter Try.func7, Try.ntmps7
    go_wp2_with (first
      | (go_at_call 11; refine (awake_j H0).mono ?_; clear H0; rintro e w1 ⟨rfl, h1⟩; obtain ⟨a0, a1, a2, a3, a4, a5⟩ := box_cells h1.out.box)
      | (go_at_call 13; refine (check_no HR h1).mono ?_; clear h1; rintro e w2 ⟨rfl, h2⟩))
    go_ret
    exact ⟨rfl, h2.out.below⟩
  · have hr : r.May := (mayB_iff r).1 (by simpa using hm)
    have HR : Hid r.May := Lib.hid hr
    clear hm
    have x1 : ∀ W, (Builtin.max_ #[3, 3] 3 #[.int .i64 load, .int .i64 0]).run Try.prog W = .ok (.int .i64 (max load 0)) W := fun W => by
      rw [run_max_int2]; congr 2; split <;> omega
    have x2 : ∀ W, (Builtin.min_ #[3, 3] 3 #[.int .i64 (max load 0), .int .i64 64]).run Try.prog W = .ok (.int .i64 (bd load)) W := fun W => by
      rw [run_min_int2]; congr 2; unfold bd; split <;> (try split) <;> (try split) <;> omega
    have hD1 : ∀ W B, Hid (J w W w.heap.size B r) → Calls Try.prog 17 #[val r, .int .i64 what, .int .i64 load, .int .i64 dir] W fun e W' => e = .returned (.int .i64 (dr r what load dir)) ∧ Hid (J w W' w.heap.size B r) := fun W B h => jDraw HR what load dir h
    have hD2 : ∀ W B, Hid (J w W w.heap.size B r) → Calls Try.prog 17 #[val r, .int .i64 what, .int .i64 (bd load), .int .i64 (sg dir)] W fun e W' => e = .returned (.int .i64 (dr r what load dir)) ∧ Hid (J w W' w.heap.size B r) := fun W B h => by rw [← dr_norm r what load dir]; exact jDraw HR what _ _ h
    have hG1 : ∀ W B, Hid (J w W w.heap.size B r) → Calls Try.prog 20 #[val r, .int .i64 what, .int .i64 load, .int .i64 dir] W fun e W' => e = .returned (.int .i64 (gv r what load dir)) ∧ Hid (J w W' w.heap.size B r) := fun W B h => jGives HR what load dir h
    have hG2 : ∀ W B, Hid (J w W w.heap.size B r) → Calls Try.prog 20 #[val r, .int .i64 what, .int .i64 (bd load), .int .i64 (sg dir)] W fun e W' => e = .returned (.int .i64 (gv r what load dir)) ∧ Hid (J w W' w.heap.size B r) := fun W B h => by rw [← gv_norm r what load dir]; exact jGives HR what _ _ h
    have hP1 : ∀ W B, Hid (J w W w.heap.size B r) → Calls Try.prog 14 #[.pointer (some ⟨B, 0, none⟩), .int .i64 load, .int .i64 dir] W fun e W' => e = .returned (.int .i64 (pk r load dir)) ∧ Hid (J w W' w.heap.size B r) := fun W B h => (jPeak HR load dir h).mono fun e W' h => ⟨h.1, h.2.1⟩
    have hP2 : ∀ W B, Hid (J w W w.heap.size B r) → Calls Try.prog 14 #[.pointer (some ⟨B, 0, none⟩), .int .i64 (bd load), .int .i64 (sg dir)] W fun e W' => e = .returned (.int .i64 (pk r load dir)) ∧ Hid (J w W' w.heap.size B r) := fun W B h => by rw [← pk_norm r load dir]; exact (jPeak HR _ _ h).mono fun e W' h => ⟨h.1, h.2.1⟩
    generalize max load 0 = z at *
    generalize bd load = b at *
    generalize gv r what load dir = g at *
    generalize dr r what load dir = dd at *
    generalize pk r load dir = p at *
    have e1 : (dd == dd) = true := by simp
    have e2 : (g == g) = true := by simp
    have e3 : (p == p) = true := by simp
    have D1 := Lib.hid hD1
    have D2 := Lib.hid hD2
    have G1 := Lib.hid hG1
    have G2 := Lib.hid hG2
    have P1 := Lib.hid hP1
    have P2 := Lib.hid hP2
    clear hD1 hD2 hG1 hG2 hP1 hP2 hr
    unfold val at D1 D2 G1 G2
    rcases sg_cases dir with ⟨hd, es⟩ | ⟨hd, es⟩ | ⟨hd, es⟩
    case' inl => have hd2 : ¬ dir < 0 := by omega
    case' inr.inl => have hd2 : ¬ 0 < dir := by omega
    case' inr.inr => subst hd
    all_goals
      rw [es] at D2 G2 P2
      clear es
      go_enter Try.func7, Try.ntmps7
      go_wp2_with (first
        | (go_at_call 11; refine (awake_j H0).mono ?_; clear H0; rintro e w1 ⟨rfl, h1⟩; obtain ⟨a0, a1, a2, a3, a4, a5⟩ := box_cells h1.out.box)
        | (go_at_call 13; refine (check_yes HR h1).mono ?_; clear h1 a0 a1 a2 a3 a4 a5; rintro e w2 ⟨rfl, h2⟩; obtain ⟨b0, b1, b2, b3, b4, b5⟩ := box_cells h2.out.box)
        | (go_at_call 12; refine (new_yes HR h2).mono ?_; clear h2 b0 b1 b2 b3 b4 b5; rintro e w3 ⟨B, rfl, h3, hF⟩; clear hF; have hj' := J.drew h3; clear h3))
      go_region_held (fun W' => W'.cell? ⟨w.heap.size, 0, none⟩ = some (.int .i64 r.idle) ∧ W'.cell? ⟨w.heap.size, 1, none⟩ = some (.int .i64 r.move) ∧ W'.cell? ⟨w.heap.size, 2, none⟩ = some (.int .i64 r.gain) ∧ W'.cell? ⟨w.heap.size, 3, none⟩ = some (.int .i64 r.pull) ∧ W'.cell? ⟨w.heap.size, 4, none⟩ = some (.int .i64 r.door) ∧ W'.cell? ⟨w.heap.size, 5, none⟩ = some (.int .i64 r.weight) ∧ HoldsT w W' w.heap.size B r)
        ((have hj := ‹Hid (J _ _ _ _ _)›; exact ⟨hj.out.box.c0, hj.out.box.c1, hj.out.box.c2, hj.out.box.c3, hj.out.box.c4, hj.out.box.c5, hj⟩))
        ((have hj0 := ‹Hid (J _ _ _ _ _)›
          first
          | (go_at_call 17; (with_reducible refine (D1.out _ B hj0).mono ?_); clear hj0; rintro e w' ⟨rfl, hj'⟩)
          | (go_at_call 17; (with_reducible refine (D2.out _ B hj0).mono ?_); clear hj0; rintro e w' ⟨rfl, hj'⟩)
          | (go_at_call 20; (with_reducible refine (G1.out _ B hj0).mono ?_); clear hj0; rintro e w' ⟨rfl, hj'⟩)
          | (go_at_call 20; (with_reducible refine (G2.out _ B hj0).mono ?_); clear hj0; rintro e w' ⟨rfl, hj'⟩)
          | (go_at_call 14; (with_reducible refine (P1.out _ B hj0).mono ?_); clear hj0; rintro e w' ⟨rfl, hj'⟩)
          | (go_at_call 14; (with_reducible refine (P2.out _ B hj0).mono ?_); clear hj0; rintro e w' ⟨rfl, hj'⟩)))
      all_goals
        go_wp2
        go_ret
        have hj := ‹Hid (J _ _ _ _ _)›
        exact ⟨rfl, hj.out.below⟩

end Go.Proofs.Ytlejnmjjpknhjaa.Walk
