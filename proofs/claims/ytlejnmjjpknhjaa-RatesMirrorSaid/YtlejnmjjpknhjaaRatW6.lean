/- The walk of RatesMirror. -/
import Derived.Test.YtlejnmjjpknhjaaRatW4
namespace Go.Proofs.Ytlejnmjjpknhjaa.Walk
open Go.RowKit Go.ChangeShapes Go.Proofs.Ytlejnmjjpknhjaa.RatP Go.Proofs.Ytlejnmjjpknhjaa.Rat
set_option linter.unusedVariables false

set_option maxRecDepth 100000 in
set_option maxHeartbeats 25600000 in
theorem ratesMirror_walk (w : World) (r : R) (what by_ : Int) (_w1 : (Lit.int .i64 what).wf = true) (w2 : (Lit.int .u8 by_).wf = true) :
    Calls Try.prog 9 #[val r, .int .i64 what, .int .u8 by_] w fun e w' => e = .returned (.bool true) ∧ Below w.heap.size w w' := by
  have H0 := J0.new w r
  obtain ⟨l0, l1⟩ := bounds_u8 w2
  clear _w1 w2
  unfold val
  by_cases hm : mayB r = false
  · have HR := Lib.hid hm
    clear hm
    go_enter Try.func9, Try.ntmps9
    go_wp2_with (first
      | (go_at_call 11; refine (awake_j H0).mono ?_; clear H0; rintro e w1 ⟨rfl, h1⟩; obtain ⟨a0, a1, a2, a3, a4, a5⟩ := box_cells h1.out.box)
      | (go_at_call 13; refine (check_no HR h1).mono ?_; clear h1; rintro e w2 ⟨rfl, h2⟩))
    go_ret
    exact ⟨rfl, h2.out.below⟩
  · have hr : r.May := (mayB_iff r).1 (by simpa using hm)
    have HR : Hid r.May := Lib.hid hr
    have q0 := hr.w0
    have q1 := hr.w1
    clear hm
    by_cases hx : 64 < r.weight + by_ ∨ r.weight - by_ < 0
    · clear hr
      rcases (show 64 < r.weight + by_ ∨ (¬ 64 < r.weight + by_ ∧ r.weight - by_ < 0) by omega) with hx | ⟨hx, hy⟩
      all_goals
        go_enter Try.func9, Try.ntmps9
        go_wp2_with (first
          | (go_at_call 11; refine (awake_j H0).mono ?_; clear H0; rintro e w1 ⟨rfl, h1⟩; obtain ⟨a0, a1, a2, a3, a4, a5⟩ := box_cells h1.out.box)
          | (go_at_call 13; refine (check_yes HR h1).mono ?_; clear h1 a0 a1 a2 a3 a4 a5; rintro e w2 ⟨rfl, h2⟩; obtain ⟨b0, b1, b2, b3, b4, b5⟩ := box_cells h2.out.box))
        go_ret
        exact ⟨rfl, h2.out.below⟩
    · have hx1 : r.weight + by_ ≤ 64 := by omega
      have hx2 : 0 ≤ r.weight - by_ := by omega
      clear hx
      obtain ⟨m1, m2⟩ := hv_mirror (r := r) (a := r.weight + by_) (b := r.weight - by_) (by omega) hx1 hx2 (by omega) (by omega)
      have hD1 : ∀ W B, Hid (J w W w.heap.size B r) → Calls Try.prog 17 #[val r, .int .i64 what, .int .i64 (r.weight + by_), .int .i64 1] W fun e W' => e = .returned (.int .i64 (dr r what (r.weight + by_) 1)) ∧ Hid (J w W' w.heap.size B r) := fun W B h => jDraw HR what _ _ h
      have hD2 : ∀ W B, Hid (J w W w.heap.size B r) → Calls Try.prog 17 #[val r, .int .i64 what, .int .i64 (r.weight - by_), .int .i64 (-1)] W fun e W' => e = .returned (.int .i64 (dr r what (r.weight + by_) 1)) ∧ Hid (J w W' w.heap.size B r) := fun W B h => by rw [dr_same r what m1]; exact jDraw HR what _ _ h
      have hG1 : ∀ W B, Hid (J w W w.heap.size B r) → Calls Try.prog 20 #[val r, .int .i64 what, .int .i64 (r.weight - by_), .int .i64 1] W fun e W' => e = .returned (.int .i64 (gv r what (r.weight - by_) 1)) ∧ Hid (J w W' w.heap.size B r) := fun W B h => jGives HR what _ _ h
      have hG2 : ∀ W B, Hid (J w W w.heap.size B r) → Calls Try.prog 20 #[val r, .int .i64 what, .int .i64 (r.weight + by_), .int .i64 (-1)] W fun e W' => e = .returned (.int .i64 (gv r what (r.weight - by_) 1)) ∧ Hid (J w W' w.heap.size B r) := fun W B h => by rw [gv_same r what m2]; exact jGives HR what _ _ h
      have hP1 : ∀ W B, Hid (J w W w.heap.size B r) → Calls Try.prog 14 #[.pointer (some ⟨B, 0, none⟩), .int .i64 (r.weight + by_), .int .i64 1] W fun e W' => e = .returned (.int .i64 (pk r (r.weight + by_) 1)) ∧ Hid (J w W' w.heap.size B r) := fun W B h => (jPeak HR _ _ h).mono fun e W' h => ⟨h.1, h.2.1⟩
      have hP2 : ∀ W B, Hid (J w W w.heap.size B r) → Calls Try.prog 14 #[.pointer (some ⟨B, 0, none⟩), .int .i64 (r.weight - by_), .int .i64 (-1)] W fun e W' => e = .returned (.int .i64 (pk r (r.weight + by_) 1)) ∧ Hid (J w W' w.heap.size B r) := fun W B h => by rw [pk_same r m1]; exact (jPeak HR _ _ h).mono fun e W' h => ⟨h.1, h.2.1⟩
      have hP3 : ∀ W B, Hid (J w W w.heap.size B r) → Calls Try.prog 14 #[.pointer (some ⟨B, 0, none⟩), .int .i64 (r.weight - by_), .int .i64 1] W fun e W' => e = .returned (.int .i64 (pk r (r.weight - by_) 1)) ∧ Hid (J w W' w.heap.size B r) := fun W B h => (jPeak HR _ _ h).mono fun e W' h => ⟨h.1, h.2.1⟩
      have hP4 : ∀ W B, Hid (J w W w.heap.size B r) → Calls Try.prog 14 #[.pointer (some ⟨B, 0, none⟩), .int .i64 (r.weight + by_), .int .i64 (-1)] W fun e W' => e = .returned (.int .i64 (pk r (r.weight - by_) 1)) ∧ Hid (J w W' w.heap.size B r) := fun W B h => by rw [pk_same r m2]; exact (jPeak HR _ _ h).mono fun e W' h => ⟨h.1, h.2.1⟩
      generalize dr r what (r.weight + by_) 1 = dd at *
      generalize gv r what (r.weight - by_) 1 = g at *
      generalize pk r (r.weight + by_) 1 = p at *
      generalize pk r (r.weight - by_) 1 = q at *
      have e1 : (dd == dd) = true := by simp
      have e2 : (g == g) = true := by simp
      have e3 : (p == p) = true := by simp
      have e4 : (q == q) = true := by simp
      have D1 := Lib.hid hD1
      have D2 := Lib.hid hD2
      have G1 := Lib.hid hG1
      have G2 := Lib.hid hG2
      have P1 := Lib.hid hP1
      have P2 := Lib.hid hP2
      have P3 := Lib.hid hP3
      have P4 := Lib.hid hP4
      clear hD1 hD2 hG1 hG2 hP1 hP2 hP3 hP4 hr m1 m2
      unfold val at D1 D2 G1 G2
      go_enter Try.func9, Try.ntmps9
      go_wp2_with (first
        | (go_at_call 11; refine (awake_j H0).mono ?_; clear H0; rintro e w1 ⟨rfl, h1⟩; obtain ⟨a0, a1, a2, a3, a4, a5⟩ := box_cells h1.out.box)
        | (go_at_call 13; refine (check_yes HR h1).mono ?_; clear h1 a0 a1 a2 a3 a4 a5; rintro e w2 ⟨rfl, h2⟩; obtain ⟨b0, b1, b2, b3, b4, b5⟩ := box_cells h2.out.box)
        | (go_at_call 12; refine (new_yes HR h2).mono ?_; clear h2 b0 b1 b2 b3 b4 b5; rintro e w3 ⟨B, rfl, h3, hF⟩; clear hF; have hj' := J.drew h3; clear h3))
      go_region_held (fun W' => W'.cell? ⟨w.heap.size, 0, none⟩ = some (.int .i64 r.idle) ∧ W'.cell? ⟨w.heap.size, 1, none⟩ = some (.int .i64 r.move) ∧ W'.cell? ⟨w.heap.size, 2, none⟩ = some (.int .i64 r.gain) ∧ W'.cell? ⟨w.heap.size, 3, none⟩ = some (.int .i64 r.pull) ∧ W'.cell? ⟨w.heap.size, 4, none⟩ = some (.int .i64 r.door) ∧ W'.cell? ⟨w.heap.size, 5, none⟩ = some (.int .i64 r.weight) ∧ HoldsT w W' w.heap.size B r)
        ((have hj := ‹Hid (J _ _ _ _ _)›; exact ⟨hj.out.box.c0, hj.out.box.c1, hj.out.box.c2, hj.out.box.c3, hj.out.box.c4, hj.out.box.c5, hj⟩))
        ((have hj0 := ‹Hid (J _ _ _ _ _)›
          first
          | (go_at_call 17; (with_reducible refine (D1.out _ B hj0).mono ?_); clear hj0; rintro e w' ⟨rfl, hj'⟩)
          | (go_at_call 17; (with_reducible refine (D2.out _ B hj0).mono ?_); clear hj0; rintro e w' ⟨rfl, hj'⟩)
          | (go_at_call 20; (with_reducible refine (G1.out _ B hj0).mono ?_); clear hj0; rintro e w' ⟨rfl, hj'⟩)
          | (go_at_call 20; (with_reducible refine (G2.out _ B hj0).mono ?_); clear hj0; rintro e w' ⟨rfl, hj'⟩)
          | (go_at_call 14; (with_reducible refine (P1.out _ B hj0).mono ?_); clear hj0; rintro e w' ⟨rfl, hj'⟩)
          | (go_at_call 14; (with_reducible refine (P2.out _ B hj0).mono ?_); clear hj0; rintro e w' ⟨rfl, hj'⟩)
          | (go_at_call 14; (with_reducible refine (P3.out _ B hj0).mono ?_); clear hj0; rintro e w' ⟨rfl, hj'⟩)
          | (go_at_call 14; (with_reducible refine (P4.out _ B hj0).mono ?_); clear hj0; rintro e w' ⟨rfl, hj'⟩)))
      all_goals
        go_wp2
        go_ret
        have hj := ‹Hid (J _ _ _ _ _)›
        exact ⟨rfl, hj.out.below⟩

end Go.Proofs.Ytlejnmjjpknhjaa.Walk
