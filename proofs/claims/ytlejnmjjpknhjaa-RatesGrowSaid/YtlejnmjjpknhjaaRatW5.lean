/- The walk of RatesGrow. -/
import Derived.Test.YtlejnmjjpknhjaaRatM
import Derived.Test.YtlejnmjjpknhjaaSees
namespace Go.Proofs.Ytlejnmjjpknhjaa.Walk
open Go.RowKit Go.ChangeShapes Go.Proofs.Ytlejnmjjpknhjaa.RatP Go.Proofs.Ytlejnmjjpknhjaa.Rat
set_option linter.unusedVariables false

set_option maxRecDepth 100000 in
set_option maxHeartbeats 12800000 in
theorem ratesGrow_walk (w : World) (r : R) (what load dir : Int) (_w1 : (Lit.int .i64 what).wf = true) (w2 : (Lit.int .u8 load).wf = true) (_w3 : (Lit.int .i64 dir).wf = true) :
    Calls Try.prog 8 #[val r, .int .i64 what, .int .u8 load, .int .i64 dir] w fun e w' => e = .returned (.bool true) ∧ Below w.heap.size w w' := by
  have H0 := J0.new w r
  obtain ⟨l0, l1⟩ := bounds_u8 w2
  clear _w1 w2 _w3
  unfold val
  by_cases hm : mayB r = false
  · have HR := Lib.hid hm
    clear hm
    go_enter Try.func8, Try.ntmps8
    go_wp2_with (first
      | (go_at_call 11; refine (awake_j H0).mono ?_; clear H0; rintro e w1 ⟨rfl, h1⟩; obtain ⟨a0, a1, a2, a3, a4, a5⟩ := box_cells h1.out.box)
      | (go_at_call 13; refine (check_no HR h1).mono ?_; clear h1; rintro e w2 ⟨rfl, h2⟩))
    go_ret
    exact ⟨rfl, h2.out.below⟩
  · have hr : r.May := (mayB_iff r).1 (by simpa using hm)
    have HR : Hid r.May := Lib.hid hr
    clear hm
    have n0 : 0 ≤ load % 64 := by omega
    have n1 : load % 64 ≤ 63 := by omega
    have hD1 : ∀ W B, Hid (J w W w.heap.size B r) → Calls Try.prog 17 #[val r, .int .i64 what, .int .i64 (load % 64), .int .i64 dir] W fun e W' => e = .returned (.int .i64 (dr r what (load % 64) dir)) ∧ Hid (J w W' w.heap.size B r) := fun W B h => jDraw HR what _ _ h
    have hD2 : ∀ W B, Hid (J w W w.heap.size B r) → Calls Try.prog 17 #[val r, .int .i64 what, .int .i64 (load % 64 + 1), .int .i64 dir] W fun e W' => e = .returned (.int .i64 (dr r what (load % 64 + 1) dir)) ∧ Hid (J w W' w.heap.size B r) := fun W B h => jDraw HR what _ _ h
    have hG1 : ∀ W B, Hid (J w W w.heap.size B r) → Calls Try.prog 20 #[val r, .int .i64 what, .int .i64 (load % 64), .int .i64 dir] W fun e W' => e = .returned (.int .i64 (gv r what (load % 64) dir)) ∧ Hid (J w W' w.heap.size B r) := fun W B h => jGives HR what _ _ h
    have hG2 : ∀ W B, Hid (J w W w.heap.size B r) → Calls Try.prog 20 #[val r, .int .i64 what, .int .i64 (load % 64 + 1), .int .i64 dir] W fun e W' => e = .returned (.int .i64 (gv r what (load % 64 + 1) dir)) ∧ Hid (J w W' w.heap.size B r) := fun W B h => jGives HR what _ _ h
    have hP1 : ∀ W B, Hid (J w W w.heap.size B r) → Calls Try.prog 14 #[.pointer (some ⟨B, 0, none⟩), .int .i64 (load % 64), .int .i64 dir] W fun e W' => e = .returned (.int .i64 (pk r (load % 64) dir)) ∧ Hid (J w W' w.heap.size B r) := fun W B h => (jPeak HR _ _ h).mono fun e W' h => ⟨h.1, h.2.1⟩
    have hP2 : ∀ W B, Hid (J w W w.heap.size B r) → Calls Try.prog 14 #[.pointer (some ⟨B, 0, none⟩), .int .i64 (load % 64 + 1), .int .i64 dir] W fun e W' => e = .returned (.int .i64 (pk r (load % 64 + 1) dir)) ∧ Hid (J w W' w.heap.size B r) := fun W B h => (jPeak HR _ _ h).mono fun e W' h => ⟨h.1, h.2.1⟩
    have key : (0 < dir ∧ dr r what (load % 64) dir ≤ dr r what (load % 64 + 1) dir ∧ gv r what (load % 64 + 1) dir ≤ gv r what (load % 64) dir ∧ pk r (load % 64) dir ≤ pk r (load % 64 + 1) dir) ∨
        (¬ 0 < dir ∧ dr r what (load % 64 + 1) dir ≤ dr r what (load % 64) dir ∧ gv r what (load % 64) dir ≤ gv r what (load % 64 + 1) dir ∧ pk r (load % 64 + 1) dir ≤ pk r (load % 64) dir) := by
      by_cases hd : 0 < dir
      · have hu := hv_up r n0 (by omega) hd
        have hl : hv r (load % 64) dir ≤ hv r (load % 64 + 1) dir := by omega
        exact .inl ⟨hd, dr_mono hr what hl, gv_anti hr what hl, pk_mono hr hl⟩
      · have hl := hv_down r n0 (by omega) hd
        exact .inr ⟨hd, dr_mono hr what hl, gv_anti hr what hl, pk_mono hr hl⟩
    generalize dr r what (load % 64) dir = a at *
    generalize dr r what (load % 64 + 1) dir = b at *
    generalize gv r what (load % 64) dir = g at *
    generalize gv r what (load % 64 + 1) dir = h at *
    generalize pk r (load % 64) dir = p at *
    generalize pk r (load % 64 + 1) dir = q at *
    have D1 := Lib.hid hD1
    have D2 := Lib.hid hD2
    have G1 := Lib.hid hG1
    have G2 := Lib.hid hG2
    have P1 := Lib.hid hP1
    have P2 := Lib.hid hP2
    clear hD1 hD2 hG1 hG2 hP1 hP2 hr
    unfold val at D1 D2 G1 G2
    rcases key with ⟨hd, c1, c2, c3⟩ | ⟨hd, c1, c2, c3⟩
    all_goals
      go_enter Try.func8, Try.ntmps8
      go_wp2_with (first
        | (go_at_call 11; refine (awake_j H0).mono ?_; clear H0; rintro e w1 ⟨rfl, h1⟩; obtain ⟨a0, a1, a2, a3, a4, a5⟩ := box_cells h1.out.box)
        | (go_at_call 13; refine (check_yes HR h1).mono ?_; clear h1 a0 a1 a2 a3 a4 a5; rintro e w2 ⟨rfl, h2⟩; obtain ⟨b0, b1, b2, b3, b4, b5⟩ := box_cells h2.out.box)
        | (go_at_call 12; refine (new_yes HR h2).mono ?_; clear h2 b0 b1 b2 b3 b4 b5; rintro e w3 ⟨B, rfl, h3, hF⟩; clear hF; obtain ⟨d0, d1, d2, d3, d4, d5⟩ := box_cells h3.out.box)
        | (go_at_call 17; (with_reducible refine (D1.out _ B h3).mono ?_); clear h3 d0 d1 d2 d3 d4 d5; rintro e w4 ⟨rfl, h4⟩; obtain ⟨e0, e1, e2, e3, e4, e5⟩ := box_cells h4.out.box)
        | (go_at_call 17; (with_reducible refine (D2.out _ B h4).mono ?_); clear h4 e0 e1 e2 e3 e4 e5; rintro e w5 ⟨rfl, h5⟩; obtain ⟨f0, f1, f2, f3, f4, f5⟩ := box_cells h5.out.box)
        | (go_at_call 20; (with_reducible refine (G1.out _ B h5).mono ?_); clear h5 f0 f1 f2 f3 f4 f5; rintro e w6 ⟨rfl, h6⟩; obtain ⟨k0, k1, k2, k3, k4, k5⟩ := box_cells h6.out.box)
        | (go_at_call 20; (with_reducible refine (G2.out _ B h6).mono ?_); clear h6 k0 k1 k2 k3 k4 k5; rintro e w7 ⟨rfl, h7⟩)
        | (go_at_call 14; (with_reducible refine (P1.out _ B h7).mono ?_); clear h7; rintro e w8 ⟨rfl, h8⟩)
        | (go_at_call 14; (with_reducible refine (P2.out _ B h8).mono ?_); clear h8; rintro e w9 ⟨rfl, h9⟩))
      go_ret
      exact ⟨rfl, h9.out.below⟩

end Go.Proofs.Ytlejnmjjpknhjaa.Walk
