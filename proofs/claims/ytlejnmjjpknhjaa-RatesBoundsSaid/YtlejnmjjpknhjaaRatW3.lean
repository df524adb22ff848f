/- The walk of RatesBounds. -/
import Derived.Test.YtlejnmjjpknhjaaRatW1
namespace Go.Proofs.Ytlejnmjjpknhjaa.Walk
open Go.RowKit Go.ChangeShapes Go.Proofs.Ytlejnmjjpknhjaa.RatP Go.Proofs.Ytlejnmjjpknhjaa.Rat
set_option linter.unusedVariables false

/-- the other way, as the law reckons it -/
theorem sg_other {d o : Int} (h : o = 0 - d.tdiv 2 - d.tmod 2) : sg o = -sg d := by
  subst h
  rw [tdiv_eq_if, tmod_eq_if]
  rcases sg_cases d with ⟨hd, e⟩ | ⟨hd, e⟩ | ⟨hd, e⟩
  · rw [if_pos (by omega), if_pos (by omega), e, sg_neg (by omega)]
  · rw [if_neg (by omega), if_neg (by omega), e, sg_pos (by omega)]; rfl
  · subst hd; rfl

theorem other_neg {d : Int} (h : d < 0) (h0 : -9223372036854775808 ≤ d) : sg (wrap64 (wrap64 (-d.tdiv 2) - d.tmod 2)) = -sg d := by
  rw [tdiv_eq_if, tmod_eq_if, if_neg (by omega), if_neg (by omega), IntWalk.wrap64_in (- -(-d / 2)) (by omega), IntWalk.wrap64_in _ (by omega), sg_neg h, sg_pos (by omega)]
  rfl

set_option maxRecDepth 100000 in
set_option maxHeartbeats 6400000 in
theorem ratesBounds_walk (w : World) (r : R) (what load dir : Int) (_w1 : (Lit.int .i64 what).wf = true) (_w2 : (Lit.int .i64 load).wf = true) (hw : (Lit.int .i64 dir).wf = true) : Calls Try.prog 6 #[val r, .int .i64 what, .int .i64 load, .int .i64 dir] w fun e w' => e = .returned (.bool true) ∧ Below w.heap.size w w' := by
  have H0 := J0.new w r
  clear _w1 _w2
  unfold val
  by_cases hm : mayB r = false
  · have HR := Lib.hid hm
    clear hm
    go_enter Try.func6, Try.ntmps6
    go_wp2_with (first
      | (go_at_call 11; refine (awake_j H0).mono ?_; clear H0; rintro e w1 ⟨rfl, h1⟩; obtain ⟨a0, a1, a2, a3, a4, a5⟩ := box_cells h1.out.box)
      | (go_at_call 13; refine (check_no HR h1).mono ?_; clear h1; rintro e w2 ⟨rfl, h2⟩))
    go_ret
    exact ⟨rfl, h2.out.below⟩
  · have hr : r.May := (mayB_iff r).1 (by simpa using hm)
    have HR : Hid r.May := Lib.hid hr
    clear hm
    have d0 := dr_ge hr what load dir
    have d1 := dr_pk hr what load dir
    have d2 := pk_most r load dir
    have d3 := most_le hr
    have d4 := gv_ge hr what load dir
    have i0 := hr.i0
    have i1 := hr.i1
    have m0 := hr.m0
    have m1 := hr.m1
    obtain ⟨w0, w1⟩ := bounds_i64 hw
    have hG : ∀ W B o, sg o = -sg dir → Hid (J w W w.heap.size B r) → Calls Try.prog 20 #[val r, .int .i64 what, .int .i64 load, .int .i64 o] W fun e W' => e = .returned (.int .i64 (gv r what (bd load) (-sg dir))) ∧ Hid (J w W' w.heap.size B r) := fun W B o ho h => by
      rw [← ho, gv_norm]; exact jGives HR what load o h
    have hD : ∀ W B, Hid (J w W w.heap.size B r) → Calls Try.prog 17 #[val r, .int .i64 what, .int .i64 load, .int .i64 dir] W fun e W' => e = .returned (.int .i64 (dr r what load dir)) ∧ Hid (J w W' w.heap.size B r) := fun W B h => jDraw HR what load dir h
    have hG1 : ∀ W B, Hid (J w W w.heap.size B r) → Calls Try.prog 20 #[val r, .int .i64 what, .int .i64 load, .int .i64 dir] W fun e W' => e = .returned (.int .i64 (gv r what load dir)) ∧ Hid (J w W' w.heap.size B r) := fun W B h => jGives HR what load dir h
    have hP : ∀ W B, Hid (J w W w.heap.size B r) → Calls Try.prog 14 #[.pointer (some ⟨B, 0, none⟩), .int .i64 load, .int .i64 dir] W fun e W' => e = .returned (.int .i64 (pk r load dir)) ∧ Hid (J w W' w.heap.size B r) := fun W B h => (jPeak HR load dir h).mono fun e W' h => ⟨h.1, h.2.1⟩
    have hM : ∀ W B, Hid (J w W w.heap.size B r) → Calls Try.prog 15 #[.pointer (some ⟨B, 0, none⟩)] W fun e W' => e = .returned (.int .i64 (most r)) ∧ Hid (J w W' w.heap.size B r) := fun W B h => (jMost HR h).mono fun e W' h => ⟨h.1, h.2.1⟩
    have key : dir = 0 ∨ (¬ dir = 0 ∧ ¬ 0 < gv r what load dir) ∨ (¬ dir = 0 ∧ 0 < gv r what load dir ∧ gv r what (bd load) (-sg dir) = 0 ∧ dr r what load dir = r.idle + r.move) := by
      by_cases h0 : dir = 0
      · exact .inl h0
      · by_cases hg : 0 < gv r what load dir
        · obtain ⟨a, b⟩ := gives_one hr (d' := -dir) h0 (by rcases sg_cases dir with ⟨_, h⟩ | ⟨_, h⟩ | ⟨_, h⟩ <;> rw [h] <;> first | exact sg_neg (by omega) | exact sg_pos (by omega) | omega) hg
          refine .inr (.inr ⟨h0, hg, ?_, b⟩)
          rw [← a, ← gv_norm r what load (-dir)]
          congr 1
          rcases sg_cases dir with ⟨_, h⟩ | ⟨_, h⟩ | ⟨_, h⟩ <;> rw [h] <;> first | exact (sg_neg (by omega)).symm | exact (sg_pos (by omega)).symm | omega
        · exact .inr (.inl ⟨h0, hg⟩)
    have e5 : IntKind.i64.wrap (r.idle + r.move) = r.idle + r.move := IntWalk.i64_in _ (by omega)
    generalize gv r what (bd load) (-sg dir) = y at *
    generalize gv r what load dir = g at *
    generalize dr r what load dir = dd at *
    generalize pk r load dir = p at *
    generalize most r = m at *
    have HG := Lib.hid hG
    have HD := Lib.hid hD
    have HG1 := Lib.hid hG1
    have HP := Lib.hid hP
    have HM := Lib.hid hM
    clear hG hD hG1 hP hM hw hr e5
    unfold val at HG HD HG1
    rcases key with hd | ⟨hd, hg⟩ | ⟨hd, hg, hy, he⟩
    · subst hd
      by_cases hg : 0 < g
      all_goals
        go_enter Try.func6, Try.ntmps6
        go_wp2_with (first
          | (go_at_call 11; refine (awake_j H0).mono ?_; clear H0; rintro e w1 ⟨rfl, h1⟩; obtain ⟨a0, a1, a2, a3, a4, a5⟩ := box_cells h1.out.box)
          | (go_at_call 13; refine (check_yes HR h1).mono ?_; clear h1 a0 a1 a2 a3 a4 a5; rintro e w2 ⟨rfl, h2⟩; obtain ⟨b0, b1, b2, b3, b4, b5⟩ := box_cells h2.out.box)
          | (go_at_call 12; refine (new_yes HR h2).mono ?_; clear h2 b0 b1 b2 b3 b4 b5; rintro e w3 ⟨B, rfl, h3, hF⟩; clear hF; obtain ⟨c0, c1, c2, c3, c4, c5⟩ := box_cells h3.out.box)
          | (go_at_call 17; refine (HD.out _ B h3).mono ?_; clear h3 c0 c1 c2 c3 c4 c5; rintro e w4 ⟨rfl, h4⟩)
          | (go_at_call 14; refine (HP.out _ B h4).mono ?_; clear h4; rintro e w5 ⟨rfl, h5⟩; obtain ⟨f0, f1, f2, f3, f4, f5⟩ := box_cells h5.out.box)
          | (go_at_call 20; (with_reducible refine (HG1.out _ B h5).mono ?_); clear h5 f0 f1 f2 f3 f4 f5; rintro e w6 ⟨rfl, h6⟩; obtain ⟨k0, k1, k2, k3, k4, k5⟩ := box_cells h6.out.box)
          | (go_at_call 20; refine (HG.out _ B _ ?_ h6).mono ?_; exact (by rfl); clear h6 k0 k1 k2 k3 k4 k5; rintro e w7 ⟨rfl, h7⟩; obtain ⟨l0, l1, l2, l3, l4, l5⟩ := box_cells h7.out.box)
          | (go_at_call 15; refine (HM.out _ B h7).mono ?_; clear h7 l0 l1 l2 l3 l4 l5; rintro e w8 ⟨rfl, h8⟩)
          | (go_at_call 15; refine (HM.out _ B h8).mono ?_; clear h8; rintro e w9 ⟨rfl, h9⟩; obtain ⟨n0, n1, n2, n3, n4, n5⟩ := box_cells h9.out.box))
        go_ret
        exact ⟨rfl, h9.out.below⟩
    · have td : (dir != 0) = true := by simpa using hd
      have S1 := Lib.hid (fun h : 0 < dir => sg_pos h)
      have S2 := Lib.hid (fun h : dir < 0 => sg_neg h)
      rcases (show 0 < dir ∨ dir < 0 by omega) with hd1 | hd1
      · clear hd
        go_enter Try.func6, Try.ntmps6
        go_wp2_with (first
          | (go_at_call 11; refine (awake_j H0).mono ?_; clear H0; rintro e w1 ⟨rfl, h1⟩; obtain ⟨a0, a1, a2, a3, a4, a5⟩ := box_cells h1.out.box)
          | (go_at_call 13; refine (check_yes HR h1).mono ?_; clear h1 a0 a1 a2 a3 a4 a5; rintro e w2 ⟨rfl, h2⟩; obtain ⟨b0, b1, b2, b3, b4, b5⟩ := box_cells h2.out.box)
          | (go_at_call 12; refine (new_yes HR h2).mono ?_; clear h2 b0 b1 b2 b3 b4 b5; rintro e w3 ⟨B, rfl, h3, hF⟩; clear hF; obtain ⟨c0, c1, c2, c3, c4, c5⟩ := box_cells h3.out.box)
          | (go_at_call 17; refine (HD.out _ B h3).mono ?_; clear h3 c0 c1 c2 c3 c4 c5; rintro e w4 ⟨rfl, h4⟩)
          | (go_at_call 14; refine (HP.out _ B h4).mono ?_; clear h4; rintro e w5 ⟨rfl, h5⟩; obtain ⟨f0, f1, f2, f3, f4, f5⟩ := box_cells h5.out.box)
          | (go_at_call 20; (with_reducible refine (HG1.out _ B h5).mono ?_); clear h5 f0 f1 f2 f3 f4 f5; rintro e w6 ⟨rfl, h6⟩; obtain ⟨k0, k1, k2, k3, k4, k5⟩ := box_cells h6.out.box)
          | (go_at_call 20; refine (HG.out _ B _ ?_ h6).mono ?_; exact (by rw [sg_pos hd1]; exact sg_neg (by omega)); clear h6 k0 k1 k2 k3 k4 k5; rintro e w7 ⟨rfl, h7⟩; obtain ⟨l0, l1, l2, l3, l4, l5⟩ := box_cells h7.out.box)
          | (go_at_call 15; refine (HM.out _ B h7).mono ?_; clear h7 l0 l1 l2 l3 l4 l5; rintro e w8 ⟨rfl, h8⟩)
          | (go_at_call 15; refine (HM.out _ B h8).mono ?_; clear h8; rintro e w9 ⟨rfl, h9⟩; obtain ⟨n0, n1, n2, n3, n4, n5⟩ := box_cells h9.out.box))
        go_ret
        exact ⟨rfl, h9.out.below⟩
      · clear hd
        go_enter Try.func6, Try.ntmps6
        go_wp2_with (first
          | (go_at_call 11; refine (awake_j H0).mono ?_; clear H0; rintro e w1 ⟨rfl, h1⟩; obtain ⟨a0, a1, a2, a3, a4, a5⟩ := box_cells h1.out.box)
          | (go_at_call 13; refine (check_yes HR h1).mono ?_; clear h1 a0 a1 a2 a3 a4 a5; rintro e w2 ⟨rfl, h2⟩; obtain ⟨b0, b1, b2, b3, b4, b5⟩ := box_cells h2.out.box)
          | (go_at_call 12; refine (new_yes HR h2).mono ?_; clear h2 b0 b1 b2 b3 b4 b5; rintro e w3 ⟨B, rfl, h3, hF⟩; clear hF; obtain ⟨c0, c1, c2, c3, c4, c5⟩ := box_cells h3.out.box)
          | (go_at_call 17; refine (HD.out _ B h3).mono ?_; clear h3 c0 c1 c2 c3 c4 c5; rintro e w4 ⟨rfl, h4⟩)
          | (go_at_call 14; refine (HP.out _ B h4).mono ?_; clear h4; rintro e w5 ⟨rfl, h5⟩; obtain ⟨f0, f1, f2, f3, f4, f5⟩ := box_cells h5.out.box)
          | (go_at_call 20; (with_reducible refine (HG1.out _ B h5).mono ?_); clear h5 f0 f1 f2 f3 f4 f5; rintro e w6 ⟨rfl, h6⟩; obtain ⟨k0, k1, k2, k3, k4, k5⟩ := box_cells h6.out.box)
          | (go_at_call 20; refine (HG.out _ B _ ?_ h6).mono ?_; exact (other_neg hd1 w0); clear h6 k0 k1 k2 k3 k4 k5; rintro e w7 ⟨rfl, h7⟩; obtain ⟨l0, l1, l2, l3, l4, l5⟩ := box_cells h7.out.box)
          | (go_at_call 15; refine (HM.out _ B h7).mono ?_; clear h7 l0 l1 l2 l3 l4 l5; rintro e w8 ⟨rfl, h8⟩)
          | (go_at_call 15; refine (HM.out _ B h8).mono ?_; clear h8; rintro e w9 ⟨rfl, h9⟩; obtain ⟨n0, n1, n2, n3, n4, n5⟩ := box_cells h9.out.box))
        go_ret
        exact ⟨rfl, h9.out.below⟩
    · have td : (dir != 0) = true := by simpa using hd
      subst hy
      subst he
      have S1 := Lib.hid (fun h : 0 < dir => sg_pos h)
      have S2 := Lib.hid (fun h : dir < 0 => sg_neg h)
      rcases (show 0 < dir ∨ dir < 0 by omega) with hd1 | hd1
      · clear hd
        go_enter Try.func6, Try.ntmps6
        go_wp2_with (first
          | (go_at_call 11; refine (awake_j H0).mono ?_; clear H0; rintro e w1 ⟨rfl, h1⟩; obtain ⟨a0, a1, a2, a3, a4, a5⟩ := box_cells h1.out.box)
          | (go_at_call 13; refine (check_yes HR h1).mono ?_; clear h1 a0 a1 a2 a3 a4 a5; rintro e w2 ⟨rfl, h2⟩; obtain ⟨b0, b1, b2, b3, b4, b5⟩ := box_cells h2.out.box)
          | (go_at_call 12; refine (new_yes HR h2).mono ?_; clear h2 b0 b1 b2 b3 b4 b5; rintro e w3 ⟨B, rfl, h3, hF⟩; clear hF; obtain ⟨c0, c1, c2, c3, c4, c5⟩ := box_cells h3.out.box)
          | (go_at_call 17; refine (HD.out _ B h3).mono ?_; clear h3 c0 c1 c2 c3 c4 c5; rintro e w4 ⟨rfl, h4⟩)
          | (go_at_call 14; refine (HP.out _ B h4).mono ?_; clear h4; rintro e w5 ⟨rfl, h5⟩; obtain ⟨f0, f1, f2, f3, f4, f5⟩ := box_cells h5.out.box)
          | (go_at_call 20; (with_reducible refine (HG1.out _ B h5).mono ?_); clear h5 f0 f1 f2 f3 f4 f5; rintro e w6 ⟨rfl, h6⟩; obtain ⟨k0, k1, k2, k3, k4, k5⟩ := box_cells h6.out.box)
          | (go_at_call 20; refine (HG.out _ B _ ?_ h6).mono ?_; exact (by rw [sg_pos hd1]; exact sg_neg (by omega)); clear h6 k0 k1 k2 k3 k4 k5; rintro e w7 ⟨rfl, h7⟩; obtain ⟨l0, l1, l2, l3, l4, l5⟩ := box_cells h7.out.box)
          | (go_at_call 15; refine (HM.out _ B h7).mono ?_; clear h7 l0 l1 l2 l3 l4 l5; rintro e w8 ⟨rfl, h8⟩)
          | (go_at_call 15; refine (HM.out _ B h8).mono ?_; clear h8; rintro e w9 ⟨rfl, h9⟩; obtain ⟨n0, n1, n2, n3, n4, n5⟩ := box_cells h9.out.box))
        go_ret
        exact ⟨rfl, h9.out.below⟩
      · clear hd
        go_enter Try.func6, Try.ntmps6
        go_wp2_with (first
          | (go_at_call 11; refine (awake_j H0).mono ?_; clear H0; rintro e w1 ⟨rfl, h1⟩; obtain ⟨a0, a1, a2, a3, a4, a5⟩ := box_cells h1.out.box)
          | (go_at_call 13; refine (check_yes HR h1).mono ?_; clear h1 a0 a1 a2 a3 a4 a5; rintro e w2 ⟨rfl, h2⟩; obtain ⟨b0, b1, b2, b3, b4, b5⟩ := box_cells h2.out.box)
          | (go_at_call 12; refine (new_yes HR h2).mono ?_; clear h2 b0 b1 b2 b3 b4 b5; rintro e w3 ⟨B, rfl, h3, hF⟩; clear hF; obtain ⟨c0, c1, c2, c3, c4, c5⟩ := box_cells h3.out.box)
          | (go_at_call 17; refine (HD.out _ B h3).mono ?_; clear h3 c0 c1 c2 c3 c4 c5; rintro e w4 ⟨rfl, h4⟩)
          | (go_at_call 14; refine (HP.out _ B h4).mono ?_; clear h4; rintro e w5 ⟨rfl, h5⟩; obtain ⟨f0, f1, f2, f3, f4, f5⟩ := box_cells h5.out.box)
          | (go_at_call 20; (with_reducible refine (HG1.out _ B h5).mono ?_); clear h5 f0 f1 f2 f3 f4 f5; rintro e w6 ⟨rfl, h6⟩; obtain ⟨k0, k1, k2, k3, k4, k5⟩ := box_cells h6.out.box)
          | (go_at_call 20; refine (HG.out _ B _ ?_ h6).mono ?_; exact (other_neg hd1 w0); clear h6 k0 k1 k2 k3 k4 k5; rintro e w7 ⟨rfl, h7⟩; obtain ⟨l0, l1, l2, l3, l4, l5⟩ := box_cells h7.out.box)
          | (go_at_call 15; refine (HM.out _ B h7).mono ?_; clear h7 l0 l1 l2 l3 l4 l5; rintro e w8 ⟨rfl, h8⟩)
          | (go_at_call 15; refine (HM.out _ B h8).mono ?_; clear h8; rintro e w9 ⟨rfl, h9⟩; obtain ⟨n0, n1, n2, n3, n4, n5⟩ := box_cells h9.out.box))
        go_ret
        exact ⟨rfl, h9.out.below⟩

end Go.Proofs.Ytlejnmjjpknhjaa.Walk
