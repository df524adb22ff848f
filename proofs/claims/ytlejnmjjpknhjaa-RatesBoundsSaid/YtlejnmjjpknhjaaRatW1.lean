/- The walks of RatesCheck, RatesDraws. -/
import Derived.Test.YtlejnmjjpknhjaaRatM
namespace Go.Proofs.Ytlejnmjjpknhjaa.Walk
open Go.RowKit Go.ChangeShapes Go.Proofs.Ytlejnmjjpknhjaa.RatP Go.Proofs.Ytlejnmjjpknhjaa.Rat
set_option linter.unusedVariables false

theorem first_no {r : R} (h : mayB r = false) : r.idle < 0 ∨ (0 ≤ r.idle ∧ 1000 < r.idle) ∨ (0 ≤ r.idle ∧ r.idle ≤ 1000 ∧ (r.move < 0 ∨ (0 ≤ r.move ∧ 1000 < r.move) ∨ (0 ≤ r.move ∧ r.move ≤ 1000 ∧ (r.gain < 0 ∨ (0 ≤ r.gain ∧ 1000 < r.gain) ∨ (0 ≤ r.gain ∧ r.gain ≤ 1000 ∧ (r.door < 0 ∨ (0 ≤ r.door ∧ 1000 < r.door) ∨ (0 ≤ r.door ∧ r.door ≤ 1000 ∧ (r.pull < 0 ∨ (0 ≤ r.pull ∧ 100 < r.pull) ∨ (0 ≤ r.pull ∧ r.pull ≤ 100 ∧ (r.weight < 0 ∨ (0 ≤ r.weight ∧ 64 < r.weight))))))))))) := by
  have hn : ¬ r.May := fun hm => by rw [(mayB_iff r).2 hm] at h; cases h
  by_cases a : 0 ≤ r.idle ∧ r.idle ≤ 1000 ∧ 0 ≤ r.move ∧ r.move ≤ 1000 ∧ 0 ≤ r.gain ∧ r.gain ≤ 1000 ∧ 0 ≤ r.door ∧ r.door ≤ 1000 ∧ 0 ≤ r.pull ∧ r.pull ≤ 100 ∧ 0 ≤ r.weight ∧ r.weight ≤ 64
  · obtain ⟨a0, a1, a2, a3, a4, a5, a6, a7, a8, a9, a10, a11⟩ := a
    exact absurd ⟨a0, a1, a2, a3, a4, a5, a8, a9, a6, a7, a10, a11⟩ hn
  · omega

set_option maxRecDepth 100000 in
set_option maxHeartbeats 3200000 in
theorem ratesDraws_walk (w : World) (r : R) (what load dir : Int) (_w1 : (Lit.int .i64 what).wf = true) (_w2 : (Lit.int .i64 load).wf = true) (_w3 : (Lit.int .i64 dir).wf = true) : Calls Try.prog 4 #[val r, .int .i64 what, .int .i64 load, .int .i64 dir] w fun e w' => e = .returned (.bool true) ∧ Below w.heap.size w w' := by
  have H0 := J0.new w r
  clear _w1 _w2 _w3
  unfold val
  by_cases hm : mayB r = false
  · have HR := Lib.hid hm
    clear hm
    go_enter Try.func4, Try.ntmps4
    go_wp2_with (first
      | (go_at_call 11; refine (awake_j H0).mono ?_; clear H0; rintro e w1 ⟨rfl, h1⟩; obtain ⟨a0, a1, a2, a3, a4, a5⟩ := box_cells h1.out.box)
      | (go_at_call 13; refine (check_no HR h1).mono ?_; clear h1; rintro e w2 ⟨rfl, h2⟩))
    go_ret
    exact ⟨rfl, h2.out.below⟩
  · have HR : Hid r.May := Lib.hid ((mayB_iff r).1 (by simpa using hm))
    clear hm
    have e1 : (dr r what load dir == dr r what load dir) = true := by simp
    have e2 : (gv r what load dir == gv r what load dir) = true := by simp
    go_enter Try.func4, Try.ntmps4
    go_wp2_with (first
      | (go_at_call 11; refine (awake_j H0).mono ?_; clear H0; rintro e w1 ⟨rfl, h1⟩; obtain ⟨a0, a1, a2, a3, a4, a5⟩ := box_cells h1.out.box)
      | (go_at_call 13; refine (check_yes HR h1).mono ?_; clear h1 a0 a1 a2 a3 a4 a5; rintro e w2 ⟨rfl, h2⟩; have h3 : Hid (J0 w w2.drew w.heap.size r) := Lib.hid ⟨h2.out.below.drew, h2.out.box.drew⟩))
    clear h2
    go_region_held (fun W' => W'.cell? ⟨w.heap.size, 0, none⟩ = some (.int .i64 r.idle) ∧ W'.cell? ⟨w.heap.size, 1, none⟩ = some (.int .i64 r.move) ∧ W'.cell? ⟨w.heap.size, 2, none⟩ = some (.int .i64 r.gain) ∧ W'.cell? ⟨w.heap.size, 3, none⟩ = some (.int .i64 r.pull) ∧ W'.cell? ⟨w.heap.size, 4, none⟩ = some (.int .i64 r.door) ∧ W'.cell? ⟨w.heap.size, 5, none⟩ = some (.int .i64 r.weight) ∧ Holds w W' w.heap.size r)
      ((have hj := ‹Hid (J0 _ _ _ _)›; exact ⟨hj.out.box.c0, hj.out.box.c1, hj.out.box.c2, hj.out.box.c3, hj.out.box.c4, hj.out.box.c5, hj⟩))
      ((first
        | (go_at_call 17; have hj0 := ‹Hid (J0 _ _ _ _)›; refine (j0Draw HR _ _ _ hj0).mono ?_; clear hj0; rintro e w' ⟨rfl, hj'⟩)
        | (go_at_call 19; have hj0 := ‹Hid (J0 _ _ _ _)›; refine (j0Of hj0).mono ?_; clear hj0; unfold val; rintro e w' ⟨rfl, hj'⟩)
        | (go_at_call 18; have hj0 := ‹Hid (J0 _ _ _ _)›; refine (j0RefDraw HR _ _ _ hj0).mono ?_; clear hj0; rintro e w' ⟨rfl, hj'⟩)
        | (go_at_call 20; have hj0 := ‹Hid (J0 _ _ _ _)›; refine (j0Gives HR _ _ _ hj0).mono ?_; clear hj0; rintro e w' ⟨rfl, hj'⟩)
        | (go_at_call 21; have hj0 := ‹Hid (J0 _ _ _ _)›; refine (j0RefGives HR _ _ _ hj0).mono ?_; clear hj0; rintro e w' ⟨rfl, hj'⟩)))
    all_goals
      go_wp2
      go_ret
      have hj := ‹Hid (J0 _ _ _ _)›
      exact ⟨rfl, hj.out.below⟩

end Go.Proofs.Ytlejnmjjpknhjaa.Walk
