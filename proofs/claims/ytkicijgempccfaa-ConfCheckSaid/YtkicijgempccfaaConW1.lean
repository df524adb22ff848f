/- The walk of ConfCheck. -/
import Derived.Test.YtkicijgempccfaaConM
import Derived.Test.YtkicijgempccfaaConS
namespace Go.Proofs.Ytkicijgempccfaa.Walk
open Go.RowKit Go.ChangeShapes Go.Proofs.Ytkicijgempccfaa.RatP Go.Proofs.Ytkicijgempccfaa.ConP Go.Proofs.Ytkicijgempccfaa.Rat Go.Proofs.Ytkicijgempccfaa.Con
set_option linter.unusedVariables false

theorem lj_refCheck {w W : World} {X : Nat} {v : V} {A : Option Addr} {cb : Nat} (hs : Hid (smB v = true)) (h : Hid (LJ w W X v)) (k : Hid (V.In W (vOf v A cb))) : Calls Try.prog 12 #[V.val (vOf v A cb)] W fun e W' => e = .returned (.bool (mayC v.c)) ∧ Hid (LJ w W' X v) := by
  have h2 := (smB_iff v).1 hs.out
  exact lj_of h (refCheck_any (vOf v A cb) (by show v.c.banks.length ≤ _; omega) (by show v.c.order.length ≤ _; omega) W k.out)

def HoldsL (w W : World) (X : Nat) (v : V) : Prop := Hid (LJ w W X v)

set_option maxRecDepth 100000 in
set_option maxHeartbeats 3200000 in
theorem confCheck_walk (w : World) (v : V) (hin : V.In w v) : Calls Try.prog 3 #[v.val] w fun e w' => e = .returned (.bool true) ∧ Below w.heap.size w w' := by
  have H0 := Lib.hid (LJ.new hin 25)
  clear hin
  unfold V.arr at H0
  cases hsm : smB v
  · have HS := Lib.hid hsm
    clear hsm
    unfold V.val
    go_enter Try.func3, Try.ntmps3
    go_wp2_with (first
      | (go_at_call 9; refine (lj_awake H0).mono ?_; clear H0; rintro e w1 ⟨rfl, h1⟩; obtain ⟨a0, a1, a2, a3, a4, a5, a6, a7, a8, a9, a10, a11, a12⟩ := lj_all h1)
      | (go_at_call 10; refine (lj_small HS h1).mono ?_; clear h1; rintro e w2 ⟨rfl, h2⟩))
    go_ret
    exact ⟨rfl, h2.out.below⟩
  · have HS := Lib.hid hsm
    clear hsm
    obtain ⟨q, hq⟩ : ∃ q, mayC v.c = q := ⟨_, rfl⟩
    have HQ := Lib.hid hq
    have eq1 : (q == q) = true := by simp
    clear hq
    unfold V.val
    go_enter Try.func3, Try.ntmps3
    go_wp2_with (first
      | (go_at_call 9; refine (lj_awake H0).mono ?_; clear H0; rintro e w1 ⟨rfl, h1⟩; obtain ⟨a0, a1, a2, a3, a4, a5, a6, a7, a8, a9, a10, a11, a12⟩ := lj_all h1)
      | (go_at_call 10; refine (lj_small HS h1).mono ?_; clear h1 a0 a1 a2 a3 a4 a5 a6 a7 a8 a9 a10 a11 a12; rintro e w2 ⟨rfl, h2⟩; have h3 : Hid (LJ w w2.drew w.heap.size v) := Lib.hid h2.out.drew))
    clear h2
    go_region_held (fun W' => W'.cell? ⟨w.heap.size, 0, none⟩ = some (.slice v.A v.c.banks.length v.cb) ∧ W'.cell? ⟨w.heap.size, 1, none⟩ = some (.int .i64 v.c.floors) ∧ W'.cell? ⟨w.heap.size, 2, none⟩ = some (.int .i64 v.c.home) ∧ W'.cell? ⟨w.heap.size, 3, none⟩ = some (.slice v.O v.c.order.length v.co) ∧ W'.cell? ⟨w.heap.size, 4, none⟩ = some (.int .i64 v.c.speed) ∧ W'.cell? ⟨w.heap.size, 5, none⟩ = some (.int .i64 v.c.width) ∧ W'.cell? ⟨w.heap.size, 6, none⟩ = some (.int .i64 v.c.dwell) ∧ W'.cell? ⟨w.heap.size, 7, none⟩ = some (.int .i64 v.c.good) ∧ W'.cell? ⟨w.heap.size, 8, none⟩ = some (.int .i64 v.c.dead) ∧ W'.cell? ⟨w.heap.size, 9, none⟩ = some (.int .i64 v.c.lag) ∧ W'.cell? ⟨w.heap.size, 10, none⟩ = some (.int .i64 v.c.turn) ∧ W'.cell? ⟨w.heap.size, 11, none⟩ = some (.int .i64 v.c.cost) ∧ W'.cell? ⟨w.heap.size, 12, none⟩ = some (.int .i64 v.c.full) ∧ HoldsL w W' w.heap.size v)
      ((have hj := ‹Hid (LJ _ _ _ _)›; have ha := lj_all hj; exact ⟨ha.1, ha.2.1, ha.2.2.1, ha.2.2.2.1, ha.2.2.2.2.1, ha.2.2.2.2.2.1, ha.2.2.2.2.2.2.1, ha.2.2.2.2.2.2.2.1, ha.2.2.2.2.2.2.2.2.1, ha.2.2.2.2.2.2.2.2.2.1, ha.2.2.2.2.2.2.2.2.2.2.1, ha.2.2.2.2.2.2.2.2.2.2.2.1, ha.2.2.2.2.2.2.2.2.2.2.2.2, hj⟩))
      ((first
        | (go_at_call 11; have hj0 := ‹Hid (LJ _ _ _ _)›; have hi0 := ‹Hid (V.In _ _)›; refine (lj2_check HS HQ hj0 hi0).mono ?_; clear hj0 hi0; rintro e w' ⟨rfl, hj', hi'⟩)
        | (go_at_call 11; have hj0 := ‹Hid (LJ _ _ _ _)›; refine (lj_check HS HQ hj0).mono ?_; clear hj0; rintro e w' ⟨rfl, hj'⟩)
        | (go_at_call 13; have hj0 := ‹Hid (LJ _ _ _ _)›; refine (lj_ofc HS hj0).mono ?_; clear hj0; rintro e w' ⟨A', cb', rfl, hj', hi'⟩)
        | (go_at_call 12; have hj0 := ‹Hid (LJ _ _ _ _)›; have hi0 := ‹Hid (V.In _ _)›; refine (lj_refCheck HS hj0 hi0).mono ?_; rw [HQ.out]; clear hj0 hi0; rintro e w' ⟨rfl, hj'⟩)))
    all_goals
      go_wp2
      go_ret
      have hj := ‹Hid (LJ _ _ _ _)›
      exact ⟨rfl, hj.out.below⟩

end Go.Proofs.Ytkicijgempccfaa.Walk
