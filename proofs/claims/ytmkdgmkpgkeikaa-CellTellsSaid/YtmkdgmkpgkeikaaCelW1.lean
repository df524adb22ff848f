/- The walk of CellTells. -/
import Derived.Test.YtmkdgmkpgkeikaaCelC
import Derived.OpenShut
namespace Go.Proofs.Ytmkdgmkpgkeikaa.Walk
open Go.RowKit Go.ChangeShapes Go.Proofs.Ytmkdgmkpgkeikaa.CelP Go.Proofs.Ytmkdgmkpgkeikaa.Cel Go.Proofs.Ytmkdgmkpgkeikaa.Box Go.Proofs.Ytmkdgmkpgkeikaa.Held
set_option linter.unusedVariables false

set_option maxRecDepth 100000 in
set_option maxHeartbeats 6400000 in
theorem cellTells_walk (w : World) (hv fv n : Int) (w0 : (Lit.int .u32 hv).wf = true) (w1 : (Lit.int .u32 fv).wf = true) (_w2 : (Lit.int .i64 n).wf = true) : Calls Try.prog 3 #[.int .u32 hv, .int .u32 fv, .int .i64 n] w fun e w' => e = .returned (.bool true) ∧ Below w.heap.size w w' := by
  have hh := bounds_u32 w0
  have hf := bounds_u32 w1
  clear w0 w1 _w2
  have HA : Hid (∀ W, Calls Try.prog 7 #[] W (Says W (.bool true))) := Lib.hid fun W => awake_any W
  obtain ⟨f, hn⟩ : ∃ f, fv % 1048577 = f := ⟨_, rfl⟩
  have t1 : fv.tmod 1048577 = f := by rw [Int.tmod_eq_emod_of_nonneg (by omega)]; exact hn
  have t2 : IntKind.u32.wrap f = f := IntWalk.u32_in _ (by omega)
  have t3 : IntKind.i64.wrap f = f := IntWalk.i64_in _ (by omega)
  obtain ⟨g, hg⟩ : ∃ g, f + 1 = g := ⟨_, rfl⟩
  have t4 : IntKind.i64.wrap (f + 1) = g := by rw [hg]; exact IntWalk.i64_in _ (by omega)
  have t5 : IntKind.i64.wrap hv = hv := IntWalk.i64_in _ (by omega)
  have g0 : (g == 0) = false := by rw [beq_eq_false_iff_ne]; omega
  have g0' : g ≠ 0 := by omega
  obtain ⟨h, ho⟩ : ∃ h, hv % g = h := ⟨_, rfl⟩
  have o0 : 0 ≤ h := by rw [← ho]; exact Int.emod_nonneg _ g0'
  have o1 : h ≤ f := by have := Int.emod_lt_of_pos hv (show 0 < g by omega); omega
  have t7 : hv.tmod g = h := by rw [Int.tmod_eq_emod_of_nonneg (by omega)]; exact ho
  have t8 : IntKind.i64.wrap h = h := IntWalk.i64_in _ (by omega)
  have hm : K.May ⟨h, f⟩ := ⟨o0, o1, by simp only; omega⟩
  have hsf : (sp ⟨h, f⟩ n).f = f := by unfold sp; split <;> rfl
  have HS : Hid (∀ W, Calls Try.prog 8 #[.agg #[.int .i64 h, .int .i64 f], .int .i64 n] W (Says W (.tuple #[.agg #[.int .i64 (sp ⟨h, f⟩ n).h, .int .i64 f], .bool (decide (am n ≤ h))]))) := Lib.hid fun W => by
    have := Spend_any ⟨h, f⟩ hm n W; unfold val at this; rwa [hsf] at this
  have HR : Hid (∀ W, Calls Try.prog 9 #[.int .i64 h, .int .i64 n] W (Says W (.tuple #[.int .i64 (sp ⟨h, f⟩ n).h, .bool (decide (am n ≤ h))]))) := Lib.hid fun W => refSpend_any h f n o0 (by omega) W
  have HF : Hid (∀ W, Calls Try.prog 10 #[.agg #[.int .i64 h, .int .i64 f], .int .i64 n] W (Says W (.agg #[.int .i64 (fi h f n), .int .i64 f]))) := Lib.hid fun W => Fill_any ⟨h, f⟩ hm n W
  have HG : Hid (∀ W, Calls Try.prog 11 #[.int .i64 h, .int .i64 f, .int .i64 n] W (Says W (.int .i64 (fi h f n)))) := Lib.hid fun W => refFill_any h f n o0 o1 (by omega) W
  have HC : Hid (∀ W, Calls Try.prog 12 #[.agg #[.int .i64 h, .int .i64 f], .int .i64 n] W (Says W (.bool (decide (am n ≤ h))))) := Lib.hid fun W => Can_any ⟨h, f⟩ n W
  clear hn hg ho hm hh hf o0 o1 hsf
  generalize (sp ⟨h, f⟩ n).h = x at *
  generalize fi h f n = y at *
  generalize decide (am n ≤ h) = b at *
  have k1 : (x == x) = true := by simp
  have k2 : (b == b) = true := by simp
  have k3 : (f == f) = true := by simp
  have k4 : (y == y) = true := by simp
  go_enter Try.func3, Try.ntmps3
  go_wp2_with (first
    | (go_at_call 7; refine (HA.out _).mono ?_; clear HA; rintro e w1 ⟨rfl, h1⟩; have hj1 := Lib.hid (((J.start w).next h1).push #[.int .i64 h, .int .i64 f] 25); clear h1)
    | (go_at_call 8; (with_reducible refine (HS.out _).mono ?_); clear HS; rintro e w2 ⟨rfl, h2⟩; have hj2 := Lib.hid ((hj1.out.next h2).push #[.int .i64 x, .int .i64 f] 25); clear h2)
    | (go_at_call 9; (with_reducible refine (HR.out _).mono ?_); clear HR; rintro e w3 ⟨rfl, h3⟩; have hj3 := Lib.hid (hj2.out.next h3); clear h3; obtain ⟨a0, a1⟩ := (hj3.out.bx 1 rfl).c2)
    | (go_at_call 10; (with_reducible refine (HF.out _).mono ?_); clear HF; rintro e w4 ⟨rfl, h4⟩; have hj4 : Hid (JS w _ _) := Lib.hid ((hj3.out.next h4).push #[.int .i64 y, .int .i64 f] 25); clear h4))
  refine wp_region_all _ JS.closed hj4.out (by kernel_rfl) (by kernel_rfl) ?_
  apply Exists.intro
  refine ⟨fun w5 h5 => ?_, fun W5 hJ5 hb5 => ?_⟩
  · haveI := Ext.some h5
    obtain ⟨q0, q1⟩ := ext2 h5 0 rfl
    obtain ⟨r0, r1⟩ := ext2 h5 1 rfl
    obtain ⟨s0, s1⟩ := ext2 h5 2 rfl
    have cG := Lib.hid (Ext.calls h5 JS.closed (fun W _ => HG.out W))
    have cC := Lib.hid (Ext.calls h5 JS.closed (fun W _ => HC.out W))
    repeat go_big_quiet_step (first | (go_at_call 11; with_reducible exact cG.out _) | (go_at_call 12; with_reducible exact cC.out _))
    exact wpQuiet_nil rfl
  · go_wp2
    go_ret
    exact ⟨rfl, J.below hJ5⟩

end Go.Proofs.Ytmkdgmkpgkeikaa.Walk
