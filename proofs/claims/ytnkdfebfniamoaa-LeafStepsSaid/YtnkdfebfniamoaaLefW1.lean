/- The walk of LeafSteps. -/
import Derived.Test.YtnkdfebfniamoaaLefA
import Derived.OpenShut
namespace Go.Proofs.Ytnkdfebfniamoaa.Walk
open Go.RowKit Go.ChangeShapes Go.Proofs.Ytnkdfebfniamoaa.LefP Go.Proofs.Ytnkdfebfniamoaa.Lef Go.Proofs.Ytnkdfebfniamoaa.Box Go.Proofs.Ytnkdfebfniamoaa.Held
set_option linter.unusedVariables false

set_option maxRecDepth 100000 in
set_option maxHeartbeats 6400000 in
theorem leafSteps_walk (w : World) (op wd what : Int) (b : Bool) (w0 : (Lit.int .u8 op).wf = true) (w1 : (Lit.int .u8 wd).wf = true) (_w2 : (Lit.int .i64 what).wf = true) : Calls Try.prog 3 #[.int .u8 op, .int .u8 wd, .int .i64 what, .bool b] w fun e w' => e = .returned (.bool true) ∧ Below w.heap.size w w' := by
  have hop := bounds_u8 w0
  have hwd := bounds_u8 w1
  clear w0 w1 _w2
  have HA : Hid (∀ W, Calls Try.prog 7 #[] W (Says W (.bool true))) := Lib.hid fun W => awake_any W
  obtain ⟨n, hn⟩ : ∃ n, wd % 16 = n := ⟨_, rfl⟩
  have t1 : wd.tmod 16 = n := by rw [Int.tmod_eq_emod_of_nonneg (by omega)]; exact hn
  have t2 : IntKind.u8.wrap n = n := IntWalk.u8_in _ (by omega)
  have t3 : IntKind.i64.wrap n = n := IntWalk.i64_in _ (by omega)
  obtain ⟨d, hd⟩ : ∃ d, n + 1 = d := ⟨_, rfl⟩
  have t4 : IntKind.i64.wrap (n + 1) = d := by rw [hd]; exact IntWalk.i64_in _ (by omega)
  have t5 : IntKind.i64.wrap op = op := IntWalk.i64_in _ (by omega)
  obtain ⟨e, he⟩ : ∃ e, d + 1 = e := ⟨_, rfl⟩
  have t6 : IntKind.i64.wrap (d + 1) = e := by rw [he]; exact IntWalk.i64_in _ (by omega)
  have e0 : (e == 0) = false := by rw [beq_eq_false_iff_ne]; omega
  have e0' : e ≠ 0 := by omega
  obtain ⟨o, ho⟩ : ∃ o, op % e = o := ⟨_, rfl⟩
  have o0 : 0 ≤ o := by rw [← ho]; exact Int.emod_nonneg _ e0'
  have o1 : o ≤ d := by have := Int.emod_lt_of_pos op (show 0 < e by omega); omega
  have t7 : op.tmod e = o := by rw [Int.tmod_eq_emod_of_nonneg (by omega)]; exact ho
  have t8 : IntKind.i64.wrap o = o := IntWalk.i64_in _ (by omega)
  have hm : L.May ⟨o, d⟩ := ⟨o0, o1, by simp only; omega, by simp only; omega⟩
  have HS : Hid (∀ W, Calls Try.prog 8 #[.agg #[.int .i64 o, .int .i64 d], .int .i64 what, .bool b] W (Says W (.agg #[.int .i64 (so o d what b), .int .i64 d]))) := Lib.hid fun W => Step_any ⟨o, d⟩ hm what b W
  have HR : Hid (∀ W, Calls Try.prog 9 #[.int .i64 o, .int .i64 d, .int .i64 what, .bool b] W (Says W (.int .i64 (so o d what b)))) := Lib.hid fun W => refStep_any o d what b o0 o1 hm.d1 W
  have HH : Hid (∀ W, Calls Try.prog 10 #[.agg #[.int .i64 o, .int .i64 d]] W (Says W (.bool (decide (o = 0))))) := Lib.hid fun W => Shut_any ⟨o, d⟩ W
  have HW : Hid (∀ W, Calls Try.prog 11 #[.agg #[.int .i64 o, .int .i64 d]] W (Says W (.bool (decide (o = d))))) := Lib.hid fun W => Wide_any ⟨o, d⟩ W
  have HL : Hid (∀ W, Calls Try.prog 12 #[.agg #[.int .i64 o, .int .i64 d]] W (Says W (.int .i64 (d - o)))) := Lib.hid fun W => Left_any ⟨o, d⟩ hm W
  obtain ⟨y, hy⟩ : ∃ y, d - o = y := ⟨_, rfl⟩
  have t9 : IntKind.i64.wrap (d - o) = y := by rw [hy]; exact IntWalk.i64_in _ (by omega)
  rw [hy] at HL
  have k1 : (decide (o = 0) = true ∧ (o == 0) = true) ∨ (decide (o = 0) = false ∧ (o == 0) = false) := by
    by_cases h : o = 0
    · exact .inl ⟨by simpa using h, by simpa using h⟩
    · exact .inr ⟨by simpa using h, by simpa using h⟩
  have k2 : (decide (o = d) = true ∧ (o == d) = true) ∨ (decide (o = d) = false ∧ (o == d) = false) := by
    by_cases h : o = d
    · exact .inl ⟨by simpa using h, by simpa using h⟩
    · exact .inr ⟨by simpa using h, by simpa using h⟩
  clear hn hd he ho hm hop hwd o0 o1 hy
  generalize so o d what b = x at *
  rcases k1 with ⟨g1, g2⟩ | ⟨g1, g2⟩
  all_goals
    rw [g1] at HH
    clear g1
    rcases k2 with ⟨g3, g4⟩ | ⟨g3, g4⟩
    all_goals
      rw [g3] at HW
      clear g3
      go_enter Try.func3, Try.ntmps3
      go_wp2_with (first
        | (go_at_call 7; refine (HA.out _).mono ?_; clear HA; rintro e w1 ⟨rfl, h1⟩; have hj1 := Lib.hid (((J.start w).next h1).push #[.int .i64 o, .int .i64 d] 24))
        | (go_at_call 8; (with_reducible refine (HS.out _).mono ?_); clear HS; rintro e w2 ⟨rfl, h2⟩; have hj2 : Hid (JS w _ _) := Lib.hid ((hj1.out.next h2).push #[.int .i64 x, .int .i64 d] 24)))
      refine wp_region_all _ JS.closed hj2.out (by kernel_rfl) (by kernel_rfl) ?_
      apply Exists.intro
      refine ⟨fun w3 h3 => ?_, fun W3 hJ3 hb3 => ?_⟩
      · haveI := Ext.some h3
        obtain ⟨q0, q1⟩ := ext2 h3 0 rfl
        obtain ⟨r0, r1⟩ := ext2 h3 1 rfl
        have cR := Lib.hid (Ext.calls h3 JS.closed (fun W _ => HR.out W))
        have cH := Lib.hid (Ext.calls h3 JS.closed (fun W _ => HH.out W))
        have cW := Lib.hid (Ext.calls h3 JS.closed (fun W _ => HW.out W))
        have cL := Lib.hid (Ext.calls h3 JS.closed (fun W _ => HL.out W))
        repeat go_big_quiet_step (first | (go_at_call 9; with_reducible exact cR.out _) | (go_at_call 10; with_reducible exact cH.out _) | (go_at_call 11; with_reducible exact cW.out _) | (go_at_call 12; with_reducible exact cL.out _))
        exact wpQuiet_nil rfl
      · go_wp2
        go_ret
        exact ⟨rfl, J.below hJ3⟩

end Go.Proofs.Ytnkdfebfniamoaa.Walk
