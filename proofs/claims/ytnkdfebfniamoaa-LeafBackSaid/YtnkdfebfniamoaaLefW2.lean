/- The walk of LeafBack. -/
import Derived.Test.YtnkdfebfniamoaaLefA
import Derived.OpenShut
import Derived.Laws.StructEq
namespace Go.Proofs.Ytnkdfebfniamoaa.Walk
open Go.RowKit Go.ChangeShapes Go.Proofs.Ytnkdfebfniamoaa.LefP Go.Proofs.Ytnkdfebfniamoaa.Lef Go.Proofs.Ytnkdfebfniamoaa.Box Go.Proofs.Ytnkdfebfniamoaa.Held
set_option linter.unusedVariables false

/-- how far they are when they opened, and shut; and shut, and opened -/
theorem back_open {o d : Int} (h0 : 0 ≤ o) (h1 : o ≤ d) : (o = d ∧ so (so o d 1 false) d 2 false = d - 1 ∨ o ≠ d ∧ so (so o d 1 false) d 2 false = o) ∨ d = 0 := by
  unfold so; simp only [if_true, show ¬ (2 : Int) = 1 by decide, if_false, Bool.false_eq_true]
  by_cases h : o < d
  · rw [if_pos h, if_pos (by omega)]; omega
  · rw [if_neg h]; split <;> omega
theorem back_shut {o d : Int} (h0 : 0 ≤ o) (h1 : o ≤ d) : (o = 0 ∧ so (so o d 2 false) d 1 false = 1 ∨ o ≠ 0 ∧ so (so o d 2 false) d 1 false = o) ∨ d = 0 := by
  unfold so; simp only [if_true, show ¬ (2 : Int) = 1 by decide, if_false, Bool.false_eq_true]
  by_cases h : 0 < o
  · rw [if_pos h, if_pos (by omega)]; omega
  · rw [if_neg h]; split <;> omega

set_option maxRecDepth 100000 in
set_option maxHeartbeats 6400000 in
theorem leafBack_walk (w : World) (op wd : Int) (w0 : (Lit.int .u8 op).wf = true) (w1 : (Lit.int .u8 wd).wf = true) : Calls Try.prog 6 #[.int .u8 op, .int .u8 wd] w fun e w' => e = .returned (.bool true) ∧ Below w.heap.size w w' := by
  have hop := bounds_u8 w0
  have hwd := bounds_u8 w1
  clear w0 w1
  have HA : Hid (∀ W, Calls Try.prog 7 #[] W (Says W (.bool true))) := Lib.hid fun W => awake_any W
  obtain ⟨n, hn⟩ : ∃ n, wd % 16 = n := ⟨_, rfl⟩
  have t1 : wd.tmod 16 = n := by rw [Int.tmod_eq_emod_of_nonneg (by omega)]; exact hn
  have t2 : IntKind.u8.wrap n = n := IntWalk.u8_in _ (by omega)
  have t3 : IntKind.i64.wrap n = n := IntWalk.i64_in _ (by omega)
  obtain ⟨d, hd⟩ : ∃ d, n + 1 = d := ⟨_, rfl⟩
  have t4 : IntKind.i64.wrap (n + 1) = d := by rw [hd]; exact IntWalk.i64_in _ (by omega)
  have t5 : IntKind.i64.wrap op = op := IntWalk.i64_in _ (by omega)
  obtain ⟨e, he⟩ : ∃ e, d + 1 = e := ⟨_, rfl⟩
  have t6 : IntKind.i64.wrap (d + 1) = e := by rw [he]; exact IntWalk.i64_in _ (by omega)
  have e0 : (e == 0) = false := by rw [beq_eq_false_iff_ne]; omega
  have e0' : e ≠ 0 := by omega
  obtain ⟨o, ho⟩ : ∃ o, op % e = o := ⟨_, rfl⟩
  have o0 : 0 ≤ o := by rw [← ho]; exact Int.emod_nonneg _ e0'
  have o1 : o ≤ d := by have := Int.emod_lt_of_pos op (show 0 < e by omega); omega
  have t7 : op.tmod e = o := by rw [Int.tmod_eq_emod_of_nonneg (by omega)]; exact ho
  have t8 : IntKind.i64.wrap o = o := IntWalk.i64_in _ (by omega)
  have hm : L.May ⟨o, d⟩ := ⟨o0, o1, by simp only; omega, by simp only; omega⟩
  have k1 := (back_open o0 o1).resolve_right (by omega)
  have k2 := (back_shut o0 o1).resolve_right (by omega)
  have S1 : Hid (∀ W, Calls Try.prog 8 #[.agg #[.int .i64 o, .int .i64 d], .int .i64 1, .bool false] W (Says W (.agg #[.int .i64 (so o d 1 false), .int .i64 d]))) := Lib.hid fun W => Step_any ⟨o, d⟩ hm 1 false W
  have S2 : Hid (∀ W, Calls Try.prog 8 #[.agg #[.int .i64 (so o d 1 false), .int .i64 d], .int .i64 2, .bool false] W (Says W (.agg #[.int .i64 (so (so o d 1 false) d 2 false), .int .i64 d]))) := Lib.hid fun W => Step_any ⟨so o d 1 false, d⟩ (st_may hm 1 false) 2 false W
  have S3 : Hid (∀ W, Calls Try.prog 8 #[.agg #[.int .i64 o, .int .i64 d], .int .i64 2, .bool false] W (Says W (.agg #[.int .i64 (so o d 2 false), .int .i64 d]))) := Lib.hid fun W => Step_any ⟨o, d⟩ hm 2 false W
  have S4 : Hid (∀ W, Calls Try.prog 8 #[.agg #[.int .i64 (so o d 2 false), .int .i64 d], .int .i64 1, .bool false] W (Says W (.agg #[.int .i64 (so (so o d 2 false) d 1 false), .int .i64 d]))) := Lib.hid fun W => Step_any ⟨so o d 2 false, d⟩ (st_may hm 2 false) 1 false W
  have S5 : Hid (∀ W, Calls Try.prog 8 #[.agg #[.int .i64 o, .int .i64 d], .int .i64 0, .bool true] W (Says W (.agg #[.int .i64 o, .int .i64 d]))) := Lib.hid fun W => Step_any ⟨o, d⟩ hm 0 true W
  have S6 : Hid (∀ W, Calls Try.prog 8 #[.agg #[.int .i64 o, .int .i64 d], .int .i64 2, .bool true] W (Says W (.agg #[.int .i64 o, .int .i64 d]))) := Lib.hid fun W => Step_any ⟨o, d⟩ hm 2 true W
  have HH : Hid (∀ W, Calls Try.prog 10 #[.agg #[.int .i64 o, .int .i64 d]] W (Says W (.bool (decide (o = 0))))) := Lib.hid fun W => Shut_any ⟨o, d⟩ W
  have HW : Hid (∀ W, Calls Try.prog 11 #[.agg #[.int .i64 o, .int .i64 d]] W (Says W (.bool (decide (o = d))))) := Lib.hid fun W => Wide_any ⟨o, d⟩ W
  generalize so (so o d 1 false) d 2 false = x at *
  generalize so (so o d 2 false) d 1 false = y at *
  generalize so o d 1 false = u at *
  generalize so o d 2 false = v at *
  have k : (decide (o = d) = true ∧ ¬ x = o ∧ decide (o = 0) = false ∧ o = y) ∨ (decide (o = d) = false ∧ o = x ∧ decide (o = 0) = true ∧ ¬ y = o) ∨ (decide (o = d) = false ∧ o = x ∧ decide (o = 0) = false ∧ o = y) := by
    simp only [decide_eq_true_eq, decide_eq_false_iff_not]; omega
  clear hn hd he ho hm hop hwd o0 o1 k1 k2
  rcases k with ⟨k1, k2, k3, k4⟩ | ⟨k1, k2, k3, k4⟩ | ⟨k1, k2, k3, k4⟩
  · rw [k3] at HH
    rw [k1] at HW
    clear k1 k3
    subst k4
    go_enter Try.func6, Try.ntmps6
    go_wp2_with (first
      | (go_at_call 7; refine (HA.out _).mono ?_; clear HA; rintro e w1 ⟨rfl, h1⟩; have hj1 := Lib.hid (((J.start w).next h1).push #[.int .i64 o, .int .i64 d] 24))
      | (go_at_call 8; (with_reducible refine (S1.out _).mono ?_); clear S1; rintro e w2 ⟨rfl, h2⟩; have hj2 := Lib.hid (hj1.out.next h2); clear h2 hj1)
      | (go_at_call 8; (with_reducible refine (S2.out _).mono ?_); clear S2; rintro e w3 ⟨rfl, h3⟩; have hj3 := Lib.hid ((hj2.out.next h3).push #[.int .i64 x, .int .i64 d] 24); clear h3 hj2; obtain ⟨a0, a1⟩ := (hj3.out.bx 1 rfl).c2)
      | (go_at_call 8; (with_reducible refine (S3.out _).mono ?_); clear S3 a0 a1; rintro e w4 ⟨rfl, h4⟩; have hj4 := Lib.hid (hj3.out.next h4); clear h4 hj3)
      | (go_at_call 8; (with_reducible refine (S4.out _).mono ?_); clear S4; rintro e w5 ⟨rfl, h5⟩; have hj5 : Hid (JS w _ _) := Lib.hid ((hj4.out.next h5).push #[.int .i64 o, .int .i64 d] 24); clear h5 hj4))
    refine wp_region_all _ JS.closed hj5.out (by kernel_rfl) (by kernel_rfl) ?_
    apply Exists.intro
    refine ⟨fun w6 h6 => ?_, fun W6 hJ6 hb6 => ?_⟩
    · haveI := Ext.some h6
      obtain ⟨q0, q1⟩ := ext2 h6 0 rfl
      obtain ⟨r0, r1⟩ := ext2 h6 1 rfl
      obtain ⟨s0, s1⟩ := ext2 h6 2 rfl
      have cH := Lib.hid (Ext.calls h6 JS.closed (fun W _ => HH.out W))
      have cW := Lib.hid (Ext.calls h6 JS.closed (fun W _ => HW.out W))
      have c5 := Lib.hid (Ext.calls h6 JS.closed (fun W _ => S5.out W))
      have c6 := Lib.hid (Ext.calls h6 JS.closed (fun W _ => S6.out W))
      repeat go_big_quiet_step (first | (go_at_call 8; first | with_reducible exact c5.out _ | with_reducible exact c6.out _) | (go_at_call 10; with_reducible exact cH.out _) | (go_at_call 11; with_reducible exact cW.out _))
      exact wpQuiet_nil rfl
    · go_wp2
      go_ret
      exact ⟨rfl, J.below hJ6⟩
  · rw [k3] at HH
    rw [k1] at HW
    clear k1 k3
    subst k2
    go_enter Try.func6, Try.ntmps6
    go_wp2_with (first
      | (go_at_call 7; refine (HA.out _).mono ?_; clear HA; rintro e w1 ⟨rfl, h1⟩; have hj1 := Lib.hid (((J.start w).next h1).push #[.int .i64 o, .int .i64 d] 24))
      | (go_at_call 8; (with_reducible refine (S1.out _).mono ?_); clear S1; rintro e w2 ⟨rfl, h2⟩; have hj2 := Lib.hid (hj1.out.next h2); clear h2 hj1)
      | (go_at_call 8; (with_reducible refine (S2.out _).mono ?_); clear S2; rintro e w3 ⟨rfl, h3⟩; have hj3 := Lib.hid ((hj2.out.next h3).push #[.int .i64 o, .int .i64 d] 24); clear h3 hj2; obtain ⟨a0, a1⟩ := (hj3.out.bx 1 rfl).c2)
      | (go_at_call 8; (with_reducible refine (S3.out _).mono ?_); clear S3 a0 a1; rintro e w4 ⟨rfl, h4⟩; have hj4 := Lib.hid (hj3.out.next h4); clear h4 hj3)
      | (go_at_call 8; (with_reducible refine (S4.out _).mono ?_); clear S4; rintro e w5 ⟨rfl, h5⟩; have hj5 : Hid (JS w _ _) := Lib.hid ((hj4.out.next h5).push #[.int .i64 y, .int .i64 d] 24); clear h5 hj4))
    refine wp_region_all _ JS.closed hj5.out (by kernel_rfl) (by kernel_rfl) ?_
    apply Exists.intro
    refine ⟨fun w6 h6 => ?_, fun W6 hJ6 hb6 => ?_⟩
    · haveI := Ext.some h6
      obtain ⟨q0, q1⟩ := ext2 h6 0 rfl
      obtain ⟨r0, r1⟩ := ext2 h6 1 rfl
      obtain ⟨s0, s1⟩ := ext2 h6 2 rfl
      have cH := Lib.hid (Ext.calls h6 JS.closed (fun W _ => HH.out W))
      have cW := Lib.hid (Ext.calls h6 JS.closed (fun W _ => HW.out W))
      have c5 := Lib.hid (Ext.calls h6 JS.closed (fun W _ => S5.out W))
      have c6 := Lib.hid (Ext.calls h6 JS.closed (fun W _ => S6.out W))
      repeat go_big_quiet_step (first | (go_at_call 8; first | with_reducible exact c5.out _ | with_reducible exact c6.out _) | (go_at_call 10; with_reducible exact cH.out _) | (go_at_call 11; with_reducible exact cW.out _))
      exact wpQuiet_nil rfl
    · go_wp2
      go_ret
      exact ⟨rfl, J.below hJ6⟩
  · rw [k3] at HH
    rw [k1] at HW
    clear k1 k3
    subst k2
    subst k4
    go_enter Try.func6, Try.ntmps6
    go_wp2_with (first
      | (go_at_call 7; refine (HA.out _).mono ?_; clear HA; rintro e w1 ⟨rfl, h1⟩; have hj1 := Lib.hid (((J.start w).next h1).push #[.int .i64 o, .int .i64 d] 24))
      | (go_at_call 8; (with_reducible refine (S1.out _).mono ?_); clear S1; rintro e w2 ⟨rfl, h2⟩; have hj2 := Lib.hid (hj1.out.next h2); clear h2 hj1)
      | (go_at_call 8; (with_reducible refine (S2.out _).mono ?_); clear S2; rintro e w3 ⟨rfl, h3⟩; have hj3 := Lib.hid ((hj2.out.next h3).push #[.int .i64 o, .int .i64 d] 24); clear h3 hj2; obtain ⟨a0, a1⟩ := (hj3.out.bx 1 rfl).c2)
      | (go_at_call 8; (with_reducible refine (S3.out _).mono ?_); clear S3 a0 a1; rintro e w4 ⟨rfl, h4⟩; have hj4 := Lib.hid (hj3.out.next h4); clear h4 hj3)
      | (go_at_call 8; (with_reducible refine (S4.out _).mono ?_); clear S4; rintro e w5 ⟨rfl, h5⟩; have hj5 : Hid (JS w _ _) := Lib.hid ((hj4.out.next h5).push #[.int .i64 o, .int .i64 d] 24); clear h5 hj4))
    refine wp_region_all _ JS.closed hj5.out (by kernel_rfl) (by kernel_rfl) ?_
    apply Exists.intro
    refine ⟨fun w6 h6 => ?_, fun W6 hJ6 hb6 => ?_⟩
    · haveI := Ext.some h6
      obtain ⟨q0, q1⟩ := ext2 h6 0 rfl
      obtain ⟨r0, r1⟩ := ext2 h6 1 rfl
      obtain ⟨s0, s1⟩ := ext2 h6 2 rfl
      have cH := Lib.hid (Ext.calls h6 JS.closed (fun W _ => HH.out W))
      have cW := Lib.hid (Ext.calls h6 JS.closed (fun W _ => HW.out W))
      have c5 := Lib.hid (Ext.calls h6 JS.closed (fun W _ => S5.out W))
      have c6 := Lib.hid (Ext.calls h6 JS.closed (fun W _ => S6.out W))
      repeat go_big_quiet_step (first | (go_at_call 8; first | with_reducible exact c5.out _ | with_reducible exact c6.out _) | (go_at_call 10; with_reducible exact cH.out _) | (go_at_call 11; with_reducible exact cW.out _))
      exact wpQuiet_nil rfl
    · go_wp2
      go_ret
      exact ⟨rfl, J.below hJ6⟩

end Go.Proofs.Ytnkdfebfniamoaa.Walk
