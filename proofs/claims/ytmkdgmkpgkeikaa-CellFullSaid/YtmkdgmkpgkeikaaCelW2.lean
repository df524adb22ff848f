/- The walks of CellBack, CellFull. -/
import Derived.Test.YtmkdgmkpgkeikaaCelC
import Derived.OpenShut
import Derived.Laws.StructEq
namespace Go.Proofs.Ytmkdgmkpgkeikaa.Walk
open Go.RowKit Go.ChangeShapes Go.Proofs.Ytmkdgmkpgkeikaa.CelP Go.Proofs.Ytmkdgmkpgkeikaa.Cel Go.Proofs.Ytmkdgmkpgkeikaa.Box Go.Proofs.Ytmkdgmkpgkeikaa.Held
set_option linter.unusedVariables false

set_option maxRecDepth 100000 in
set_option maxHeartbeats 6400000 in
theorem cellBack_walk (w : World) (h a b : Int) (w0 : (Lit.int .u16 h).wf = true) (w1 : (Lit.int .u16 a).wf = true) (w2 : (Lit.int .u16 b).wf = true) : Calls Try.prog 5 #[.int .u16 h, .int .u16 a, .int .u16 b] w fun e w' => e = .returned (.bool true) ∧ Below w.heap.size w w' := by
  have hh := bounds_u16 w0
  have ha := bounds_u16 w1
  have hb := bounds_u16 w2
  clear w0 w1 w2
  have HA : Hid (∀ W, Calls Try.prog 7 #[] W (Says W (.bool true))) := Lib.hid fun W => awake_any W
  have t1 : IntKind.i64.wrap h = h := IntWalk.i64_in _ (by omega)
  have t2 : IntKind.i64.wrap a = a := IntWalk.i64_in _ (by omega)
  have t3 : IntKind.i64.wrap b = b := IntWalk.i64_in _ (by omega)
  have hm : K.May ⟨h, 65535⟩ := ⟨by simp only; omega, by simp only; omega, by simp only; omega⟩
  have HS : ∀ n, 0 ≤ n → ∀ W, Calls Try.prog 8 #[.agg #[.int .i64 h, .int .i64 65535], .int .i64 n] W (Says W (.tuple #[.agg #[.int .i64 (if n ≤ h then h - n else h), .int .i64 65535], .bool (decide (n ≤ h))])) := fun n h0 W => by
    have := Spend_any ⟨h, 65535⟩ hm n W
    unfold val sp at this
    rw [am_id h0] at this
    by_cases k : n ≤ h
    · rw [if_pos k] at this ⊢; exact this
    · rw [if_neg k] at this ⊢; exact this
  have k0 : (h == h) = true := by simp
  by_cases k : a ≤ h
  · have hd : K.May ⟨h - a, 65535⟩ := ⟨by simp only; omega, by simp only; omega, by simp only; omega⟩
    have S1 : Hid (∀ W, Calls Try.prog 8 #[.agg #[.int .i64 h, .int .i64 65535], .int .i64 a] W (Says W (.tuple #[.agg #[.int .i64 (h - a), .int .i64 65535], .bool true]))) := Lib.hid fun W => by
      have := HS a (by omega) W; rwa [if_pos k, decide_eq_true k] at this
    have F1 : Hid (∀ W, Calls Try.prog 10 #[.agg #[.int .i64 (h - a), .int .i64 65535], .int .i64 a] W (Says W (.agg #[.int .i64 h, .int .i64 65535]))) := Lib.hid fun W => by
      have := Fill_any ⟨h - a, 65535⟩ hd a W
      unfold val fl fi at this
      simp only at this
      rwa [am_id (by omega), show min (h - a + a) 65535 = h by omega] at this
    have S2 : ∃ e two, (two = true ∧ e = h - (a + b) ∨ two = false) ∧ (∀ W, Calls Try.prog 8 #[.agg #[.int .i64 (h - a), .int .i64 65535], .int .i64 b] W (Says W (.tuple #[.agg #[.int .i64 e, .int .i64 65535], .bool two]))) ∧ two = decide (a + b ≤ h) := by
      refine ⟨_, _, ?_, fun W => by have := Spend_any ⟨h - a, 65535⟩ hd b W; unfold val at this; rwa [show (sp ⟨h - a, 65535⟩ b).f = 65535 by unfold sp; split <;> rfl] at this, ?_⟩
      · by_cases k2 : b ≤ h - a
        · left; unfold sp; simp only; rw [am_id (by omega), if_pos k2]; exact ⟨by simpa using k2, by simp only; omega⟩
        · right; simp only; rw [am_id (by omega)]; simpa using k2
      · simp only; rw [am_id (by omega), decide_eq_decide]; omega
    obtain ⟨e, two, he, S2, htwo⟩ := S2
    have S2 := Lib.hid S2
    obtain ⟨s, hs⟩ : ∃ s, a + b = s := ⟨_, rfl⟩
    have t4 : IntKind.i64.wrap (a + b) = s := by rw [hs]; exact IntWalk.i64_in _ (by omega)
    have S3 : Hid (∀ W, Calls Try.prog 8 #[.agg #[.int .i64 h, .int .i64 65535], .int .i64 s] W (Says W (.tuple #[.agg #[.int .i64 (if s ≤ h then h - s else h), .int .i64 65535], .bool two]))) := Lib.hid fun W => by
      have := HS s (by omega) W; rw [hs] at htwo; rwa [← htwo] at this
    have C3 : Hid (∀ W, Calls Try.prog 12 #[.agg #[.int .i64 h, .int .i64 65535], .int .i64 s] W (Says W (.bool two))) := Lib.hid fun W => by
      have := Can_any ⟨h, 65535⟩ s W; rw [am_id (by omega)] at this; rw [hs] at htwo; rw [htwo]; exact this
    have he2 : two = true → e = if s ≤ h then h - s else h := fun ht => by
      rcases he with ⟨_, h2⟩ | h2
      · rw [if_pos (by rw [ht, eq_comm, decide_eq_true_eq] at htwo; omega), h2]; omega
      · rw [ht] at h2; cases h2
    clear hd hm HS he htwo hs hh ha hb k
    generalize (if s ≤ h then h - s else h) = f at *
    generalize h - a = d at *
    cases two with
    | true =>
      obtain rfl := he2 rfl
      have k1 : (e == e) = true := by simp
      clear he2
      go_enter Try.func5, Try.ntmps5
      go_wp2_with (first
        | (go_at_call 7; refine (HA.out _).mono ?_; clear HA; rintro e1 w1 ⟨rfl, h1⟩; have hj1 := Lib.hid (((J.start w).next h1).push #[.int .i64 h, .int .i64 65535] 25); clear h1)
        | (go_at_call 8; (with_reducible refine (S1.out _).mono ?_); clear S1; rintro e1 w2 ⟨rfl, h2⟩; have hj2 := Lib.hid ((hj1.out.next h2).push #[.int .i64 d, .int .i64 65535] 25); clear h2)
        | (go_at_call 8; (with_reducible refine (S2.out _).mono ?_); clear S2; rintro e1 w3 ⟨rfl, h3⟩; have hj3 := Lib.hid ((hj2.out.next h3).push #[.int .i64 e, .int .i64 65535] 25); clear h3; obtain ⟨a0, a1⟩ := (hj3.out.bx 2 rfl).c2)
        | (go_at_call 8; (with_reducible refine (S3.out _).mono ?_); clear S3 a0 a1; rintro e1 w4 ⟨rfl, h4⟩; have hj4 : Hid (JS w _ _) := Lib.hid ((hj3.out.next h4).push #[.int .i64 e, .int .i64 65535] 25); clear h4))
      refine wp_region_all _ JS.closed hj4.out (by kernel_rfl) (by kernel_rfl) ?_
      apply Exists.intro
      refine ⟨fun w5 h5 => ?_, fun W5 hJ5 hb5 => ?_⟩
      · haveI := Ext.some h5
        obtain ⟨q0, q1⟩ := ext2 h5 0 rfl
        obtain ⟨r0, r1⟩ := ext2 h5 1 rfl
        obtain ⟨s0, s1⟩ := ext2 h5 2 rfl
        obtain ⟨u0, u1⟩ := ext2 h5 3 rfl
        have cF := Lib.hid (Ext.calls h5 JS.closed (fun W _ => F1.out W))
        have cC := Lib.hid (Ext.calls h5 JS.closed (fun W _ => C3.out W))
        repeat go_big_quiet_step (first | (go_at_call 10; with_reducible exact cF.out _) | (go_at_call 12; with_reducible exact cC.out _))
        exact wpQuiet_nil rfl
      · go_wp2
        go_ret
        exact ⟨rfl, J.below hJ5⟩
    | false =>
      clear he2
      go_enter Try.func5, Try.ntmps5
      go_wp2_with (first
        | (go_at_call 7; refine (HA.out _).mono ?_; clear HA; rintro e1 w1 ⟨rfl, h1⟩; have hj1 := Lib.hid (((J.start w).next h1).push #[.int .i64 h, .int .i64 65535] 25); clear h1)
        | (go_at_call 8; (with_reducible refine (S1.out _).mono ?_); clear S1; rintro e1 w2 ⟨rfl, h2⟩; have hj2 := Lib.hid ((hj1.out.next h2).push #[.int .i64 d, .int .i64 65535] 25); clear h2)
        | (go_at_call 8; (with_reducible refine (S2.out _).mono ?_); clear S2; rintro e1 w3 ⟨rfl, h3⟩; have hj3 := Lib.hid ((hj2.out.next h3).push #[.int .i64 e, .int .i64 65535] 25); clear h3; obtain ⟨a0, a1⟩ := (hj3.out.bx 2 rfl).c2)
        | (go_at_call 8; (with_reducible refine (S3.out _).mono ?_); clear S3 a0 a1; rintro e1 w4 ⟨rfl, h4⟩; have hj4 : Hid (JS w _ _) := Lib.hid ((hj3.out.next h4).push #[.int .i64 f, .int .i64 65535] 25); clear h4))
      refine wp_region_all _ JS.closed hj4.out (by kernel_rfl) (by kernel_rfl) ?_
      apply Exists.intro
      refine ⟨fun w5 h5 => ?_, fun W5 hJ5 hb5 => ?_⟩
      · haveI := Ext.some h5
        obtain ⟨q0, q1⟩ := ext2 h5 0 rfl
        obtain ⟨r0, r1⟩ := ext2 h5 1 rfl
        obtain ⟨s0, s1⟩ := ext2 h5 2 rfl
        obtain ⟨u0, u1⟩ := ext2 h5 3 rfl
        have cF := Lib.hid (Ext.calls h5 JS.closed (fun W _ => F1.out W))
        have cC := Lib.hid (Ext.calls h5 JS.closed (fun W _ => C3.out W))
        repeat go_big_quiet_step (first | (go_at_call 10; with_reducible exact cF.out _) | (go_at_call 12; with_reducible exact cC.out _))
        exact wpQuiet_nil rfl
      · go_wp2
        go_ret
        exact ⟨rfl, J.below hJ5⟩
  · have S1 : Hid (∀ W, Calls Try.prog 8 #[.agg #[.int .i64 h, .int .i64 65535], .int .i64 a] W (Says W (.tuple #[.agg #[.int .i64 h, .int .i64 65535], .bool false]))) := Lib.hid fun W => by
      have := HS a (by omega) W; rwa [if_neg k, decide_eq_false k] at this
    have k3 : h < a := by omega
    clear HS hm hh ha hb k
    go_enter Try.func5, Try.ntmps5
    go_wp2_with (first
      | (go_at_call 7; refine (HA.out _).mono ?_; clear HA; rintro e1 w1 ⟨rfl, h1⟩; have hj1 := Lib.hid (((J.start w).next h1).push #[.int .i64 h, .int .i64 65535] 25); clear h1)
      | (go_at_call 8; (with_reducible refine (S1.out _).mono ?_); clear S1; rintro e1 w2 ⟨rfl, h2⟩; have hj2 := Lib.hid ((hj1.out.next h2).push #[.int .i64 h, .int .i64 65535] 25); clear h2; obtain ⟨a0, a1⟩ := (hj2.out.bx 1 rfl).c2))
    go_ret
    exact ⟨rfl, hj2.out.below⟩

set_option maxRecDepth 100000 in
set_option maxHeartbeats 6400000 in
theorem cellFull_walk (w : World) (hv f n : Int) (w0 : (Lit.int .u16 hv).wf = true) (w1 : (Lit.int .u16 f).wf = true) (w2 : (Lit.int .i64 n).wf = true) : Calls Try.prog 6 #[.int .u16 hv, .int .u16 f, .int .i64 n] w fun e w' => e = .returned (.bool true) ∧ Below w.heap.size w w' := by
  have hh := bounds_u16 w0
  have hf := bounds_u16 w1
  clear w0 w1 w2
  have HA : Hid (∀ W, Calls Try.prog 7 #[] W (Says W (.bool true))) := Lib.hid fun W => awake_any W
  have t3 : IntKind.i64.wrap f = f := IntWalk.i64_in _ (by omega)
  obtain ⟨g, hg⟩ : ∃ g, f + 1 = g := ⟨_, rfl⟩
  have t4 : IntKind.i64.wrap (f + 1) = g := by rw [hg]; exact IntWalk.i64_in _ (by omega)
  have t5 : IntKind.i64.wrap hv = hv := IntWalk.i64_in _ (by omega)
  have g0 : (g == 0) = false := by rw [beq_eq_false_iff_ne]; omega
  have g0' : g ≠ 0 := by omega
  obtain ⟨h, ho⟩ : ∃ h, hv % g = h := ⟨_, rfl⟩
  have o0 : 0 ≤ h := by rw [← ho]; exact Int.emod_nonneg _ g0'
  have o1 : h ≤ f := by have := Int.emod_lt_of_pos hv (show 0 < g by omega); omega
  have t7 : hv.tmod g = h := by rw [Int.tmod_eq_emod_of_nonneg (by omega)]; exact ho
  have t8 : IntKind.i64.wrap h = h := IntWalk.i64_in _ (by omega)
  have hm : K.May ⟨h, f⟩ := ⟨o0, o1, by simp only; omega⟩
  have HF : Hid (∀ W, Calls Try.prog 10 #[.agg #[.int .i64 h, .int .i64 f], .int .i64 n] W (Says W (.agg #[.int .i64 (fi h f n), .int .i64 f]))) := Lib.hid fun W => Fill_any ⟨h, f⟩ hm n W
  obtain ⟨y, hy⟩ : ∃ y, fi h f n = y := ⟨_, rfl⟩
  rw [hy] at HF
  unfold fi at hy
  by_cases k : n ≤ 0
  · rw [am_no k] at hy
    obtain rfl : h = y := by omega
    have k1 : (h == h) = true := by simp
    have k2 : (f == f) = true := by simp
    clear hy hm o0 o1 hh hf hg ho
    go_enter Try.func6, Try.ntmps6
    go_wp2_with (first
      | (go_at_call 7; refine (HA.out _).mono ?_; clear HA; rintro e1 w1 ⟨rfl, h1⟩; have hj1 := Lib.hid (((J.start w).next h1).push #[.int .i64 h, .int .i64 f] 25); clear h1)
      | (go_at_call 10; (with_reducible refine (HF.out _).mono ?_); clear HF; rintro e1 w2 ⟨rfl, h2⟩; have hj2 := Lib.hid ((hj1.out.next h2).push #[.int .i64 h, .int .i64 f] 25); clear h2; obtain ⟨a0, a1⟩ := (hj2.out.bx 1 rfl).c2))
    go_ret
    exact ⟨rfl, hj2.out.below⟩
  · rw [am_id (by omega)] at hy
    have C1 : Hid (∀ W, Calls Try.prog 12 #[.agg #[.int .i64 y, .int .i64 f], .int .i64 y] W (Says W (.bool true))) := Lib.hid fun W => by
      have := Can_any ⟨y, f⟩ y W; rwa [am_id (by omega), show decide (y ≤ K.h ⟨y, f⟩) = true by simp] at this
    obtain ⟨y1, hy1⟩ : ∃ y1, y + 1 = y1 := ⟨_, rfl⟩
    have u1 : IntKind.i64.wrap (y + 1) = y1 := by rw [hy1]; exact IntWalk.i64_in _ (by omega)
    have C2 : Hid (∀ W, Calls Try.prog 12 #[.agg #[.int .i64 y, .int .i64 f], .int .i64 y1] W (Says W (.bool false))) := Lib.hid fun W => by
      have := Can_any ⟨y, f⟩ y1 W; rwa [am_id (by omega), show decide (y1 ≤ K.h ⟨y, f⟩) = false by simp; omega] at this
    obtain ⟨r, hr⟩ : ∃ r, f - h = r := ⟨_, rfl⟩
    have u2 : IntKind.i64.wrap (f - h) = r := by rw [hr]; exact IntWalk.i64_in _ (by omega)
    have u3 : h ≤ y := by omega
    have k2 : (f == f) = true := by simp
    have key : decide (n < r) = true ∨ (decide (n < r) = false ∧ (y == f) = true) := by
      rw [decide_eq_true_eq, decide_eq_false_iff_not, beq_iff_eq]; omega
    clear hy hm hh hf hg ho hy1 hr
    rcases key with key | ⟨key, key2⟩
    all_goals
      go_enter Try.func6, Try.ntmps6
      go_wp2_with (first
        | (go_at_call 7; refine (HA.out _).mono ?_; clear HA; rintro e1 w1 ⟨rfl, h1⟩; have hj1 := Lib.hid (((J.start w).next h1).push #[.int .i64 h, .int .i64 f] 25); clear h1)
        | (go_at_call 10; (with_reducible refine (HF.out _).mono ?_); clear HF; rintro e1 w2 ⟨rfl, h2⟩; have hj2 := Lib.hid ((hj1.out.next h2).push #[.int .i64 y, .int .i64 f] 25); clear h2; obtain ⟨a0, a1⟩ := (hj2.out.bx 1 rfl).c2)
        | (go_at_call 12; (with_reducible refine (C1.out _).mono ?_); clear C1 a0 a1; rintro e1 w3 ⟨rfl, h3⟩; have hj3 := Lib.hid (hj2.out.next h3); clear h3; obtain ⟨a0, a1⟩ := (hj3.out.bx 0 rfl).c2)
        | (go_at_call 12; (with_reducible refine (C2.out _).mono ?_); clear C2; rintro e1 w4 ⟨rfl, h4⟩; have hj4 := Lib.hid (hj3.out.next h4)))
      go_ret
      exact ⟨rfl, hj4.out.below⟩

end Go.Proofs.Ytmkdgmkpgkeikaa.Walk
