/- The walks of PlanTells, PlanBrakes, PlanLeast, PlanRest, PlanFaster. -/
import Derived.Test.YtfmefjpojnbdeaaPlaE
import Derived.OpenShut
namespace Go.Proofs.Ytfmefjpojnbdeaa.Walk
open Go.RowKit Go.ChangeShapes Go.Proofs.Ytfmefjpojnbdeaa.PlaP Go.Proofs.Ytfmefjpojnbdeaa.Pla
set_option linter.unusedVariables false

set_option maxHeartbeats 1600000 in
theorem planTells_walk (w : World) (s l m : Int) (_w0 : (Lit.int .i64 s).wf = true) (_w1 : (Lit.int .i64 l).wf = true) (_w2 : (Lit.int .i64 m).wf = true) : Calls Try.prog 3 #[.int .i64 s, .int .i64 l, .int .i64 m] w fun e w' => e = .returned (.bool true) ∧ Below w.heap.size w w' := by
  clear _w0 _w1 _w2
  have H1 := Lib.hid (fun W => Stop_any s W)
  have H2 := Lib.hid (fun W => refStop_any s W)
  have H3 := Lib.hid (fun W => Next_any s l m W)
  have H4 := Lib.hid (fun W => refNext_any s l m W)
  have H5 := Lib.hid (fun W => Ticks_any l m W)
  have H6 := Lib.hid (fun W => refTicks_any l m W)
  generalize St s = x at *
  generalize Nx s l m = y at *
  generalize Tk l m = z at *
  have e1 : (x == x) = true := by simp
  have e2 : (y == y) = true := by simp
  have e3 : (z == z) = true := by simp
  go_enter Try.func3, Try.ntmps3
  go_wp2_with (first
    | (go_at_call 9; refine (awake_any _).mono ?_; rintro e w1 ⟨rfl, h1⟩)
    | (go_at_call 10; refine (H1.out _).mono ?_; rintro e w2 ⟨rfl, rfl⟩)
    | (go_at_call 11; refine (H2.out _).mono ?_; rintro e w2 ⟨rfl, rfl⟩)
    | (go_at_call 12; refine (H3.out _).mono ?_; rintro e w3 ⟨rfl, h3⟩)
    | (go_at_call 13; refine (H4.out _).mono ?_; rintro e w3 ⟨rfl, rfl⟩)
    | (go_at_call 14; refine (H5.out _).mono ?_; rintro e w4 ⟨rfl, h4⟩)
    | (go_at_call 15; refine (H6.out _).mono ?_; rintro e w4 ⟨rfl, rfl⟩))
  go_ret
  exact ⟨rfl, below_says (below_says h1 h3) h4⟩

theorem ret_bool {a b : Bool} (h : a = b) : Ending.returned (.bool a) = .returned (.bool b) := by rw [h]
theorem St_id {v : Int} (v0 : 0 ≤ v) (v8 : v ≤ 8) : St v = st v := by unfold St; rw [cl_id v0 v8]

/-- what a law does ahead of all else -/
theorem mod_u8 {a : Int} (h : (Lit.int .u8 a).wf = true) {n : Int} (hn : 0 < n) : 0 ≤ a % n ∧ a % n < n := ⟨Int.emod_nonneg _ (by omega), Int.emod_lt_of_pos _ hn⟩

set_option maxHeartbeats 1600000 in
theorem planBrakes_walk (w : World) (a b c : Int) (w0 : (Lit.int .u8 a).wf = true) (w1 : (Lit.int .u16 b).wf = true) (w2 : (Lit.int .u8 c).wf = true) : Calls Try.prog 6 #[.int .u8 a, .int .u16 b, .int .u8 c] w fun e w' => e = .returned (.bool true) ∧ Below w.heap.size w w' := by
  have ha := bounds_u8 w0
  have hb := bounds_u16 w1
  have hc := bounds_u8 w2
  clear w0 w1 w2
  have v0 : 0 ≤ a % 9 := by omega
  have v8 : a % 9 ≤ 8 := by omega
  have l0 : 0 ≤ b % 1001 := by omega
  have l1 : b % 1001 ≤ 1000 := by omega
  have m0 : 0 ≤ c % 8 := by omega
  have m7 : c % 8 ≤ 7 := by omega
  have m1 : 1 ≤ c % 8 + 1 := by omega
  have m8 : c % 8 + 1 ≤ 8 := by omega
  have H1 := Lib.hid (fun W => Stop_any (a % 9) W)
  have hst := st_le v0 v8
  have HN := Lib.hid (fun W => Next_any (a % 9) (b % 1001) (c % 8 + 1) W)
  have hfa := nx_facts v0 v8 l0 m1 m8
  rw [Nx_id v0 v8 l0 l1 m1 m8] at HN
  rw [St_id v0 v8] at H1
  generalize st (a % 9) = z at *
  have hfin : Hid (∀ x y : Int, nx (a % 9) (b % 1001) (c % 8 + 1) = x → st x = y → ¬ (b % 1001 < z ∨ c % 8 + 1 < a % 9) → a % 9 - 1 ≤ x ∧ x ≤ a % 9 + 1 ∧ x ≤ c % 8 + 1 ∧ x ≤ b % 1001 ∧ y ≤ b % 1001 - x ∧ (b % 1001 = 0 ∨ 0 < x) ∧ 0 ≤ x ∧ x ≤ 9) := Lib.hid fun x y hx hy hn => by
    subst hx; subst hy
    obtain ⟨f1, f2, f3⟩ := hfa
    obtain ⟨f4, f5, f6, f7⟩ := f3 (by omega) (by omega)
    have hsx := st_le f1 (by omega)
    exact ⟨f4, f5, f2, by omega, by omega, f7, f1, by omega⟩
  have hx0 := hfa.1
  have hx8 := hfa.2.1
  have H2 := Lib.hid (fun W => Stop_any (nx (a % 9) (b % 1001) (c % 8 + 1)) W)
  rw [St_id hx0 (by omega)] at H2
  obtain ⟨x, hx⟩ : ∃ x, nx (a % 9) (b % 1001) (c % 8 + 1) = x := ⟨_, rfl⟩
  obtain ⟨y, hy⟩ : ∃ y, st x = y := ⟨_, rfl⟩
  have hfi := Lib.hid (hfin.out x y hx hy)
  rw [hx] at HN H2
  rw [hy] at H2
  clear hfin hfa hx hy hx0 hx8
  by_cases t : b % 1001 < z ∨ c % 8 + 1 < a % 9
  · rcases (show b % 1001 < z ∨ (z ≤ b % 1001 ∧ c % 8 + 1 < a % 9) by omega) with t1 | ⟨t1, t2⟩
    all_goals
      clear t hfi
      go_enter Try.func6, Try.ntmps6
      go_wp2_with (first
        | (go_at_call 9; refine (awake_any _).mono ?_; rintro e w1 ⟨rfl, h1⟩)
        | (go_at_call 10; refine (H1.out _).mono ?_; clear H1; rintro e w2 ⟨rfl, rfl⟩))
      go_ret
      exact ⟨rfl, h1⟩
  · obtain ⟨f1, f2, f3, f4, f5, f6, f7, f8⟩ := hfi.out t
    have gb : Hid ((b % 1001 == 0 || decide (0 < x)) = true) := Lib.hid (by rcases f6 with h | h <;> simp [h])
    go_enter Try.func6, Try.ntmps6
    go_wp2_with (first
      | (go_at_call 9; refine (awake_any _).mono ?_; rintro e w1 ⟨rfl, h1⟩)
      | (go_at_call 10; refine (H1.out _).mono ?_; clear H1; rintro e w2 ⟨rfl, rfl⟩)
      | (go_at_call 12; refine (HN.out _).mono ?_; rintro e w3 ⟨rfl, h3⟩)
      | (go_at_call 10; refine (H2.out _).mono ?_; rintro e w2 ⟨rfl, rfl⟩))
    all_goals
      go_ret
      exact ⟨ret_bool (by first | rfl | exact gb.out | (simp; omega)), below_says h1 h3⟩

set_option maxHeartbeats 1600000 in
theorem planLeast_walk (w : World) (b c : Int) (w1 : (Lit.int .u16 b).wf = true) (w2 : (Lit.int .u8 c).wf = true) : Calls Try.prog 7 #[.int .u16 b, .int .u8 c] w fun e w' => e = .returned (.bool true) ∧ Below w.heap.size w w' := by
  have hb := bounds_u16 w1
  have hc := bounds_u8 w2
  clear w1 w2
  have l0 : 0 ≤ b % 1001 := by omega
  have l1 : b % 1001 ≤ 1000 := by omega
  have m0 : 0 ≤ c % 8 := by omega
  have m7 : c % 8 ≤ 7 := by omega
  have m1 : 1 ≤ c % 8 + 1 := by omega
  have m8 : c % 8 + 1 ≤ 8 := by omega
  have H1 := Lib.hid (fun W => Ticks_any (b % 1001) (c % 8 + 1) W)
  have H2 := Lib.hid (fun W => Ticks_any (b % 1001) 1 W)
  rw [Tk_S l0 l1 m1 m8] at H1
  rw [Tk_S l0 l1 (by omega) (by omega), S_one l0] at H2
  have hle := S_le (b % 1001).toNat (Safe.new m1 m8 l0) (by omega)
  generalize S (c % 8 + 1) 0 (b % 1001) = t at *
  obtain ⟨p, hp⟩ : ∃ p, (t : Int) * (c % 8 + 1) = p := ⟨_, rfl⟩
  have hpl : p ≤ 9000 := by
    rw [← hp]
    exact Int.le_trans (Int.mul_le_mul (show (t : Int) ≤ 1000 by omega) m8 (by omega) (by omega)) (by omega)
  rw [hp] at hle
  obtain ⟨hle1, hle2, hle3⟩ := hle
  have e1 : IntKind.i64.wrap ((t : Int) * (c % 8 + 1)) = p := by rw [hp]; exact IntWalk.i64_in _ (by omega)
  have e2 : ((b % 1001 == 0) == ((t : Int) == 0)) = true := by
    have hor : b % 1001 = 0 ∧ t = 0 ∨ 0 < b % 1001 ∧ 0 < t := by
      by_cases h : 0 < b % 1001
      · exact .inr ⟨h, hle3 h⟩
      · exact .inl ⟨by omega, by omega⟩
    rcases hor with ⟨h, k⟩ | ⟨h, k⟩
    · rw [h, k]; rfl
    · rw [beq_eq_false_iff_ne.2 (show b % 1001 ≠ 0 by omega), beq_eq_false_iff_ne.2 (show (t : Int) ≠ 0 by omega)]; rfl
  have E2 := Lib.hid e2
  clear hp hle3 e2
  generalize (t : Int) = t at *
  go_enter Try.func7, Try.ntmps7
  go_wp2_with (first
    | (go_at_call 9; refine (awake_any _).mono ?_; rintro e w1 ⟨rfl, h1⟩)
    | (go_at_call 14; refine (H1.out _).mono ?_; clear H1; rintro e w2 ⟨rfl, h2⟩)
    | (go_at_call 14; refine (H2.out _).mono ?_; rintro e w3 ⟨rfl, h3⟩))
  all_goals
    go_ret
    exact ⟨ret_bool (by first | rfl | exact E2.out | (simp; omega)), below_says (below_says h1 h2) h3⟩

set_option maxHeartbeats 1600000 in
theorem planRest_walk (w : World) (b c : Int) (w1 : (Lit.int .u16 b).wf = true) (w2 : (Lit.int .u8 c).wf = true) : Calls Try.prog 8 #[.int .u16 b, .int .u8 c] w fun e w' => e = .returned (.bool true) ∧ Below w.heap.size w w' := by
  have hb := bounds_u16 w1
  have hc := bounds_u8 w2
  clear w1 w2
  have l0 : 0 ≤ b % 1001 := by omega
  have l1 : b % 1001 ≤ 1000 := by omega
  have m0 : 0 ≤ c % 8 := by omega
  have m7 : c % 8 ≤ 7 := by omega
  have m1 : 1 ≤ c % 8 + 1 := by omega
  have m8 : c % 8 + 1 ≤ 8 := by omega
  by_cases hz : b % 1001 = 0
  · have H1 := Lib.hid (fun W => Next_any 0 0 (c % 8 + 1) W)
    have H2 := Lib.hid (fun W => Next_any 1 0 (c % 8 + 1) W)
    rw [Nx_id (by omega) (by omega) (by omega) (by omega) m1 m8, nx_end (by omega) (by omega) m1 m8] at H1 H2
    go_enter Try.func8, Try.ntmps8
    go_wp2_with (first
      | (go_at_call 9; refine (awake_any _).mono ?_; rintro e w1 ⟨rfl, h1⟩)
      | (go_at_call 12; refine (H1.out _).mono ?_; clear H1; rintro e w2 ⟨rfl, h2⟩)
      | (go_at_call 12; refine (H2.out _).mono ?_; rintro e w3 ⟨rfl, h3⟩))
    go_ret
    exact ⟨rfl, below_says (below_says h1 h2) h3⟩
  · have H1 := Lib.hid (fun W => Next_any 0 (b % 1001) (c % 8 + 1) W)
    have H2 := Lib.hid (fun W => Next_any (c % 8 + 1) (b % 1001) (c % 8 + 1) W)
    have H3 := Lib.hid (fun W => Stop_any (c % 8 + 1) W)
    rw [St_id (by omega) m8] at H3
    rw [Nx_id (by omega) (by omega) l0 l1 m1 m8] at H1 H2
    obtain ⟨r1, r2, r3⟩ := nx_rest l0 m1 m8
    have hst := st_le (x := c % 8 + 1) (by omega) m8
    rw [r1.resolve_left hz] at H1
    clear r1
    by_cases hf : c % 8 + 1 + st (c % 8 + 1) ≤ b % 1001
    · rw [r2 hf] at H2
      clear r2 r3
      generalize st (c % 8 + 1) = z at *
      have e1 : IntKind.i64.wrap (c % 8 + 1 + z) = c % 8 + 1 + z := IntWalk.i64_in _ (by omega)
      obtain ⟨f, hff⟩ : ∃ f, c % 8 + 1 + z = f := ⟨_, rfl⟩
      go_enter Try.func8, Try.ntmps8
      go_wp2_with (first
        | (go_at_call 9; refine (awake_any _).mono ?_; rintro e w1 ⟨rfl, h1⟩)
        | (go_at_call 10; refine (H3.out _).mono ?_; clear H3; rintro e w2 ⟨rfl, rfl⟩)
        | (go_at_call 12; refine (H1.out _).mono ?_; clear H1; rintro e w2 ⟨rfl, h2⟩)
        | (go_at_call 12; refine (H2.out _).mono ?_; rintro e w3 ⟨rfl, h3⟩))
      all_goals
        go_ret
        exact ⟨ret_bool (by first | rfl | (simp; omega)), below_says (below_says h1 h2) h3⟩
    · have hlt := r3 (by omega)
      clear r2 r3
      generalize nx (c % 8 + 1) (b % 1001) (c % 8 + 1) = x at *
      generalize st (c % 8 + 1) = z at *
      have e1 : IntKind.i64.wrap (c % 8 + 1 + z) = c % 8 + 1 + z := IntWalk.i64_in _ (by omega)
      obtain ⟨f, hff⟩ : ∃ f, c % 8 + 1 + z = f := ⟨_, rfl⟩
      go_enter Try.func8, Try.ntmps8
      go_wp2_with (first
        | (go_at_call 9; refine (awake_any _).mono ?_; rintro e w1 ⟨rfl, h1⟩)
        | (go_at_call 10; refine (H3.out _).mono ?_; clear H3; rintro e w2 ⟨rfl, rfl⟩)
        | (go_at_call 12; refine (H1.out _).mono ?_; clear H1; rintro e w2 ⟨rfl, h2⟩)
        | (go_at_call 12; refine (H2.out _).mono ?_; rintro e w3 ⟨rfl, h3⟩))
      all_goals
        go_ret
        exact ⟨ret_bool (by first | rfl | (simp; omega)), below_says (below_says h1 h2) h3⟩

set_option maxHeartbeats 1600000 in
theorem planFaster_walk (w : World) (a b c : Int) (w0 : (Lit.int .u16 a).wf = true) (w1 : (Lit.int .u8 b).wf = true) (w2 : (Lit.int .u8 c).wf = true) : Calls Try.prog 5 #[.int .u16 a, .int .u8 b, .int .u8 c] w fun e w' => e = .returned (.bool true) ∧ Below w.heap.size w w' := by
  have ha := bounds_u16 w0
  have hb := bounds_u8 w1
  have hc := bounds_u8 w2
  clear w0 w1 w2
  have l0 : 0 ≤ a % 1000 := by omega
  have l1 : a % 1000 ≤ 999 := by omega
  have m0 : 0 ≤ b % 7 := by omega
  have m6 : b % 7 ≤ 6 := by omega
  have v0 : 0 ≤ c % 9 := by omega
  have v8 : c % 9 ≤ 8 := by omega
  have m1 : 1 ≤ b % 7 + 1 := by omega
  have m7 : b % 7 + 1 ≤ 7 := by omega
  obtain ⟨l, hl⟩ : ∃ l, a % 1000 = l := ⟨_, rfl⟩
  obtain ⟨m, hm⟩ : ∃ m, b % 7 + 1 = m := ⟨_, rfl⟩
  obtain ⟨v, hv⟩ : ∃ v, c % 9 = v := ⟨_, rfl⟩
  obtain ⟨p, hp⟩ : ∃ p, m + 1 = p := ⟨_, rfl⟩
  obtain ⟨r, hr⟩ : ∃ r, l + 1 = r := ⟨_, rfl⟩
  rw [hl] at l0 l1
  rw [hm] at m1 m7
  rw [hv] at v0 v8
  have T1 := Lib.hid (fun W => Ticks_any l p W)
  have T2 := Lib.hid (fun W => Ticks_any l m W)
  have T3 := Lib.hid (fun W => Ticks_any r m W)
  have N1 := Lib.hid (fun W => Next_any v l m W)
  have N2 := Lib.hid (fun W => Next_any v r m W)
  have N3 := Lib.hid (fun W => Next_any v l p W)
  rw [Tk_tt l0 (by omega) (by omega) (by omega)] at T1 T2
  rw [Tk_tt (by omega) (by omega) (by omega) (by omega), show r.toNat = l.toNat + 1 by omega] at T3
  rw [Nx_id v0 v8 l0 (by omega) (by omega) (by omega)] at N1 N3
  rw [Nx_id v0 v8 (by omega) (by omega) (by omega) (by omega)] at N2
  have o1 := tt_more m1 m7 l.toNat
  have o2 := tt_mono m1 (show m ≤ 8 by omega) l.toNat
  have o3 := nx_longer v0 v8 l0 m1 (show m ≤ 8 by omega)
  have o4 := nx_more v0 v8 l0 m1 m7
  rw [hp] at o1 o4
  rw [hr] at o3
  have O1 : (tt p l.toNat : Int) ≤ (tt m l.toNat : Int) := by omega
  have O2 : (tt m l.toNat : Int) ≤ (tt m (l.toNat + 1) : Int) := by omega
  clear o1 o2
  generalize (tt p l.toNat : Int) = ta at *
  generalize (tt m l.toNat : Int) = tb at *
  generalize (tt m (l.toNat + 1) : Int) = tc at *
  have T2' := T2
  have N1' := N1
  generalize nx v l m = xa at *
  generalize nx v r m = xb at *
  generalize nx v l p = xc at *
  go_enter Try.func5, Try.ntmps5
  go_wp2_with (first
    | (go_at_call 9; refine (awake_any _).mono ?_; rintro e w1 ⟨rfl, h1⟩)
    | (go_at_call 14; (with_reducible refine (T1.out _).mono ?_); clear T1; rintro e w2 ⟨rfl, h2⟩)
    | (go_at_call 14; (with_reducible refine (T3.out _).mono ?_); clear T3; rintro e w5 ⟨rfl, h5⟩)
    | (go_at_call 14; (with_reducible refine (T2.out _).mono ?_); clear T2; rintro e w3 ⟨rfl, h3⟩)
    | (go_at_call 14; (with_reducible refine (T2'.out _).mono ?_); rintro e w4 ⟨rfl, h4⟩)
    | (go_at_call 12; (with_reducible refine (N2.out _).mono ?_); clear N2; rintro e w7 ⟨rfl, h7⟩)
    | (go_at_call 12; (with_reducible refine (N3.out _).mono ?_); clear N3; rintro e w9 ⟨rfl, h9⟩)
    | (go_at_call 12; (with_reducible refine (N1.out _).mono ?_); clear N1; rintro e w6 ⟨rfl, h6⟩)
    | (go_at_call 12; (with_reducible refine (N1'.out _).mono ?_); rintro e w8 ⟨rfl, h8⟩))
  go_ret
  exact ⟨rfl, below_says (below_says (below_says (below_says (below_says (below_says (below_says (below_says h1 h2) h3) h4) h5) h6) h7) h8) h9⟩

end Go.Proofs.Ytfmefjpojnbdeaa.Walk
