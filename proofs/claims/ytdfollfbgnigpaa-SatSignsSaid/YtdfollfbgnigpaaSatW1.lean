/- The walks of SatTells, SatBounds, SatSigns. -/
import Derived.Test.YtdfollfbgnigpaaSatW0
namespace Go.Proofs.Ytdfollfbgnigpaa.Walk
open Go.RowKit Go.ChangeShapes Go.Proofs.Ytdfollfbgnigpaa.Sees Go.Proofs.Ytdfollfbgnigpaa.SatP Go.Proofs.Ytdfollfbgnigpaa.Sat
set_option linter.unusedVariables false

theorem below3 {a b c : World} (h : Below a.heap.size a b) (k : Below b.heap.size b c) : Below a.heap.size a c := h.trans (k.mono h.size)

/-- what a function of two numbers answers, laid ahead -/
abbrev Says (f : FuncId) (a b x : Int) (p : Bool) : Prop := ∀ W : World, Calls Try.prog f #[.int .i64 a, .int .i64 b] W (Pair W x p)
theorem add_says (a b : Int) {x : Int} {p : Bool} (h : addV a b = x) (k : addM a b = p) : Hid (Says 10 a b x p) := Lib.hid fun W => by subst h k; exact Add_any a b W
theorem mul_says (a b : Int) {x : Int} {p : Bool} (h : mulV a b = x) (k : mulM a b = p) : Hid (Says 12 a b x p) := Lib.hid fun W => by subst h k; exact Mul_any a b W
theorem radd_says (a b : Int) {x : Int} {p : Bool} (h : addV a b = x) (k : addM a b = p) : Hid (∀ W : World, Calls Try.prog 11 #[.int .i64 a, .int .i64 b] W fun e w' => e = .returned (.tuple #[.int .i64 x, .bool p]) ∧ W = w') :=
  Lib.hid fun W => by subst h k; exact refAdd_any a b W
theorem rmul_says (a b : Int) {x : Int} {p : Bool} (h : mulV a b = x) (k : mulM a b = p) : Hid (∀ W : World, Calls Try.prog 13 #[.int .i64 a, .int .i64 b] W fun e w' => e = .returned (.tuple #[.int .i64 x, .bool p]) ∧ W = w') :=
  Lib.hid fun W => by subst h k; exact refMul_any a b W

set_option maxHeartbeats 800000 in
theorem satTells_walk (w : World) (a b : Int) (ha : (Lit.int .i64 a).wf = true) (hb : (Lit.int .i64 b).wf = true) :
    Calls Try.prog 3 #[.int .i64 a, .int .i64 b] w fun e w' => e = .returned (.bool true) ∧ Below w.heap.size w w' := by
  obtain ⟨x, hx⟩ : ∃ x, addV a b = x := ⟨_, rfl⟩
  obtain ⟨p, hp⟩ : ∃ x, addM a b = x := ⟨_, rfl⟩
  obtain ⟨y, hy⟩ : ∃ x, mulV a b = x := ⟨_, rfl⟩
  obtain ⟨q, hq⟩ : ∃ x, mulM a b = x := ⟨_, rfl⟩
  have H1 := add_says a b hx hp
  have H2 := mul_says a b hy hq
  have H3 := radd_says a b hx hp
  have H4 := rmul_says a b hy hq
  have e1 : (p == p) = true := by simp
  have e2 : (q == q) = true := by simp
  clear hx hp hy hq ha hb
  go_enter Try.func3, Try.ntmps3
  go_wp2_with (first
    | (go_at_call 9; refine (awake_any _).mono ?_; rintro e w1 ⟨rfl, hd1⟩)
    | (go_at_call 10; refine (H1.out _).mono ?_; rintro e w2 ⟨rfl, hd2⟩)
    | (go_at_call 11; refine (H3.out _).mono ?_; rintro e w' ⟨rfl, rfl⟩)
    | (go_at_call 12; refine (H2.out _).mono ?_; rintro e w3 ⟨rfl, hd3⟩)
    | (go_at_call 13; refine (H4.out _).mono ?_; rintro e w' ⟨rfl, rfl⟩))
  go_ret
  exact ⟨rfl, below3 hd1 (below3 hd2 hd3)⟩

theorem addV_bd (a b : Int) : -1099511627776 ≤ addV a b ∧ addV a b ≤ 1099511627776 := ⟨bnd_ge _, bnd_le _⟩
theorem mulV_bd (a b : Int) : -1099511627776 ≤ mulV a b ∧ mulV a b ≤ 1099511627776 := ⟨bnd_ge _, bnd_le _⟩

set_option maxHeartbeats 800000 in
theorem satBounds_walk (w : World) (a b : Int) (ha : (Lit.int .i64 a).wf = true) (hb : (Lit.int .i64 b).wf = true) :
    Calls Try.prog 6 #[.int .i64 a, .int .i64 b] w fun e w' => e = .returned (.bool true) ∧ Below w.heap.size w w' := by
  obtain ⟨x, hx⟩ : ∃ x, addV a b = x := ⟨_, rfl⟩
  obtain ⟨p, hp⟩ : ∃ x, addM a b = x := ⟨_, rfl⟩
  obtain ⟨y, hy⟩ : ∃ x, mulV a b = x := ⟨_, rfl⟩
  obtain ⟨q, hq⟩ : ∃ x, mulM a b = x := ⟨_, rfl⟩
  obtain ⟨n, hn⟩ : ∃ x, bnd a = x := ⟨_, rfl⟩
  obtain ⟨t, ht⟩ : ∃ x, metB a = x := ⟨_, rfl⟩
  have e0 : (t == (n != a)) = true := by rw [← hn, ← metB_eq, ht]; simp
  have bx := addV_bd a b
  have b_y := mulV_bd a b
  rw [hx] at bx
  rw [hy] at b_y
  obtain ⟨bx1, bx2⟩ := bx
  obtain ⟨by1, by2⟩ := b_y
  have H1 := add_says a b hx hp
  have H2 := add_says b a ((addV_comm b a).trans hx) ((addM_comm b a).trans hp)
  have H3 := mul_says a b hy hq
  have H4 := mul_says b a ((mulV_comm b a).trans hy) ((mulM_comm b a).trans hq)
  have H5 := mul_says a 1 (x := n) (p := t) (by unfold mulV; rw [bnd_id (x := 1) (by omega) (by omega), Int.mul_one, bnd_bnd, hn]) (by unfold mulM; rw [bnd_id (x := 1) (by omega) (by omega), Int.mul_one, metB_bnd, ht, metB_id (x := 1) (by omega) (by omega)]; simp)
  have H6 := add_says a 0 (x := n) (p := t) (by unfold addV; rw [bnd_id (x := 0) (by omega) (by omega), Int.add_zero, bnd_bnd, hn]) (by unfold addM; rw [bnd_id (x := 0) (by omega) (by omega), Int.add_zero, metB_bnd, ht, metB_id (x := 0) (by omega) (by omega)]; simp)
  have e1 : (p == p) = true := by simp
  have e2 : (q == q) = true := by simp
  clear hx hp hy hq ha hb hn ht
  go_enter Try.func6, Try.ntmps6
  go_wp2_with (first
    | (go_at_call 9; refine (awake_any _).mono ?_; rintro e w1 ⟨rfl, hd1⟩)
    | (go_at_call 10; (with_reducible refine (H1.out _).mono ?_); rintro e w2 ⟨rfl, hd2⟩)
    | (go_at_call 10; (with_reducible refine (H2.out _).mono ?_); rintro e w3 ⟨rfl, hd3⟩)
    | (go_at_call 12; (with_reducible refine (H3.out _).mono ?_); rintro e w4 ⟨rfl, hd4⟩)
    | (go_at_call 12; (with_reducible refine (H4.out _).mono ?_); rintro e w5 ⟨rfl, hd5⟩)
    | (go_at_call 12; (with_reducible refine (H5.out _).mono ?_); rintro e w6 ⟨rfl, hd6⟩)
    | (go_at_call 10; (with_reducible refine (H6.out _).mono ?_); rintro e w7 ⟨rfl, hd7⟩))
  go_ret
  exact ⟨rfl, below3 hd1 (below3 hd2 (below3 hd3 (below3 hd4 (below3 hd5 (below3 hd6 hd7)))))⟩

set_option maxHeartbeats 800000 in
theorem satSigns_walk (w : World) (a b : Int) (ha : (Lit.int .i64 a).wf = true) (hb : (Lit.int .i64 b).wf = true) :
    Calls Try.prog 8 #[.int .i64 a, .int .i64 b] w fun e w' => e = .returned (.bool true) ∧ Below w.heap.size w w' := by
  obtain ⟨a1, a2⟩ := bounds_i64 ha
  obtain ⟨b1, b2⟩ := bounds_i64 hb
  clear ha hb
  by_cases hbig : a < -4611686018427387904 ∨ b < -4611686018427387904
  · rcases (show a < -4611686018427387904 ∨ ¬ a < -4611686018427387904 ∧ b < -4611686018427387904 by omega) with h | ⟨h, h2⟩
    all_goals
      clear hbig
      go_enter Try.func8, Try.ntmps8
      go_wp2_with (go_at_call 9; refine (awake_any _).mono ?_; rintro e w1 ⟨rfl, hd1⟩)
      go_ret
      exact ⟨rfl, hd1⟩
  · have g1 : -4611686018427387904 ≤ a := by omega
    have g2 : -4611686018427387904 ≤ b := by omega
    clear hbig
    obtain ⟨x, hx⟩ : ∃ x, mulV a b = x := ⟨_, rfl⟩
    obtain ⟨p, hp⟩ : ∃ x, mulM a b = x := ⟨_, rfl⟩
    obtain ⟨r, hr⟩ : ∃ x, mulM a 0 = x := ⟨_, rfl⟩
    obtain ⟨s, hs⟩ : ∃ x, addM a (-a) = x := ⟨_, rfl⟩
    have bx := mulV_bd a b
    rw [hx] at bx
    obtain ⟨bx1, bx2⟩ := bx
    have H1 := mul_says a b hx hp
    have H2 := mul_says (-a) b (x := -x) (p := p) (by rw [← hx]; unfold mulV; rw [bnd_neg, Int.neg_mul, bnd_neg]) (by rw [← hp]; unfold mulM; rw [bnd_neg, Int.neg_mul, metB_neg, metB_neg])
    have H3 := mul_says a (-b) (x := -x) (p := p) (by rw [← hx]; unfold mulV; rw [bnd_neg, Int.mul_neg, bnd_neg]) (by rw [← hp]; unfold mulM; rw [bnd_neg, Int.mul_neg, metB_neg, metB_neg])
    have H4 := mul_says a 0 (x := 0) (p := r) (by unfold mulV; rw [bnd_id (x := 0) (by omega) (by omega), Int.mul_zero, bnd_id (by omega) (by omega)]) hr
    have H5 := add_says a (-a) (x := 0) (p := s) (by unfold addV; rw [bnd_neg, Int.add_right_neg, bnd_id (by omega) (by omega)]) hs
    have e1 : (p == p) = true := by simp
    clear hx hp hr hs
    go_enter Try.func8, Try.ntmps8
    go_wp2_with (first
      | (go_at_call 9; refine (awake_any _).mono ?_; rintro e w1 ⟨rfl, hd1⟩)
      | (go_at_call 12; (with_reducible refine (H1.out _).mono ?_); rintro e w2 ⟨rfl, hd2⟩)
      | (go_at_call 12; (with_reducible refine (H2.out _).mono ?_); rintro e w3 ⟨rfl, hd3⟩)
      | (go_at_call 12; (with_reducible refine (H3.out _).mono ?_); rintro e w4 ⟨rfl, hd4⟩)
      | (go_at_call 12; (with_reducible refine (H4.out _).mono ?_); rintro e w5 ⟨rfl, hd5⟩)
      | (go_at_call 10; (with_reducible refine (H5.out _).mono ?_); rintro e w6 ⟨rfl, hd6⟩))
    go_ret
    exact ⟨rfl, below3 hd1 (below3 hd2 (below3 hd3 (below3 hd4 (below3 hd5 hd6))))⟩

end Go.Proofs.Ytdfollfbgnigpaa.Walk
