/- Contracts of car.Floor, moved, Step; of the law's may, of. -/
import Derived.Test.YtngcmibgpmnohaaCarA
namespace Go.Proofs.Ytngcmibgpmnohaa.Car
open Go.RowKit Go.Proofs.Ytngcmibgpmnohaa.CarP Go.Proofs.Ytngcmibgpmnohaa.Box
set_option linter.unusedVariables false

/-- a car's cells -/
def arr (c : K) : Array Value := #[.int .i64 c.p, .int .i64 c.v, .int .i64 c.l]

set_option maxHeartbeats 800000 in
theorem Floor_any (c : K) (hp : 0 ≤ c.p) (p1 : c.p ≤ 1000000) (w : World) : Calls Try.prog 16 #[val c] w (Says w (.int .i64 (c.p / 8))) := by
  have HJ := Lib.hid (J.one w (arr c) 23).drew
  have HA : Hid (∀ W, Hid (J w W [(w.heap.size, arr c)]) → Calls Try.prog 23 #[val c] W fun e W' => e = .returned (.int .i64 (c.p % 8)) ∧ Hid (J w W' [(w.heap.size, arr c)])) := Lib.hid fun W h => j_of h (above_any c hp W)
  obtain ⟨p, v, l⟩ := c
  unfold val arr at *
  simp only at HA hp HJ p1 ⊢
  obtain ⟨q, hq⟩ : ∃ q, p / 8 = q := ⟨_, rfl⟩
  rw [hq]
  have ha0 : 0 ≤ p % 8 := by omega
  have ha8 : p % 8 < 8 := by omega
  have e1 : IntKind.i64.wrap (p - p % 8) = p - p % 8 := IntWalk.i64_in _ (by omega)
  have e2 : (p - p % 8).tdiv 8 = q := by rw [Int.tdiv_eq_ediv_of_nonneg (by omega)]; omega
  have e3 : IntKind.i64.wrap q = q := IntWalk.i64_in _ (by omega)
  clear hq
  generalize p % 8 = a at *
  go_enter Try.func16, Try.ntmps16
  go_wp2
  go_region_held (fun W' => W'.cell? ⟨w.heap.size, 0, none⟩ = some (.int .i64 p) ∧ W'.cell? ⟨w.heap.size, 1, none⟩ = some (.int .i64 v) ∧ W'.cell? ⟨w.heap.size, 2, none⟩ = some (.int .i64 l) ∧ Hid (J w W' [(w.heap.size, #[.int .i64 p, .int .i64 v, .int .i64 l])]))
    ((have hj := ‹Hid (J _ _ _)›; exact ⟨hj.out.cell 0 0 rfl rfl, hj.out.cell 0 1 rfl rfl, hj.out.cell 0 2 rfl rfl, hj⟩))
    ((first | (go_at_call 23; have hj0 := ‹Hid (J _ _ _)›; refine (HA.out _ hj0).mono ?_; clear hj0; rintro e w' ⟨rfl, hj'⟩)))
  all_goals
    go_wp2
    go_ret
    have hj := ‹Hid (J _ _ _)›
    exact ⟨rfl, hj.out.below⟩

/-- a car that moved: within the places up to t -/
def mv (c : K) (vel t : Int) : K := let q := cl (c.p + mg c.v vel) 0 t; if q = c.p + mg c.v vel then ⟨q, mg c.v vel, c.l⟩ else ⟨q, 0, c.l⟩
theorem mv_go (c : K) (vel f : Int) : mv c vel (tp f) = go c vel f := rfl

set_option maxHeartbeats 1600000 in
theorem moved_any (c : K) (h : c.May) (vel t : Int) (w : World) : Calls Try.prog 20 #[val c, .int .i64 vel, .int .i64 t, .func (.func 21) #[val c] #[]] w (Says w (val (mv c vel t))) := by
  have HM : Hid (∀ W, Calls Try.prog 21 #[val c, .int .i64 vel] W (Says W (.int .i64 (mg c.v vel)))) := Lib.hid fun W => mayGo_any c h.v0 h.v1 vel W
  have hb := mg_bd c.v vel
  obtain ⟨p, v, l⟩ := c
  obtain ⟨p0, p1, v0, v1⟩ := h
  unfold val at *
  simp only at HM hb p0 p1 v0 v1 ⊢
  have HB := Lib.hid (fun W => bounded_any (p + mg v vel) 0 t W)
  have hmv : mv ⟨p, v, l⟩ vel t = if cl (p + mg v vel) 0 t = p + mg v vel then ⟨cl (p + mg v vel) 0 t, mg v vel, l⟩ else ⟨cl (p + mg v vel) 0 t, 0, l⟩ := rfl
  generalize mv ⟨p, v, l⟩ vel t = r at *
  generalize mg v vel = m at *
  have HJ := Lib.hid (J.two w #[.int .i64 p, .int .i64 v, .int .i64 l] #[.int .i64 0, .int .i64 0, .int .i64 0] 23 23)
  obtain ⟨s, hs⟩ : ∃ s, p + m = s := ⟨_, rfl⟩
  rw [hs] at HB hmv
  have e1 : IntKind.i64.wrap (p + m) = s := by rw [← hs]; exact IntWalk.i64_in _ (by omega)
  clear hs
  generalize cl s 0 t = q at *
  have HS : Hid (∀ W, Hid (J w W [(w.heap.size + 1, #[.int .i64 0, .int .i64 0, .int .i64 0]), (w.heap.size, #[.int .i64 p, .int .i64 v, .int .i64 l])]) → Hid (J w ((W.setCell ⟨w.heap.size, 1, none⟩ (.int .i64 m)).setCell ⟨w.heap.size, 0, none⟩ (.int .i64 s)) [(w.heap.size + 1, #[.int .i64 0, .int .i64 0, .int .i64 0]), (w.heap.size, #[.int .i64 s, .int .i64 m, .int .i64 l])])) :=
    Lib.hid fun W h => Lib.hid (by have := (h.out.set 1 (.int .i64 m) (Nat.le_refl _)).set 0 (.int .i64 s) (Nat.le_refl _); simpa using this)
  have HB2 : Hid (∀ W bs, Hid (J w W bs) → Calls Try.prog 22 #[.int .i64 s, .int .i64 0, .int .i64 t] W fun e W' => e = .returned (.int .i64 q) ∧ Hid (J w W' bs)) := Lib.hid fun W bs h => j_same h (HB.out W)
  clear HB
  by_cases hq : q = s
  · rw [if_pos hq] at hmv
    subst hq
    subst hmv
    have e2 : (q != q) = false := by simp
    go_enter Try.func20, Try.ntmps20
    go_wp2_with (first
      | (go_at_call 21; refine (HM.out _).mono ?_; rintro e w1 ⟨rfl, h1⟩; have hj1 := Lib.hid (HJ.out.next h1); clear HJ HM h1; obtain ⟨a0, a1, a2⟩ := (hj1.out.bx 1 rfl).c3; obtain ⟨f0, f1, f2⟩ := (hj1.out.bx 1 rfl).f3)
      | (go_at_call 22; refine (HB2.out _ _ (HS.out _ hj1)).mono ?_; clear HB2 HS hj1 a0 a1 a2 f0 f1 f2; rintro e w2 ⟨rfl, hj2⟩; obtain ⟨a0, a1, a2⟩ := (hj2.out.bx 1 rfl).c3; obtain ⟨f0, f1, f2⟩ := (hj2.out.bx 1 rfl).f3; obtain ⟨b0, b1, b2⟩ := (hj2.out.bx 0 rfl).c3; obtain ⟨g0, g1, g2⟩ := (hj2.out.bx 0 rfl).f3))
    have hj3 := ((hj2.out.set 0 (.int .i64 q) (X := w.heap.size + 1) (by omega)).set 1 (.int .i64 m) (X := w.heap.size + 1) (by omega)).set 2 (.int .i64 l) (X := w.heap.size + 1) (by omega)
    refine bodyPost_ret (v := .agg #[.int .i64 q, .int .i64 m, .int .i64 l]) (by simp [results, Try.results20, go_sem, *]) rfl ⟨rfl, hj3.below⟩
  · rw [if_neg hq] at hmv
    subst hmv
    have e2 : (q != s) = true := by simpa using hq
    go_enter Try.func20, Try.ntmps20
    go_wp2_with (first
      | (go_at_call 21; refine (HM.out _).mono ?_; rintro e w1 ⟨rfl, h1⟩; have hj1 := Lib.hid (HJ.out.next h1); clear HJ HM h1; obtain ⟨a0, a1, a2⟩ := (hj1.out.bx 1 rfl).c3; obtain ⟨f0, f1, f2⟩ := (hj1.out.bx 1 rfl).f3)
      | (go_at_call 22; refine (HB2.out _ _ (HS.out _ hj1)).mono ?_; clear HB2 HS hj1 a0 a1 a2 f0 f1 f2; rintro e w2 ⟨rfl, hj2⟩; obtain ⟨a0, a1, a2⟩ := (hj2.out.bx 1 rfl).c3; obtain ⟨f0, f1, f2⟩ := (hj2.out.bx 1 rfl).f3; obtain ⟨b0, b1, b2⟩ := (hj2.out.bx 0 rfl).c3; obtain ⟨g0, g1, g2⟩ := (hj2.out.bx 0 rfl).f3))
    have hj3 := ((((hj2.out.set 0 (.int .i64 q) (X := w.heap.size) (by omega)).set 1 (.int .i64 0) (X := w.heap.size) (by omega)).set 0 (.int .i64 q) (X := w.heap.size + 1) (by omega)).set 1 (.int .i64 0) (X := w.heap.size + 1) (by omega)).set 2 (.int .i64 l) (X := w.heap.size + 1) (by omega)
    refine bodyPost_ret (v := .agg #[.int .i64 q, .int .i64 0, .int .i64 l]) (by simp [results, Try.results20, go_sem, *]) rfl ⟨rfl, hj3.below⟩

theorem of_any (c : K) (w : World) : Calls Try.prog 11 #[val c] w (Says w (val c)) := by
  unfold val
  go_enter Try.func11, Try.ntmps11
  go_wp2
  refine bodyPost_ret (v := .agg #[.int .i64 c.p, .int .i64 c.v, .int .i64 c.l]) (by simp [results, Try.results11, go_sem]) rfl ⟨rfl, ?_⟩
  exact below_two

theorem may_any (c : K) (w : World) : Calls Try.prog 9 #[val c] w (Says w (.bool (mayK c))) := by
  obtain ⟨p, v, l⟩ := c
  unfold val mayK
  simp only
  by_cases h0 : 0 ≤ p
  · have d0 : decide (0 ≤ p) = true := by simpa using h0
    by_cases h1 : p ≤ 1000000
    · have d1 : decide (p ≤ 1000000) = true := by simpa using h1
      by_cases h2 : -8 ≤ v
      · have d2 : decide (-8 ≤ v) = true := by simpa using h2
        have E : Hid ((decide (0 ≤ p) && decide (p ≤ 1000000) && decide (-8 ≤ v) && decide (v ≤ 8)) = decide (v ≤ 8)) := Lib.hid (by rw [d0, d1, d2]; simp)
        go_enter Try.func9, Try.ntmps9
        go_wp2
        go_ret
        first
          | exact ⟨rfl, below_box⟩
          | exact ⟨ret_bool E.out.symm, below_box⟩
      · have d2 : decide (-8 ≤ v) = false := by simpa using h2
        have E : Hid ((decide (0 ≤ p) && decide (p ≤ 1000000) && decide (-8 ≤ v) && decide (v ≤ 8)) = false) := Lib.hid (by rw [d2]; simp)
        go_enter Try.func9, Try.ntmps9
        go_wp2
        go_ret
        first
          | exact ⟨rfl, below_box⟩
          | exact ⟨ret_bool E.out.symm, below_box⟩
    · have d1 : decide (p ≤ 1000000) = false := by simpa using h1
      have E : Hid ((decide (0 ≤ p) && decide (p ≤ 1000000) && decide (-8 ≤ v) && decide (v ≤ 8)) = false) := Lib.hid (by rw [d1]; simp)
      go_enter Try.func9, Try.ntmps9
      go_wp2
      go_ret
      first
        | exact ⟨rfl, below_box⟩
        | exact ⟨ret_bool E.out.symm, below_box⟩
  · have d0 : decide (0 ≤ p) = false := by simpa using h0
    have E : Hid ((decide (0 ≤ p) && decide (p ≤ 1000000) && decide (-8 ≤ v) && decide (v ≤ 8)) = false) := Lib.hid (by rw [d0]; simp)
    go_enter Try.func9, Try.ntmps9
    go_wp2
    go_ret
    first
      | exact ⟨rfl, below_box⟩
      | exact ⟨ret_bool E.out.symm, below_box⟩

end Go.Proofs.Ytngcmibgpmnohaa.Car
