/- The contract of car.moved. -/
import Derived.Test.YtmdljmlnfihmcaaCarA1
namespace Go.Proofs.Ytmdljmlnfihmcaa.Car
open Go.RowKit Go.Proofs.Ytmdljmlnfihmcaa.CarP Go.Proofs.Ytmdljmlnfihmcaa.Box
set_option linter.unusedVariables false

/-- a car's cells -/
def arr (c : K) : Array Value := #[.int .i64 c.p, .int .i64 c.v, .int .i64 c.l]

/-- a car that moved: within the places up to t -/
def mv (c : K) (vel t : Int) : K := let q := cl (c.p + mg c.v vel) 0 t; if q = c.p + mg c.v vel then ⟨q, mg c.v vel, c.l⟩ else ⟨q, 0, c.l⟩

theorem mv_go (c : K) (vel f : Int) : mv c vel (tp f) = go c vel f := rfl

set_option maxHeartbeats 1600000 in
theorem moved_any (c : K) (h : c.May) (vel t : Int) (w : World) : Calls Try.prog 25 #[val c, .int .i64 vel, .int .i64 t, .func (.func 27) #[val c] #[]] w (Says w (val (mv c vel t))) := by
  have HM : Hid (∀ W, Calls Try.prog 27 #[val c, .int .i64 vel] W (Says W (.int .i64 (mg c.v vel)))) := Lib.hid fun W => mayGo_any c h.v0 h.v1 vel W
  have hb := mg_bd c.v vel
  obtain ⟨p, v, l⟩ := c
  obtain ⟨p0, p1, v0, v1⟩ := h
  unfold val at *
  simp only at HM hb p0 p1 v0 v1 ⊢
  have HB := Lib.hid (fun W => bounded_any (p + mg v vel) 0 t W)
  have hmv : mv ⟨p, v, l⟩ vel t = if cl (p + mg v vel) 0 t = p + mg v vel then ⟨cl (p + mg v vel) 0 t, mg v vel, l⟩ else ⟨cl (p + mg v vel) 0 t, 0, l⟩ := rfl
  generalize mv ⟨p, v, l⟩ vel t = r at *
  generalize mg v vel = m at *
  have HJ := Lib.hid (J.two w #[.int .i64 p, .int .i64 v, .int .i64 l] #[.int .i64 0, .int .i64 0, .int .i64 0] 23 23)
  obtain ⟨s, hs⟩ : ∃ s, p + m = s := ⟨_, rfl⟩
  rw [hs] at HB hmv
  have e1 : IntKind.i64.wrap (p + m) = s := by rw [← hs]; exact IntWalk.i64_in _ (by omega)
  clear hs
  generalize cl s 0 t = q at *
  have HS : Hid (∀ W, Hid (J w W [(w.heap.size + 1, #[.int .i64 0, .int .i64 0, .int .i64 0]), (w.heap.size, #[.int .i64 p, .int .i64 v, .int .i64 l])]) → Hid (J w ((W.setCell ⟨w.heap.size, 1, none⟩ (.int .i64 m)).setCell ⟨w.heap.size, 0, none⟩ (.int .i64 s)) [(w.heap.size + 1, #[.int .i64 0, .int .i64 0, .int .i64 0]), (w.heap.size, #[.int .i64 s, .int .i64 m, .int .i64 l])])) :=
    Lib.hid fun W h => Lib.hid (by have := (h.out.set 1 (.int .i64 m) (Nat.le_refl _)).set 0 (.int .i64 s) (Nat.le_refl _); simpa using this)
  have HB2 : Hid (∀ W bs, Hid (J w W bs) → Calls Try.prog 33 #[.int .i64 s, .int .i64 0, .int .i64 t] W fun e W' => e = .returned (.int .i64 q) ∧ Hid (J w W' bs)) := Lib.hid fun W bs h => j_same h (HB.out W)
  clear HB
  by_cases hq : q = s
  · rw [if_pos hq] at hmv
    subst hq
    subst hmv
    have e2 : (q != q) = false := by simp
    go_enter Try.func25, Try.ntmps25
    go_wp2_with (first
      | (go_at_call 27; refine (HM.out _).mono ?_; rintro e w1 ⟨rfl, h1⟩; have hj1 := Lib.hid (HJ.out.next h1); clear HJ HM h1; obtain ⟨a0, a1, a2⟩ := (hj1.out.bx 1 rfl).c3; obtain ⟨f0, f1, f2⟩ := (hj1.out.bx 1 rfl).f3)
      | (go_at_call 33; refine (HB2.out _ _ (HS.out _ hj1)).mono ?_; clear HB2 HS hj1 a0 a1 a2 f0 f1 f2; rintro e w2 ⟨rfl, hj2⟩; obtain ⟨a0, a1, a2⟩ := (hj2.out.bx 1 rfl).c3; obtain ⟨f0, f1, f2⟩ := (hj2.out.bx 1 rfl).f3; obtain ⟨b0, b1, b2⟩ := (hj2.out.bx 0 rfl).c3; obtain ⟨g0, g1, g2⟩ := (hj2.out.bx 0 rfl).f3))
    have hj3 := ((hj2.out.set 0 (.int .i64 q) (X := w.heap.size + 1) (by omega)).set 1 (.int .i64 m) (X := w.heap.size + 1) (by omega)).set 2 (.int .i64 l) (X := w.heap.size + 1) (by omega)
    refine bodyPost_ret (v := .agg #[.int .i64 q, .int .i64 m, .int .i64 l]) (by simp [results, Try.results25, go_sem, *]) rfl ⟨rfl, hj3.below⟩
  · rw [if_neg hq] at hmv
    subst hmv
    have e2 : (q != s) = true := by simpa using hq
    go_enter Try.func25, Try.ntmps25
    go_wp2_with (first
      | (go_at_call 27; refine (HM.out _).mono ?_; rintro e w1 ⟨rfl, h1⟩; have hj1 := Lib.hid (HJ.out.next h1); clear HJ HM h1; obtain ⟨a0, a1, a2⟩ := (hj1.out.bx 1 rfl).c3; obtain ⟨f0, f1, f2⟩ := (hj1.out.bx 1 rfl).f3)
      | (go_at_call 33; refine (HB2.out _ _ (HS.out _ hj1)).mono ?_; clear HB2 HS hj1 a0 a1 a2 f0 f1 f2; rintro e w2 ⟨rfl, hj2⟩; obtain ⟨a0, a1, a2⟩ := (hj2.out.bx 1 rfl).c3; obtain ⟨f0, f1, f2⟩ := (hj2.out.bx 1 rfl).f3; obtain ⟨b0, b1, b2⟩ := (hj2.out.bx 0 rfl).c3; obtain ⟨g0, g1, g2⟩ := (hj2.out.bx 0 rfl).f3))
    have hj3 := ((((hj2.out.set 0 (.int .i64 q) (X := w.heap.size) (by omega)).set 1 (.int .i64 0) (X := w.heap.size) (by omega)).set 0 (.int .i64 q) (X := w.heap.size + 1) (by omega)).set 1 (.int .i64 0) (X := w.heap.size + 1) (by omega)).set 2 (.int .i64 l) (X := w.heap.size + 1) (by omega)
    refine bodyPost_ret (v := .agg #[.int .i64 q, .int .i64 0, .int .i64 l]) (by simp [results, Try.results25, go_sem, *]) rfl ⟨rfl, hj3.below⟩

end Go.Proofs.Ytmdljmlnfihmcaa.Car
