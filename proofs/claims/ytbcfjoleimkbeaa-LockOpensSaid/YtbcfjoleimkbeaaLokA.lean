/- Contracts of lock's functions, of the law's may. -/
import Derived.Test.YtbcfjoleimkbeaaCarC
import Derived.Test.YtbcfjoleimkbeaaLefA0
import Derived.Test.YtbcfjoleimkbeaaLokP
namespace Go.Proofs.Ytbcfjoleimkbeaa.Lok
open Go.RowKit Go.Proofs.Ytbcfjoleimkbeaa.CarP Go.Proofs.Ytbcfjoleimkbeaa.LefP Go.Proofs.Ytbcfjoleimkbeaa.LokP Go.Proofs.Ytbcfjoleimkbeaa.Box
set_option linter.unusedVariables false

theorem Moves_any (l : L) (w : World) : Calls Try.prog 10 #[Lef.val l] w (Says w (.bool (decide (l.o = 0)))) := by
  have HS : Hid (∀ W, Calls Try.prog 16 #[Lef.val l] W (Says W (.bool (decide (l.o = 0))))) := Lib.hid fun W => Lef.Shut_any l W
  obtain ⟨o, d⟩ := l
  unfold Lef.val at *
  simp only at *
  generalize decide (o = 0) = r at *
  go_enter Try.func10, Try.ntmps10
  go_wp2_with (go_at_call 16; refine (HS.out _).mono ?_; rintro e w1 ⟨rfl, h1⟩)
  go_ret
  exact ⟨rfl, below_more below_box h1 (Nat.le_refl _)⟩

theorem Opens_any (c : K) (hp : 0 ≤ c.p) (w : World) : Calls Try.prog 11 #[Car.val c] w (Says w (.bool (lv c))) := by
  have HS : Hid (∀ W, Calls Try.prog 13 #[Car.val c] W (Says W (.bool (lv c)))) := Lib.hid fun W => Car.Level_any c hp W
  generalize lv c = r at *
  obtain ⟨p, v, l⟩ := c
  unfold Car.val at *
  simp only at *
  go_enter Try.func11, Try.ntmps11
  go_wp2_with (go_at_call 13; refine (HS.out _).mono ?_; rintro e w1 ⟨rfl, h1⟩)
  go_ret
  exact ⟨rfl, below_more below_box h1 (Nat.le_refl _)⟩

theorem Safe_any (c : K) (hp : 0 ≤ c.p) (l : L) (w : World) : Calls Try.prog 12 #[Car.val c, Lef.val l] w (Says w (.bool (sf c l))) := by
  have HM : Hid (∀ W, Calls Try.prog 10 #[Lef.val l] W (Says W (.bool (decide (l.o = 0))))) := Lib.hid fun W => Moves_any l W
  have HO : Hid (∀ W, Calls Try.prog 11 #[Car.val c] W (Says W (.bool (lv c)))) := Lib.hid fun W => Opens_any c hp W
  have hj := Lib.hid (J.two w (Car.arr c) (Lef.arr l) 23 25)
  unfold sf
  generalize lv c = y at *
  obtain ⟨p, v, k⟩ := c
  obtain ⟨o, d⟩ := l
  unfold Car.val Car.arr Lef.val Lef.arr at *
  simp only at *
  generalize decide (o = 0) = x at *
  cases x
  · go_enter Try.func12, Try.ntmps12
    go_wp2_with (first
      | (go_at_call 10; refine (HM.out _).mono ?_; clear HM; rintro e w1 ⟨rfl, h1⟩; have hj1 := Lib.hid (hj.out.next h1); clear h1; obtain ⟨a0, a1, a2⟩ := (hj1.out.bx 1 rfl).c3)
      | (go_at_call 11; refine (HO.out _).mono ?_; clear HO; rintro e w2 ⟨rfl, h2⟩; have hj2 := Lib.hid (hj1.out.next h2)))
    go_ret
    exact ⟨by simp, hj2.out.below⟩
  · go_enter Try.func12, Try.ntmps12
    go_wp2_with (first
      | (go_at_call 10; refine (HM.out _).mono ?_; clear HM; rintro e w1 ⟨rfl, h1⟩; have hj1 := Lib.hid (hj.out.next h1); clear h1; obtain ⟨a0, a1, a2⟩ := (hj1.out.bx 1 rfl).c3))
    go_ret
    exact ⟨by simp, hj1.out.below⟩

/-- what may be done with doors: the closure, and what it holds -/
def fn (X : Nat) : Value := .func (.func 22) #[] #[.pointer (some ⟨X + 1, 0, none⟩), .pointer (some ⟨X, 0, none⟩)]
theorem doors_any (c : K) (b : Bool) (w : World) : Calls Try.prog 17 #[Car.val c, .bool b] w fun e w' => e = .returned (fn w.heap.size) ∧ J w w' [(w.heap.size + 1, #[.bool b]), (w.heap.size, Car.arr c)] := by
  have hj := Lib.hid (J.two w (Car.arr c) #[.bool b] 23 4)
  obtain ⟨p, v, k⟩ := c
  unfold Car.val Car.arr fn at *
  simp only at *
  go_enter Try.func17, Try.ntmps17
  go_wp2
  go_ret
  exact ⟨rfl, hj.out⟩

theorem doors1_any (c : K) (hp : 0 ≤ c.p) (b : Bool) (what : Int) (X Y : Nat) (w : World) (hX : Bx w X (Car.arr c)) (hY : Bx w Y #[.bool b]) :
    Calls Try.prog 22 #[.int .i64 what, .pointer (some ⟨Y, 0, none⟩), .pointer (some ⟨X, 0, none⟩)] w (Says w (.bool (md (lv c) b what))) := by
  have HO : Hid (∀ W, Calls Try.prog 11 #[Car.val c] W (Says W (.bool (lv c)))) := Lib.hid fun W => Opens_any c hp W
  obtain ⟨r, hr⟩ : ∃ r, md (lv c) b what = r := ⟨_, rfl⟩
  rw [hr]
  unfold md at hr
  generalize lv c = y at *
  obtain ⟨p, v, k⟩ := c
  unfold Car.val Car.arr at *
  simp only at *
  obtain ⟨a0, a1, a2⟩ := hX.c3
  have a3 := hY.c1
  clear hX hY hp
  by_cases k2 : what = 2
  · rw [if_pos k2] at hr
    subst k2; subst hr
    go_enter Try.func22, Try.ntmps22
    go_wp2
    go_ret
    exact ⟨rfl, Below.refl _ _⟩
  · rw [if_neg k2] at hr
    have d2 : (what == 2) = false := by simpa using k2
    by_cases k1 : what = 1
    · rw [if_pos k1] at hr
      subst k1; subst hr
      cases b
      · go_enter Try.func22, Try.ntmps22
        go_wp2
        go_ret
        exact ⟨rfl, Below.refl _ _⟩
      · go_enter Try.func22, Try.ntmps22
        go_wp2_with (go_at_call 11; refine (HO.out _).mono ?_; clear HO; rintro e w1 ⟨rfl, h1⟩)
        go_ret
        exact ⟨by simp, h1⟩
    · rw [if_neg k1] at hr
      have d1 : (what == 1) = false := by simpa using k1
      subst hr
      go_enter Try.func22, Try.ntmps22
      go_wp2
      go_ret
      exact ⟨rfl, Below.refl _ _⟩

set_option maxHeartbeats 1600000 in
theorem Does_any (c : K) (hp : 0 ≤ c.p) (l : L) (vel : Int) (b : Bool) (what : Int) (w : World) :
    Calls Try.prog 9 #[Car.val c, Lef.val l, .int .i64 vel, .bool b, .int .i64 what] w (Says w (.tuple #[.int .i64 (dv l.o vel), .bool (db l.o b), .int .i64 (dw (lv c) (db l.o b) what)])) := by
  have HM : Hid (∀ W, Calls Try.prog 10 #[Lef.val l] W (Says W (.bool (decide (l.o = 0))))) := Lib.hid fun W => Moves_any l W
  have HD : Hid (∀ b W, Calls Try.prog 17 #[Car.val c, .bool b] W fun e w' => e = .returned (fn W.heap.size) ∧ J W w' [(W.heap.size + 1, #[.bool b]), (W.heap.size, Car.arr c)]) := Lib.hid fun b W => doors_any c b W
  have H1 : Hid (∀ b X W w', J w' W [(X + 1, #[.bool b]), (X, Car.arr c)] → Calls Try.prog 22 #[.int .i64 what, .pointer (some ⟨X + 1, 0, none⟩), .pointer (some ⟨X, 0, none⟩)] W (Says W (.bool (md (lv c) b what)))) := Lib.hid fun b X W w' h => doors1_any c hp b what X (X + 1) W (h.bx 1 rfl) (h.bx 0 rfl)
  have hj := Lib.hid (J.two w (Car.arr c) (Lef.arr l) 23 25)
  have HD' := Lib.hid (HD.out (db l.o b))
  have H1' := Lib.hid (H1.out (db l.o b))
  unfold dw
  clear HD H1
  generalize md (lv c) (db l.o b) what = m at *
  obtain ⟨p, v, k⟩ := c
  obtain ⟨o, d⟩ := l
  unfold Car.val Car.arr Lef.val Lef.arr fn at *
  simp only at *
  by_cases ho : o = 0
  · have e1 : db o b = b := by unfold db; rw [if_pos ho]
    have e2 : dv o vel = vel := by unfold dv; rw [if_pos ho]
    have e3 : decide (o = 0) = true := by simpa using ho
    rw [e1] at HD' H1' ⊢
    rw [e2]
    rw [e3] at HM
    clear e1 e2 e3 ho
    cases m
    all_goals
      go_enter Try.func9, Try.ntmps9
      go_wp2_with (first
        | (go_at_call 10; refine (HM.out _).mono ?_; clear HM; rintro e w1 ⟨rfl, h1⟩; have hj1 := Lib.hid (hj.out.next h1); clear h1 hj; obtain ⟨a0, a1, a2⟩ := (hj1.out.bx 1 rfl).c3)
        | (go_at_call 17; refine (HD'.out _).mono ?_; clear HD'; rintro e w2 ⟨rfl, k2⟩; have hj2 := Lib.hid (hj1.out.below.trans (k2.below.mono hj1.out.below.size)); have hc := Lib.hid (H1'.out _ _ _ k2); clear k2 H1')
        | (go_at_call 22; refine hc.out.mono ?_; clear hc; rintro e w3 ⟨rfl, h3⟩))
      exact bodyPost_ret (by simp [results, Try.results9, go_sem]) rfl ⟨rfl, hj2.out.trans (h3.mono hj2.out.size)⟩
  · have e1 : db o b = true := by unfold db; rw [if_neg ho]
    have e2 : dv o vel = 0 := by unfold dv; rw [if_neg ho]
    have e3 : decide (o = 0) = false := by simpa using ho
    rw [e1] at HD' H1' ⊢
    rw [e2]
    rw [e3] at HM
    clear e1 e2 e3 ho
    cases m
    all_goals
      go_enter Try.func9, Try.ntmps9
      go_wp2_with (first
        | (go_at_call 10; refine (HM.out _).mono ?_; clear HM; rintro e w1 ⟨rfl, h1⟩; have hj1 := Lib.hid (hj.out.next h1); clear h1 hj; obtain ⟨a0, a1, a2⟩ := (hj1.out.bx 1 rfl).c3)
        | (go_at_call 17; refine (HD'.out _).mono ?_; clear HD'; rintro e w2 ⟨rfl, k2⟩; have hj2 := Lib.hid (hj1.out.below.trans (k2.below.mono hj1.out.below.size)); have hc := Lib.hid (H1'.out _ _ _ k2); clear k2 H1')
        | (go_at_call 22; refine hc.out.mono ?_; clear hc; rintro e w3 ⟨rfl, h3⟩))
      exact bodyPost_ret (by simp [results, Try.results9, go_sem]) rfl ⟨rfl, hj2.out.trans (h3.mono hj2.out.size)⟩

end Go.Proofs.Ytbcfjoleimkbeaa.Lok
